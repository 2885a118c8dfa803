import PyProof.Rows.All
import Wide.All
import OpenK.AllK
import Wide.FinOn
import Lean
import PyProof.EqAt
import PyProof.EqKinds
import PyProof.TupleCall
import PyProof.P3Eq
import PyProof.Draws
import PyProof.EnumMake
import PyProof.NeData
import KE.LcSums
import PyProof.WalkInts
import PyProof.SeqI3
import PyProof.StrWalks
import PyProof.StrBlockH
import PyProof.StrLawsTight
import PyProof.NeKinds
import KE.KIntText
import KE.KDictOf
import PyProof.Rows.TupDisplay
import PyProof.Rows.SortRuns
import PyProof.Rows.SortShellK
import KE.KSortTup
import KE.KRevIter
import PyProof.FactsAll.range_2
import PyProof.DictCompW
import PyProof.SetRoads
import PyProof.FactsAll.set_1
import PyProof.Rows.SetFrom
import PyProof.CollectWalk
import PyProof.Walks
import PyProof.TupleIter
import PyProof.TupleKey
import PySem.Challenge.RW_rooklands_k94_whole_desks_and_benches
import PyProof.ReprReads
import PyProof.FitsInt
local macro_rules | `(tactic| decide) => `(tactic| decide +kernel)
local macro_rules | `(tactic| omega) => `(tactic| first | lia | omega +splitDisjunctions)
open PySem renaming wpAny_bind->Xa,Addr->Xb,Value->Xc,PyData->Xd,Shared->Xe,mainGlobals->Xf,model->Xg,wpAny->Xh,starEach->Xi,sizeLine->Xj,wpAny_mono->Xk,Heap->Xl,compareOp->Xm,bootBuiltins->Xn,foldedSetIterable->Xo,Obj->Xp,backTo->Xq,binaryOp->Xr,codeAny->Xs,holding->Xt,standAt->Xu,sysModules->Xv,swapsWith->Xw,assignEach->Xx,keywordEach->Xy,backToKw->Xz,getItem->XA,getMethod->XB,callWith->XC,truthy->XD,tupleKind->XE,setItem->XG,DictEntry->XH
open PySem.W renaming Frag->Qa,nsIn->Qh,keepIn->Q7,findIn->Jr,excIn->JH,kia_one->JU,kitOne->Zj,emptyDict->ZA,instObj->ZV,callWith_K->Yj,fnOf->Yp,mroIn->Y9,mg_of->uz,methodCall_KW->Du,plainGet->z5,codeIn->zR,hasDictIn->Dp,clsIn->zT,cellsFrom_some->Me,lookIn->CV,plainGet_of->LK,callWith_K0->LJ,plainOver->Lu,isFn->Cr,takerIn->Lj,makesIn->Li,OpenLaw->Lh,typeIn->KY,looks_mroIn->U7,hideAll_get->U6,of_hideAll->UP,mg_none_of->UO,codeRec_of->UN,specialIn->UD,kitx_list->UC,kitx_dict->UB,handedIn->SX,takesIn->Tj,WalkO->RI
open PySem.Str renaming ofString->Qb,empty->Yl,join->kI,cps_append->zU,mk->vG
open List renaming getElem?_eq_getElem->Qc,length_map->Qd,length_append->Qg,getD_eq_getElem?_getD->Qi,size_toArray->Qk,mem_singleton->Qm,mem_map->Qq,mem_append_right->Qs,getElem?_map->Qt,mem_cons->Qv,length_cons->Qw,range->QD,mem_cons_of_mem->QN,length_range->QR,mem_append->QV,getElem?_eq_some_iff->QX,mem_cons_self->Q1,mem_filter->Q2,map_map->Q4,replicate->Q8,lookup_cons->Jd,mem_of_getElem?->Je,dropLast_concat_getLast->Jh,not_mem_nil->Jo,getElem?_eq_none->Jq,mem_range->Jw,getElem_mem->Jz,map_append->JA,getElem?_range->JN,mem_append_left->JS,append_nil->JW,all_eq_true->JZ,perm_ext_iff_of_nodup->Zg,flatMap_cons->ZH,length_set->ZJ,mem_flatMap->ZN,mem_iff_getElem?->ZP,pairwise_iff_getElem->ZT,nodup_append->Z4,toArray->Z9,replicate_succ->Yb,map_cons->Yc,lookup->Yd,mem_toArray->Yk,length_filter_le->Yv,pairwise_append->YJ,getElem?_append_left->YR,take_length->YX,any_eq_true->YY,filterMap_cons->Y8,getElem?_replicate->Dx,filterMap_map->z4,getElem?_set_self->Dt,find?_cons_of_neg->Ds,take_add_one->z8,pairwise_map->z7,ext_getElem?->z6,length_replicate->Dy,eq_nil_of_length_eq_zero->Mh,getElem?_set_ne->Dm,dropLast_concat->Dk,any_cons->wN,nodup_cons->zS,getElem?_append_right->L3,length_filterMap_le->Mf,flatMap_singleton'->LS,filter_cons_of_neg->LR,all_cons->zJ,length_take->Df,getElem_map->De,find?_cons_of_pos->LX,filter_eq_nil_iff->LW,take_left'->CU,range_succ->CT,of_mem_zip->CS,drop_left'->CQ,any_map->zE,toList_toArray->Lz,map_congr_left->Ly,mem_filterMap->LF,findIdx?_eq_some_iff_getElem->QeB,getElem?_set->Lm,flatten_cons->Ll,append_assoc->Lk,zipWith->Cm,map_nil->Ck,all_map->Cj,flatMap_map->Lq,findIdx?_eq_none_iff->Wv,drop_eq_getElem_cons->Wu,pairwise_singleton->V1,getElem?_cons_succ->V0,filter_cons_of_pos->VZ,take_of_length_le->U5,take_append_drop->UM,pairwise_flatMap->UL,getElem?_toArray->UK,mem_of_getLast?->Uz,length_dropLast->Uy,getLast?_append->Ux,flatMap_append->Tq,pairwise_cons->Tf,getElem_range->Tc,find?->Ho,length_drop->RF,take_range->Pa,length_nil->O_,foldl_cons->O9,map_take->QBH,drop_nil->QBI
open PySem.Heap renaming get?_push_of_some->Qe,lt_size->Ql,get?_push_size->Qo,get?_update_self->J7,get?_update_other->Zh,size_push->Ym,SameBut->Yy,FlyingW->QCo
open Nat renaming le_refl->Qf,ne_of_lt->Qy,lt_of_lt_of_le->QM,le_trans->QQ,zero_le->Q6,le_of_lt->Ja,lt_of_le_of_lt->JJ,pow_le_pow_right->ZB,lt_irrefl->Yg,lt_succ_of_lt->YE,mul_le_mul->YW,ne_of_gt->wO,lt_trichotomy->Dq,lt_succ_self->Dd,min_le_left->CK,le_of_eq->zD,add_sub_cancel->LC,succ_pos->Cq,succ_mul->Cp,le_add_right->KW,two_pow_pos->Ky,not_lt_zero->Kx,mul_le_mul_right->Tr,log2_lt->Ht,le_succ->Hs,add_le_add_left->Th,le_succ_of_le->RG,min_le_right->Pc,log2_le_self->Pb,min_eq_left->Pp
open PySem.PyData renaming int->Qr,eqv->Q3,canLay0->Jb,depthAll->ZZ,canLayAll0->Z0,list->Yr,tuple->YT,str->YU,depth->YV,bool->rA,eqvAll->wV,strOk->O0
open Bool renaming false_ne_true->Qx,and_eq_true_iff->Qz,and_eq_true->Jp,eq_iff_iff->JX,noConfusion->Y0,false_eq_true->zZ,or_eq_true->Kh,and_true->J',true_and->QBL
open PySem renaming Program->QB,World->Jf,wpAny_newObj_type->Jt,wpAny_holding->Jx,Around->JF,Expr->JO,wpAny_truthy_bool->JT,Stmt->Ze,wpAny_call_entry->Zk,FuncData->Zs,Paired->Zy,wpAny_Call_Name_kw->ZD,sizeLine_eq->ZE,wpAny_of_eq->ZM,wpAny_askSetting->ZY,codeAny_builtin->Yf,wpAny_passesOwn->YM,codeAny_mono->YN,mem_of_lookup->YS,wpAny_tryCatch->uy,wpAny_comprehension_free->Dv,call_meets->nP,wpAny_execs_nil->wU,wpAny_callSpecial?_slot->DH,plainId_quiet->uD,wpAny_setState_of->z9,wpAny_newFunctionEnv->Dj,intText?->zP,NameKind->lZ,wpAny_call->rq,wpAny_updateSeq->zV,Fin->rz,Builtin->j7,isSubtype_type->zO,wpAny_pyIter_list->C_,wpAny_pyIter_enum->C9,wpAny_field->wo,wpAny_execs_cons->CW,wpAny_pyNext_list_item->LO,wpAny_pyIter_rangeiter->LN,codeAny_compStart_list->LM,wpAny_typeOf->zq,wpAny_pyNext_list_end->Lx,exec_Assign_Name_used->Lw,builtinLookup_eq_fast->Lv,codeAny_call_builtin->LD,Scope->gW,wpAny_seqItems->Cn,BindsTo->o7,wpAny_attempt->Cf,PassesOwn->v8,wpAny_Return_some->Kz,seqIndex_neg->B8,IsPart->nu,wpAny_eqBool_int->Kg,noFill_tuple_add->Kf,wpAny_specialOf->Im,wpAny_letGo->BG,typeLookup_type->Il,seqIndex_of->BF,codeAny_of_tree->Ik,Within->Ij,Keyword->tz,wpAny_newFunctionEnv_cells->Vc,wpAny_letOwnedTupleGo_enum->Vb,wpAny_setField->HV,wpAny_loadPart->HU,typeIs_str->By,intKind_is->Bx,wpAny_newList->Hz,seq_tuple_add->Hy,rangeSize_one->Hx,call->Hu,wpAny_pyNext_range_end->R5,wpAny_getItem_list_neg->R4,wpAny_isTrue_Compare1->P9,wpAny_formatField_int->P8,concat_meets->Hn,codeAny_call_function->RL,JoinOk->tx,wpAny_loadName_local->Pe,wpAny_setEntries_of->O7,wpAny_loadName_cell->O6,wpAny_Tuple_spliced->O5,IsRangeIter->GO,wpAny_List_spliced->QBC,tupleKind_room_in1->QBD,Result->wX,ReadsAll->Eb,wpAny_storeSet_of->QB2,wpAny_sequenceKey->QB3,wpAny_pyIter_slot->QB4,wpAny_assign_Name->QB5,wpAny_Name->ML,typeIs_int->MK,slot_list_getitem->QB8
open Option.some renaming inj->QF
open Or renaming inl->QJ,inr->QU
open Int renaming toNat_natCast->QY,eq_ofNat_of_zero_le->Yh,zero_add->uA,add_zero->zC,toNat_of_nonneg->Ls,le_refl->Hr,natCast_nonneg->RY,emod_lt_of_pos->RX,natCast_inj->Po,emod_nonneg->Pn
open Array renaming length_toList->Q5,getElem?_eq_none->ZK,getElem?_eq_getElem->ZR,getD_eq_getD_getElem?->Yt,getElem?_toList->Dz,toList_inj->C7,size_append->LA,toList_map->Lf,perm_iff_toList_perm->WL,toList->Ih,mem_toList_iff->UI,getElem_toList->UH,toList_append->Uw,empty_append->To,all_toList->RU
open False renaming elim->Q9
open Option renaming map_eq_some_iff->Jk,getD_none->Ti
open PySem.NameKind renaming free->Jm,cell->Y7
open True renaming intro->Jn
open PySem.Builtin.Range renaming rangeFitsLong->Ju,rangeSize->Zn
open PySem.SetTable renaming insertAt->Jy,below->C8,grown->Lr
open PySem.F renaming plainAttrs_list->JD,plainAttrs_str->JG,type_str_join->Zl,slot_str_join->Zm,plain_min_loop->ZU,type_list_append->Mb,slot_list_append->L_,args_tuple_add_2->L9,entry_tuple_add->Mg,slot_tuple_add->Mc,type_list_pop->LZ,slot_list_pop->LY,entry_min_loop->CO,slot_range_reversed->LL,args_str_split_2->Lg,excBase_ValueError->Qf4,slot_dict_getitem->QgF,entry_str_split->KU,slot_str_split->Kw,type_str_split->Wx,slot_str_split->Ww,slot_set_iter->WI,excAttr_ValueError->RV,plain_list_iadd->Pm,slot_int_rmul->QCp
open PyProof.Rows renaming slot_tuple_getitem->JL,callWith_type1->J4,IntsAre->nC,AllBare->nz,assignInOrder_cons->KZ,joinParts_cons->HS,listUpdate_at->Hw,subscriptTail_builtinR->R1,FormattedValue_plain->O8,seqEpoch_at->GJ,entry_tuple_getitem->O4,args_tuple_getitem->QBE,assignInOrder_nil->QB9,Subscript_->MA
open PySem.Value renaming ref->JM,none->Zi,int->nR,type->uv,bool->uu,builtin->zY,isStrOf->O3,isInt->QCb
open PySem.PassesOwn renaming never->JQ
open List.Pairwise renaming filter->J5,imp_of_mem->Yw,map->W2,imp->WZ,nil->QCm
open PySem.Builtin.Int renaming intBits->Zd,intTooBig->QgK
open PySem.Txt renaming join->ZF,split->Z5
open Prod.mk renaming inj->ZG
open PySem.Obj renaming mapSeq->ZO,data_mapFields->Dn,mapFields->Ii,isFreed_of_fields->UA,putSet->Hm,cls_mapFields->RH
open List.Perm renaming eq_of_pairwise->ZQ,refl->Dc
open PySem.Around renaming under_plainId->ZW
open Sum renaming inr->Z6,inl->qV
open PySem.Builtin.Slice renaming slicePlaces->Yq,sliceAdjust->Qeu,slicePartIndex->QCq,sliceApplied->QCr
open PySem.Heap.SameBut renaming update->Yx,refl->Wt
open Nat.succ renaming inj->YO
open ForInStep renaming yield->YZ
open Ne renaming symm->ir
open PySem.Calls renaming spliced_cons->Dh,spliced_nil->LB,Name_function_global->WM,call_function_entry->WY,callWith_builtin->V9,evalArgs_plain->UJ,Constant_str->Tp
open List.cons renaming inj->zX
open PySem.SeqAt.EqAt renaming bool_bool->LU,str_int->WK,int_str->WJ
open PySem.StrLaws renaming glued_eq_join->L0,partsBetween_eq->W3,partsFrom->UG
open PySem.Builtin renaming bitAnd->CL,bitOr->Kv
open PySem.Builtin.Builtins renaming bindParams->Qdk
open PySem.Builtin.Tuple renaming tupleItemsOf->Qef
open PySem.Builtin.List renaming listExtendWith->Qeg,listTooLong->QeV,listSameRef->QeW
open PySem.Builtin.Str renaming occurrences->QfU,strKind->WX,glued->WH
open PySem.W.KIN renaming signs_num->QgD,num_reads->QgE
open Prod renaming ext->v9
open PySem.Paired renaming length->J_
open PySem.Heap.DictOf renaming new->U4
open PySem.SeqAt renaming notIn_tupleAt->UE,notIn_listAt->SY,EqAt->Hv,in_tupleAt->RZ,in_listAt->RJ
open String renaming splitOnAux->S0,splitOn->RK
open PySem.pickOrder renaming go->R0
open PySem.Builtin.Frozenset renaming oneOther->Qva
open PySem.Shared renaming TypeIs->Pd
open Sum.inr renaming inj->O2
open Sum.inl renaming inj->O1
open PySem.Challenge renaming rw_rooklands_k94_whole_desks_and_benches->Qyx,pw_rooklands_k94_whole_desks_and_benches->Qyy
open And renaming intro->GN
open PySem.Heap.UpToSlots renaming of_keeps->QBJ
open PySem.Heap.IsSliceOf renaming new->QBK
open PySem.Walks renaming range->QCa
open PySem.W.Looks renaming here->QCd
open PySem.EqMixed renaming ne_str_int->QCe,ne_str_bool->QCf,ne_int_str->QCg,ne_bool_str->QCh,eq_str_int->QCi,eq_str_bool->QCj,eq_int_str->QCk,eq_bool_str->QCl
open PyProof.Rows.LSm renaming kept_iter->QCn
open PySem PySem.Spec PyProof.Rows
set_option genSizeOf false
set_option compiler.extract_closed false
set_option Elab.async false
set_option linter.all false
set_option maxRecDepth 100000
set_option maxHeartbeats 4000000
def XY:=@if_neg
def XZ:=@if_pos
def X0:=@decide_eq_false
def X1:=@decide_eq_true
def X2:=@of_decide_eq_true
def X3:=@of_decide_eq_false
def X4:=@decide_eq_true_eq
def X5:=@absurd
def X6:=@congrArg
def X7:=@beq_iff_eq
def X8:=@beq_self_eq_true
namespace Rt
end Rt
namespace L2
abbrev Key:=Sum Int Str
def vI:Key->Xc->Bool
 |.inl k,v=>QCb k v
 |.inr x,v=>O3 x v
def QEZ(w:Jf):Key->Int
 |.inl k=>hashInt k
 |.inr x=>hashStr w x
def Z3:∀{k:Key}{v:Xc},vI k v=true->(∃i t,k=qV i/\v=nR i t)∨(∃x t,k=Z6 x/\v=Value.str x t)
 |.inl i,v,h=>by
  obtain⟨t,e⟩:=Value.isInt_shape h;exact .inl ⟨i,t,rfl,e⟩
 |.inr x,v,h=>by
  obtain⟨t,e⟩:=Value.isStrOf_shape h;exact .inr ⟨x,t,rfl,e⟩
def Qoo(i:Int)(t:Tok):vI (.inl i) (.int i t)=true:=by simp[vI,QCb]
def Qon(x:Str)(t:Tok):vI (.inr x) (.str x t)=true:=by simp[vI,O3]
def QAB(a b:Int):decide ((qV a:Key)=qV b)=(a == b):=by
 by_cases e:a=b
 ·subst e;simp
 ·have h:¬(qV a:Key)=qV b:=λq=>e<|O1 q
  rw[X0 h];exact(beq_eq_false_iff_ne.mpr e).symm
def QAy(a b:Str):decide ((Z6 a:Key)=Z6 b)=decide (a=b):=by
 by_cases e:a=b
 ·subst e;simp
 ·have h:¬(Z6 a:Key)=Z6 b:=λq=>e<|O2 q
  rw[X0 h,X0 e]
def QAA(a:Int)(b:Str):decide ((qV a:Key)=Z6 b)=false:=X0 nofun
def QAz(a:Str)(b:Int):decide ((Z6 a:Key)=qV b)=false:=X0 nofun
def aE(prog:QB)(w:Jf):PySem.KeyKind prog w Key where
 is:=vI
 hash:=QEZ w
 inj:=λv a b ha hb=>by
  rcases Z3 ha with⟨i,t,rfl,rfl⟩ | ⟨x,t,rfl,rfl⟩
  ·rcases Z3 hb with⟨j,u,rfl,e⟩ | ⟨y,u,rfl,e⟩
   ·injection e with e1 _;rw[e1]
   ·exact nomatch e
  ·rcases Z3 hb with⟨j,u,rfl,e⟩ | ⟨y,u,rfl,e⟩
   ·exact nomatch e
   ·injection e with e1 _;rw[e1]
 byValue:=λk v h=>by
  rcases Z3 h with⟨i,t,rfl,rfl⟩ | ⟨x,t,rfl,rfl⟩<;>rfl
 pyHash:=λhv h=>by
  rcases Z3 hv with⟨i,t,rfl,rfl⟩ | ⟨x,t,rfl,rfl⟩
  ·exact wpAny_pyHash_int h
  ·exact wpAny_pyHash_str h
 eqBool:=λhu hv h=>by
  rcases Z3 hu with⟨i,t,rfl,rfl⟩ | ⟨x,t,rfl,rfl⟩
  ·rcases Z3 hv with⟨j,u,rfl,rfl⟩ | ⟨y,u,rfl,rfl⟩
   ·rw[QAB] at h;exact Kg h
   ·rw[QAA] at h;exact WJ i t y u _ _ _ _ h
  ·rcases Z3 hv with⟨j,u,rfl,rfl⟩ | ⟨y,u,rfl,rfl⟩
   ·rw[QAz] at h;exact WK x t j u _ _ _ _ h
   ·rw[QAy] at h;exact wpAny_eqBool_str h
 «strs» := λk x t v h=>by
  rcases Z3 h with⟨i,u,rfl,e⟩ | ⟨y,u,rfl,e⟩
  ·exact nomatch e
  ·injection e with e1 _
   subst e1;cases v<;>rfl
def Qjw(prog:QB)(w:Jf)(i:Int)(t:Tok):(aE prog w).is (.inl i) (.int i t)=true:=Qoo i t
def z_(prog:QB)(w:Jf)(x:Str)(t:Tok):(aE prog w).is (.inr x) (.str x t)=true:=Qon x t
inductive V where
 |aL | bl (b:Bool) | int (i:Int) | str (x:Str) | jy (b:Array UInt8) | sH (b:UInt64) | ref (a:Xb) | ty (n:String)
 deriving DecidableEq
def RelV:V->Xc->Prop
 |.aL,u=>u=Zi
 |.bl b,u=>u=uu b
 |.int i,u=>∃t,u=nR i t
 |.str x,u=>∃t,u=Value.str x t
 |.jy b,u=>∃t,u=Value.bytes b t
 |.sH b,u=>∃t,u=Value.float b t
 |.ref a,u=>u=JM a
 |.ty n,u=>u=uv n
abbrev ah:List V->List Xc->Prop:=Zy RelV
def ah.length{xs:List V}{us:List Xc}(r:ah xs us):xs.length=us.length:=J_ r
def ah.get:∀{xs:List V}{us:List Xc}{i:Nat}{x:V},ah xs us->xs[i]? = some x->∃u,us[i]? = some u/\RelV x u
 |_,_,_,_,.nil,e=>by simp at e
 |_,_,0,_,.cons r _,e=>by simp at e;subst e;exact⟨_,rfl,r⟩
 |_,_,i+1,x,.cons _ t,e=>by
  obtain⟨u,h1,h2⟩:=ah.get t (by simpa using e);exact⟨u,by simpa using h1,h2⟩
def ah.set(r:RelV x u):∀{xs:List V}{us:List Xc}(i:Nat),ah xs us->ah (xs.set i x) (us.set i u)
 |_,_,_,.nil=>.nil
 |_,_,0,.cons _ t=>.cons r t
 |_,_,i+1,.cons q t=>.cons q<|ah.set r i t
def ah.append:∀{xs ys:List V}{us ws:List Xc},ah xs us->ah ys ws->ah (xs++ys) (us++ws)
 |_,_,_,_,.nil,s=>s
 |_,_,_,_,.cons r t,s=>.cons r<|ah.append t s
def ah.take:∀{xs:List V}{us:List Xc}(n:Nat),ah xs us->ah (xs.take n) (us.take n)
 |_,_,0,_=>.nil
 |_,_,_+1,.nil=>.nil
 |_,_,n+1,.cons r t=>.cons r<|ah.take n t
def ah.drop:∀{xs:List V}{us:List Xc}(n:Nat),ah xs us->ah (xs.drop n) (us.drop n)
 |_,_,0,r=>r
 |_,_,_+1,.nil=>.nil
 |_,_,n+1,.cons _ t=>ah.drop n t
def cY:Option V->Option Xc->Prop
 |some v,some u=>RelV v u
 |none,none=>True
 |_,_=>False
def KV{κ:Type}:List (κ×V)->List (κ×Xc)->Prop:=Zy λ(p:κ×V)(q:κ×Xc)=>p.1=q.1/\RelV p.2 q.2
def kV:Key->V
 |.inl i=>.int i
 |.inr x=>.str x
inductive HO where
 /-- a list -/
 |lst (xs:List V)
 /-- a tuple (never changes) -/
 |tup (xs:List V)
 /-- a dict w_ keys are ints and texts;one w_ keys are tuples of ints and texts (rO empty one is both) -/
 |dK (kvs:List (Key×V)) | dT (kvs:List<|List Key×V)
 /-- a set of ints: its members,its size -/
 |set (S:Int->Bool) (n:Nat)
 /-- an instance of rO class at C,its dict at dx,its attributes -/
 |ins (C dx:Xb) (fs:List (Str×V))
 /-- rO dict of rO instance at x -/
 |own (x:Xb)
 /-- rO dict of an exception -/
 |xd (fs:List (Str×V))
 /-- a bound method,f of x -/
 |met (f x:Xb)
 /-- a range object lo,lo+1,.. below hi -/
 |rV (lo hi:Int)
 /-- a xg that is known to rO object (rO EA;a dict while a loop walks it): read,never written while it is so -/
 |jt (o:Xp) (u:HO)
 /-- a code xC table -/
 |pW (ps:Array Xc)
 /-- any other xg,by what is true of its one object (a def of Ny own: SetO a S n:=HO.ext λh=>..) -/
 |ext (φ:Xl->Prop)
abbrev Hp:=Xb->Option HO
def upd(H:Hp)(a:Xb)(o:HO):Hp:=λb=>if b=a then some o else H b
def QC:upd H a o a=some o:=by unfold upd;rw[XZ rfl]
def QH(h:b≠a):upd H a o b=H b:=by unfold upd;rw[XY h]
def Qvk:upd (upd H a o) a u=upd H a u:=by
 funext b;unfold upd;split<;>rfl
def ZL{H:Hp}(h:H a=some o)(h':H b=some u)(d:o≠u):a≠b:=by
 intro e;subst e;rw[h] at h';exact d<|QF h'
def QK{H:Hp}(h:H a=some o)(h':H b=none):a≠b:=by
 intro e;subst e;rw[h] at h';cases h'
def dQ(h:Xl)(a:Xb)(items:Array Xc):Prop:=∃o,h.get? a=some o/\o.cls=.type "tuple" /\ o.dict=none/\∃n,o.data=.seq items n
def dQ.tup(x:dQ h a items):IsTup h a items:=let ⟨o,e,c,_,d⟩:=x;⟨o,e,c,d⟩
def dQ.lt(x:dQ h a items):a<h.objs.size:=let ⟨_,e,_⟩:=x;Ql e
def dQ.new(h:Xl)(items:Array Xc):dQ (h.push { cls:=.type "tuple",data:=.seq items }) h.objs.size items:=⟨_,Qo _ rfl,rfl,rfl,_,rfl⟩
section
variable(P:QB)(w:Jf)
def aO(H:Hp)(h:Xl)(a:Xb):HO->Prop
 |.lst xs=>xs.length<=Xj/\∃(its:List Xc)(n:Nat),ah xs its/\h.get? a=some { cls:=.type "list",data:=.seq its.toArray n }
 |.tup xs=>xs.length<=Xj/\∃its:List Xc,ah xs its/\dQ h a its.toArray
 |.dK kvs=>kvs.length<=Xj/\(a == Xv)=false/\∃vs,KV kvs vs/\h.DictOf (aE P w) a vs
 |.dT kvs=>kvs.length<=Xj/\(a == Xv)=false/\∃xs:List<|List Key×Xb×Xc,
   Zy (λ(p:List Key×V)(q:List Key×Xb×Xc)=>p.1=q.1/\H q.2.1=some (.tup<|p.1.map kV)/\RelV p.2 q.2.2) kvs xs /\
   ∃o es ep,h.get? a=some o/\o.ExactDict/\o.data=.dict es ep/\es.toList=xs.map (entryOfKey<|XE<|aE P w)/\(xs.map (·.1)).Nodup
 |.set S n=>h.SetOf (intKind P w) a S n
 |.ins C dx fs=>H dx=some (.own a)/\fs.length<=1000/\dx≠a/\h.get? a=some (ZV C dx) /\
   ∃mA,h.Ns1 dx mA/\(∀f,cY (fs.lookup f)<|mA f)/\Ij mA (fs.map (·.1))
 |.own _=>∃o,h.get? a=some o
 |.xd fs=>∃mA,h.Ns1 a mA/\∀f,cY (fs.lookup f)<|mA f
 |.rV lo hi=>∃t u v,h.get? a=some { cls:=.type "range",data:=.fields #[.int lo t,.int hi u,.int 1 v] }
 |.jt o u=>h.get? a=some o/\aO H h a u
 |.pW ps=>h.get? a=some { cls:=.none,data:=.fields ps }
 |.met f x=>h.get? a=some (PySem.W.methodObj (.ref f)<|.ref x)
 |.ext φ=>φ h/\(∃o,h.get? a=some o)/\∀h1 h2:Xl,φ h1->(∀o,h1.get? a=some o->h2.get? a=some o)->φ h2
def cz(H:Hp)(h:Xl):Prop:=∀a o,H a=some o->aO P w H h a o
end
section
variable{P:QB}{w:Jf}{H H':Hp}{h h':Xl}{a:Xb}{o:HO}
def aO.lt(x:aO P w H h a o):a<h.objs.size:=by
 cases o with
 |lst xs=>obtain⟨_,_,_,_,e⟩:=x;exact Ql e
 |tup xs=>obtain⟨_,_,_,p⟩:=x;exact p.lt
 |dK kvs=>obtain⟨_,_,_,_,o,_,_,e,_⟩:=x;exact Ql e
 |dT kvs=>obtain⟨_,_,_,_,o,_,_,e,_⟩:=x;exact Ql e
 |set S n=>obtain⟨o,_,_,_,e,_⟩:=x;exact Ql e
 |ins C dx fs=>obtain⟨_,_,_,e,_⟩:=x;exact Ql e
 |own y=>obtain⟨_,e⟩:=x;exact Ql e
 |xd fs=>obtain⟨_,⟨_,_,_,e,_⟩,_⟩:=x;exact Ql e
 |rV lo hi=>obtain⟨_,_,_,e⟩:=x;exact Ql e
 |jt ob u=>obtain⟨e,_⟩:=x;exact Ql e
 |pW ps=>exact Ql (x)
 |met f y=>exact Ql (x)
 |ext φ=>obtain⟨_,⟨_,e⟩,_⟩:=x;exact Ql e
def Zy.xN{l₁:List α}{l₂:List β}(h:Zy F l₁ l₂)(f:∀a b,F a b->G a b):Zy G l₁ l₂:=by
 induction h with
 |nil=>exact .nil
 |cons r _ ih=>exact .cons (f _ _ r) ih
def aO.eU(x:aO P w H h a o)(k:∀b u,(b=a∨H b=some (.own a))->h.get? b=some u->h'.get? b=some u)
  (ho:∀b,H b=some (.own a)->H' b=some (.own a))(ht:∀b xs,H b=some (.tup xs)->H' b=some (.tup xs)):aO P w H' h' a o:=by
 induction o with
 |lst xs=>obtain⟨z,its,n,r,e⟩:=x;exact⟨z,its,n,r,k _ _ (.inl rfl) e⟩
 |tup xs=>obtain⟨z,its,r,ob,e,c⟩:=x;exact⟨z,its,r,ob,k _ _ (.inl rfl) e,c⟩
 |dK kvs=>obtain⟨z,y,vs,r,ob,es,ep,e,c⟩:=x;exact⟨z,y,vs,r,ob,es,ep,k _ _ (.inl rfl) e,c⟩
 |dT kvs=>
  obtain⟨z,y,xs,r,ob,es,ep,e,c⟩:=x;exact⟨z,y,xs,Zy.xN r λp q z=>⟨z.1,ht _ _ z.2.1,z.2.2⟩,ob,es,ep,k _ _ (.inl rfl) e,c⟩
 |set S n=>obtain⟨ob,es,ep,t,e,c⟩:=x;exact⟨ob,es,ep,t,k _ _ (.inl rfl) e,c⟩
 |ins C dx fs=>
  obtain⟨d,z,ne,e,mA,⟨od,es,ep,e2,c⟩,r⟩:=x;exact⟨ho _ d,z,ne,k _ _ (.inl rfl) e,mA,⟨od,es,ep,k _ _ (.inr d) e2,c⟩,r⟩
 |own y=>obtain⟨ob,e⟩:=x;exact⟨ob,k _ _ (.inl rfl) e⟩
 |xd fs=>obtain⟨mA,⟨od,es,ep,e,c⟩,r⟩:=x;exact⟨mA,⟨od,es,ep,k _ _ (.inl rfl) e,c⟩,r⟩
 |rV lo hi=>obtain⟨t,u,v,e⟩:=x;exact⟨t,u,v,k _ _ (.inl rfl) e⟩
 |jt ob u ih=>obtain⟨e,q⟩:=x;exact⟨k _ _ (.inl rfl) e,ih q⟩
 |pW ps=>
  have e:=x;exact k a _ (.inl rfl) e
 |met f y=>
  have e:=x;exact k a _ (.inl rfl) e
 |ext φ=>obtain⟨p,⟨o,e⟩,st⟩:=x;exact⟨st _ _ p λo q=>k _ _ (.inl rfl) q,⟨o,k _ _ (.inl rfl) e⟩,st⟩
def cz.lt(x:cz P w H h)(e:H a=some o):a<h.objs.size:=(x a o e).lt
def cz.fresh(x:cz P w H h)(e:h.objs.size<=a):H a=none:=by
 cases q:H a with
 |none=>rfl
 |some u=>exact X5 (QM (x.lt q) e)<|Yg _
def cz.kept(x:cz P w H h)(k:∀b u,h.get? b=some u->h'.get? b=some u):cz P w H h':=λa o e=>
 (x a o e).eU (λb u _ q=>k b u q) (λ_ q=>q) λ_ _ q=>q
def cz.laid(x:cz P w H h)(k:∀b u,h.get? b=some u->h'.get? b=some u)(hp:h.objs.size<=a)(new:aO P w (upd H a o) h' a o):cz P w (upd H a o) h':=λb u e=>by
 have hn:=x.fresh hp;by_cases hb:b=a
 ·subst hb;rw[QC] at e;cases e;exact new
 ·rw[QH hb] at e;exact(x b u e).eU (λc v _ q=>k c v q) (λc q=>by rw[QH<|QK q hn];exact q) λc xs q=>by rw[QH<|QK q hn];exact q
end
def Rd(H:Hp)(a:Xb)(u:HO):Prop:=H a=some u∨∃o,H a=some (.jt o u)
def Rd.ok(r:Rd H a u)(x:cz P w H h):aO P w H h a u:=by
 rcases r with r | ⟨o,r⟩
 ·exact x a u r
 ·obtain⟨_,q⟩:=x a _ r;exact q
def wZ:Option HO->Prop
 |some (.lst _)=>True
 |some (.dK _)=>True
 |some (.dT _)=>True
 |some (.set _ _)=>True
 |some (.ins _ _ _)=>True
 |some (.ext _)=>True
 |_=>False
section
variable{P:QB}{w:Jf}{H:Hp}{h h':Xl}{x e:Xb}{o':HO}
def cz.write(ok:cz P w H h)(mu:wZ<|H x)(he:e=x∨H e=some (.own x))(k:∀b u,b≠e->h.get? b=some u->h'.get? b=some u)(vv:∃u,h'.get? e=some u)
  (new:aO P w (upd H x o') h' x o'):cz P w (upd H x o') h':=λb u q=>by
 have xE:∀c y,H c=some (.own y)->c≠x:=λc y r z=>by subst z;rw[r] at mu;exact mu
 have Fd:∀c xs,H c=some (.tup xs)->c≠x:=λc xs r z=>by subst z;rw[r] at mu;exact mu
 by_cases hb:b=x
 ·subst hb;rw[QC] at q;cases q;exact new
 ·rw[QH hb] at q;by_cases sD:b=e
  ·have q':H b=some (.own x):=by
    rcases he with z | z
    ·exact X5 (sD.trans z) hb
    ·rw[sD];exact z
   rw[q] at q';cases q';obtain⟨v,hv⟩:=vv;exact⟨v,by rw[sD];exact hv⟩
  ·refine(ok b u q).eU (λc v hc r=>k c v ?_ r) (λc r=>by rw[QH<|xE c b r];exact r) λc xs r=>by rw[QH<|Fd c xs r];exact r
   rcases hc with rfl | hc
   ·exact sD
   ·rintro rfl;rcases he with z | z
    ·exact xE c b hc z
    ·rw[hc] at z;cases z;exact hb rfl
end
structure Un (fs ex:List Xb) (H H':Hp) (h h':Xl):Prop where
 keep:∀b o,h.get? b=some o->H b=none->b∉fs->b∉ex->h'.get? b=some o
 slot:∀b o,h.get? b=some o->H b=none->b∈fs->b∉ex->∃sl,h'.get? b=some { o with slots:=sl }
 free:∀b o,h.get? b=some o->H b=none->b∉ex->H' b=none
 there:∀b o,h.get? b=some o->b∉ex->∃o',h'.get? b=some o'
 cU:∀b xs,H b=some (.tup xs)->H' b=some (.tup xs)
 dz:∀b o u,H b=some (.jt o u)->H' b=some (.jt o u)
 dN:∀b ps,H b=some (.pW ps)->∃more,H' b=some (.pW<|ps++more)
section
variable{fs fs' ex ex':List Xb}{H H1 H2:Hp}{h h1 h2 h':Xl}{a x e:Xb}{o:HO}
def Un.any(u:Un fs ex H H1 h h1)(q:h.get? b=some ob)(n:H b=none)(hx:b∉ex):∃sl,h1.get? b=some { ob with slots:=sl }:=by
 by_cases hb:b∈fs
 ·exact u.slot b ob q n hb hx
 ·exact⟨ob.slots,u.keep b ob q n hb hx⟩
def Un.kept(k:∀b u,h.get? b=some u->h'.get? b=some u):Un fs ex H H h h':=
 ⟨λb ob q _ _ _=>k b ob q,λb ob q _ _ _=>⟨ob.slots,k b ob q⟩,λ_ _ _ n _=>n,λb ob q _=>⟨ob,k b ob q⟩,λ_ _ q=>q,λ_ _ _ q=>q,λ_ ps q=>⟨#[],by rw[q];simp⟩⟩
def Un.refl:Un fs ex H H h h:=Un.kept λ_ _ q=>q
def Un.laid(k:∀b u,h.get? b=some u->h'.get? b=some u)(hp:h.objs.size<=a)(hn:H a=none):Un fs ex H (upd H a o) h h' where
 keep:=λb u q _ _ _=>k b u q
 slot:=λb u q _ _ _=>⟨u.slots,k b u q⟩
 free:=λb u q n _=>by rw[QH<|Qy<|QM (Ql q) hp];exact n
 there:=λb u q _=>⟨u,k b u q⟩
 cU:=λb xs q=>by rw[QH<|QK q hn];exact q
 dz:=λb u xs q=>by rw[QH<|QK q hn];exact q
 dN:=λb ps q=>⟨#[],by rw[QH<|QK q hn,q];simp⟩
def Un.write(mu:wZ<|H x)(he:e=x∨H e=some (.own x))(k:∀b u,b≠e->h.get? b=some u->h'.get? b=some u)(vv:∃u,h'.get? e=some u):Un fs ex H (upd H x o) h h':=by
 have hx:∀b,H b=none->b≠x:=λb n z=>by subst z;rw[n] at mu;exact mu
 have hb:∀b,H b=none->b≠e:=λb n z=>by
  subst z;rcases he with r | r
  ·exact hx b n r
  ·rw[n] at r;cases r
 have hm:∀b u,H b=some u->¬wZ (some u)->b≠x:=λb u q nm z=>by subst z;rw[q] at mu;exact nm mu
 refine⟨λb u q n _ _=>k b u (hb b n) q,λb u q n _ _=>⟨u.slots,k b u (hb b n) q⟩,λb u q n _=>by rw[QH<|hx b n];exact n,λb u q _=>?_,
  λb xs q=>by rw[QH<|hm b _ q λz=>z];exact q,λb u xs q=>by rw[QH<|hm b _ q λz=>z];exact q,λb ps q=>⟨#[],by rw[QH<|hm b _ q λz=>z,q];simp⟩⟩
 by_cases sD:b=e
 ·subst sD;exact vv
 ·exact⟨u,k b u sD q⟩
end
def AD(h:Xl)(H:Hp):List Xb:=(QD h.objs.size).filter λa=>(H a).isSome
def qF(h:Xl)(H:Hp):Xl:=PySem.W.hideAll h<|AD h H
def Qov(h:Xl)(H:Hp):(qF h H).objs.size=h.objs.size:=PySem.W.hideAll_size _ _
def QsI(e:h.get? b=some o)(n:H b=none):(qF h H).get? b=some o:=
 U6 _ e λhm=>by
  have q:=(Q2.mp hm).2;rw[n] at q;simp at q
def Qw1(e:(qF h H).get? b=some o):h.get? b=some o/\H b=none:=by
 have e':=UP (AD h H) e;refine⟨e',?_⟩;cases q:H b with
 |none=>rfl
 |some x=>
  have hm:b∈AD h H:=Q2.mpr ⟨Jw.mpr<|Ql e',by simp[q]⟩;have z:(qF h H).get? b=none:=PySem.W.hideAll_none (AD h H) hm;rw[z] at e;cases e
structure Mod (K:Qa) (mg:Str->Option Xc) (base:Xl):Prop where
 mM:K.In base
 glob:base.Ns Xf mg
 blt:∃mb,base.Ns builtinsNs mb/\∀x:Str,x ≠ "__name__" -> mb x=Xn x
 nolimit:base.NoLimit
structure Cx where
 prog:QB
 w:Jf
 K:Qa
 mg:Str->Option Xc
 base:Xl
 A:JF
 N:List Str
 s₀:Xe
 H₀:Hp
 env:Env
 outer:List Env
 stack:List Env
 ex:List Xb
 fn:Str->Bool
 calm:Bool
 pn:List (Xb×Xp)
 xe:Xc->Xe->Prop
def gQ(l:List Env):List Xb:=l.filterMap (·.frame)
abbrev Cx.fs (X:Cx):List Xb:=gQ X.outer
def iY(sc:gW)(x:Str):Prop:=sc.names.lookup x=some .local∨sc.names.lookup x=some .cell∨sc.names.lookup x=some .free
def Loc(sc:gW)(x:Str):Prop:=sc.names.lookup x=some .local∨sc.names.lookup x=some .cell
def Look(env:Env)(h:Xl)(m:Str->Option Xc)(x:Str)(u:Xc):Prop:=
 (env.kindOf x=some .local/\m x=some u)∨((env.kindOf x=some .cell∨env.kindOf x=some .free)/\∃c,env.cells.lookup x=some c/\h.IsCell c (some u))
structure Cx.Ok (X:Cx):Prop where
 mod:Mod X.K X.mg X.base
 kind:X.env.scope.kind=.function
 glob:X.env.globals=Xf
 blt:X.env.builtins=builtinsNs
 above:X.s₀.heap.objs.size<=X.env.locals
 inj:∀x y c,X.env.cells.lookup x=some c->X.env.cells.lookup y=some c->x=y
 has:∀x,(X.env.kindOf x=some .cell∨X.env.kindOf x=some .free)->∃c,X.env.cells.lookup x=some c
 sM:∀x c,X.fn x=true->X.env.cells.lookup x=some c->X.s₀.heap.objs.size<=c
 hd:X.calm=true->X.A.handled=none
 frames:X.A.frames=some X.stack
 u7:X.stack=X.outer∨(X.stack=X.env::X.outer/\X.env.frame=some X.env.locals)
 ko:∀b∈X.ex,b≠X.env.locals/\∀x c,X.env.cells.lookup x=some c->c≠b
 bs:∀b o,X.base.get? b=some o->X.s₀.heap.get? b=some o/\X.H₀ b=none
 jX:X.base.objs.size<=X.s₀.heap.objs.size
 iR:∀b o,X.base.get? b=some o->b∉X.ex
 fL:∀b∈X.ex,b∉X.fs
 cf:X.s₀.heap.FunFrames X.base X.outer
 lu:∀b∈X.fs,X.H₀ b=none
structure Inv (X:Cx) (XI:List (Xb×Xp)) (σ:List<|Option V) (H:Hp) (s:Xe):Prop where
 ok:X.Ok
 os:s.os=X.s₀.os
 bare:nz s.gens
 base:Un X.fs X.ex X.H₀ H X.s₀.heap s.heap
 loc:∃m,s.heap.Ns X.env.locals m/\∀(i:Nat)(x:Str)(v:V),X.N[i]? = some x->σ[i]? = some (some v)->iY X.env.scope x->∃u,RelV v u/\Look X.env s.heap m x u
 cell:∀x c,X.env.cells.lookup x=some c->∃v,s.heap.IsCell c v
 free:H X.env.locals=none
 be:∀x c,X.env.cells.lookup x=some c->H c=none
 pin:∀p∈X.pn++XI,s.heap.get? p.1=some p.2/\H p.1=none/\p.1≠X.env.locals/\p.1∉X.fs/\∀v,p.2.data≠.cell v
 au:cz X.prog X.w H s.heap
 len:σ.length=X.N.length
section
variable{X:Cx}{XI:List (Xb×Xp)}{σ:List (Option V)}{H H':Hp}{s:Xe}{h':Xl}
def Cx.Ok.Fg(ok:X.Ok)(e:X.base.get? b=some o):b∉X.fs:=λhb=>by
 have:=(ok.cf.mem hb).1;rw[e] at this;cases this
def Inv.bs(I:Inv X XI σ H s):∀b o,X.base.get? b=some o->s.heap.get? b=some o/\H b=none:=λb o e=>
 ⟨I.base.keep b o (I.ok.bs b o e).1 (I.ok.bs b o e).2 (I.ok.Fg e)<|I.ok.iR b o e,I.base.free b o (I.ok.bs b o e).1 (I.ok.bs b o e).2<|I.ok.iR b o e⟩
def Inv.bk(I:Inv X XI σ H s):∀b o,X.base.get? b=some o->s.heap.get? b=some o:=λb o e=>(I.bs b o e).1
def Inv.mod(I:Inv X XI σ H s):Mod X.K X.mg X.base:=I.ok.mod
def Inv.bP(I:Inv X XI σ H s):X.K.In s.heap:=I.ok.mod.mM.keeps I.bk
def Inv.lt(I:Inv X XI σ H s):X.env.locals<s.heap.objs.size:=let ⟨_,hn,_⟩:=I.loc;hn.lt
def Inv.sz(I:Inv X XI σ H s):X.s₀.heap.objs.size<=s.heap.objs.size:=QQ I.ok.above<|Ja I.lt
def Inv.Ff(I:Inv X XI σ H s)(h:s.heap.objs.size<=a):a∉X.fs:=λhb=>by
 obtain⟨_,o,ho,_⟩:=I.ok.cf.mem hb;exact X5 (QM (Ql ho)<|QQ I.sz h)<|Yg _
def Inv.lI(I:Inv X XI σ H s):∀x c,X.env.cells.lookup x=some c->c≠X.env.locals:=λx c e z=>by
 obtain⟨v,o,ho,hd⟩:=I.cell x c e;obtain⟨m,⟨o',es,ep,gO,fA,_⟩,_⟩:=I.loc;rw[z,gO] at ho;cases ho;rw[fA] at hd;cases hd
def Inv.cf(I:Inv X XI σ H s):s.heap.FunFrames X.base X.outer:=by
 have all:∀(l:List Env),(∀b∈gQ l,b∈X.fs)->X.s₀.heap.FunFrames X.base l->s.heap.FunFrames X.base l:=by
  intro l;induction l with
  |nil=>intro _ _;trivial
  |cons env r ih=>
   intro hs hl;obtain⟨hk,⟨L,o,hf,hn,ho,hd⟩,hr⟩:=hl;have hL:=hs L (by unfold gQ;rw[Y8,hf];exact Q1);obtain⟨sl,e⟩:=I.base.slot L o ho (I.ok.lu L hL) hL λz=>I.ok.fL L z hL
   exact⟨hk,⟨L,_,hf,hn,e,hd⟩,ih (λb hb=>hs b (by unfold gQ;rw[Y8,hf];exact QN _ hb)) hr⟩
 exact all X.outer (λ_ hb=>hb) I.ok.cf
def Inv.stack(I:Inv X XI σ H s):s.heap.FunFrames X.base X.stack:=by
 rcases I.ok.u7 with e | ⟨e,hf⟩
 ·rw[e];exact I.cf
 ·rw[e];obtain⟨m,hn,_⟩:=I.loc;refine .cons (by rw[I.ok.kind];decide) hf hn ?_ I.cf
  exact Heap.get?_none_of_le<|QQ I.ok.jX I.ok.above
def Inv.iO(I:Inv X XI σ H s):∀b∈gQ X.stack,b∈X.env.locals::X.fs:=λb hb=>by
 rcases I.ok.u7 with e | ⟨e,hf⟩
 ·rw[e] at hb;exact QN _ hb
 ·rw[e] at hb;unfold gQ at hb;rw[Y8,hf] at hb;exact hb
def Inv.gn(I:Inv X XI σ H s):∀b∈gQ X.stack,H b=none:=λb hb=>by
 rcases Qv.mp (I.iO b hb) with e | hb
 ·rw[e];exact I.free
 ·obtain⟨_,o,ho,_⟩:=I.ok.cf.mem hb;exact I.base.free b o ho (I.ok.lu b hb) λz=>I.ok.fL b z hb
def Inv.step{ch:List Xb}(I:Inv X XI σ H s)
  (gP:∀b∈ch,(b∈X.ex∨X.s₀.heap.objs.size<=b)/\b≠X.env.locals/\(∀x c,X.env.cells.lookup x=some c->c≠b)/\∀p∈X.pn++XI,p.1≠b)
  (keep:∀b o,b≠X.env.locals->b∉X.fs->b∉ch->s.heap.get? b=some o->H b=none->h'.get? b=some o)
  (slot:∀b o,b≠X.env.locals->b∈X.fs->b∉ch->s.heap.get? b=some o->H b=none->∃sl,h'.get? b=some { o with slots:=sl })(free:∀b o,b∉ch->s.heap.get? b=some o->H b=none->H' b=none)
  (there:∀b o,b∉ch->s.heap.get? b=some o->∃o',h'.get? b=some o')
  (cU:∀b xs,H b=some (.tup xs)->H' b=some (.tup xs))(dz:∀b o u,H b=some (.jt o u)->H' b=some (.jt o u))(dN:∀b ps,H b=some (.pW ps)->∃more,H' b=some (.pW<|ps++more))
  (ns:∀m,s.heap.Ns X.env.locals m->h'.Ns X.env.locals m)(au:cz X.prog X.w H' h')(hg:nz g') :
  Inv X XI σ H' { s with heap:=h',gens:=g',drawn:=d',toks:=t' }:=by
 have ve:∀b o,X.s₀.heap.get? b=some o->b≠X.env.locals:=λb o e=>Qy<|QM (Ql e) I.ok.above
 have AL:∀b o,X.s₀.heap.get? b=some o->b∉X.ex->b∉ch:=λb o e hx hb=>by
  rcases(gP b hb).1 with z | z
  ·exact hx z
  ·exact X5 (QM (Ql e) z)<|Yg _
 have cellK:∀x c,X.env.cells.lookup x=some c->∀v,s.heap.IsCell c v->h'.IsCell c v:=λx c e v ⟨o,ho,hd⟩=>by
  have kX:=λz=>(gP c z).2.2.1 x c e rfl
  by_cases hc:c∈X.fs
  ·obtain⟨sl,q⟩:=slot c o (I.lI x c e) hc kX ho<|I.be x c e;exact⟨_,q,hd⟩
  ·exact⟨o,keep c o (I.lI x c e) hc kX ho<|I.be x c e,hd⟩
 refine⟨I.ok,I.os,hg,⟨λb o e n hb hx=>?_,λb o e n hb hx=>?_,λb o e n hx=>?_,λb o e hx=>?_,λb xs e=>cU b xs<|I.base.cU b xs e,λb o xs e=>dz b o xs<|I.base.dz b o xs e,λb ps e=>?_⟩,?_,λx c e=>?_,?_,λx c e=>?_,λp hp=>?_,au,I.len⟩
 ·exact keep b o (ve b o e) hb (AL b o e hx) (I.base.keep b o e n hb hx)<|I.base.free b o e n hx
 ·obtain⟨sl,e1⟩:=I.base.slot b o e n hb hx;obtain⟨sl',e2⟩:=slot b _ (ve b o e) hb (AL b o e hx) e1<|I.base.free b o e n hx;exact⟨sl',e2⟩
 ·obtain⟨o',e1⟩:=I.base.there b o e hx;exact free b o' (AL b o e hx) e1<|I.base.free b o e n hx
 ·obtain⟨o',e1⟩:=I.base.there b o e hx;exact there b o' (AL b o e hx) e1
 ·obtain⟨m1,e1⟩:=I.base.dN b ps e;obtain⟨m2,e2⟩:=dN b _ e1;exact⟨m1++m2,by rw[e2,Array.append_assoc]⟩
 ·obtain⟨m,hn,hl⟩:=I.loc;refine⟨m,ns m hn,λi x v e1 e2 e3=>?_⟩;obtain⟨u,r,l⟩:=hl i x v e1 e2 e3;refine⟨u,r,?_⟩;rcases l with l | ⟨k,c,e,z⟩
  ·exact .inl l
  ·exact .inr ⟨k,c,e,cellK x c e _ z⟩
 ·obtain⟨v,z⟩:=I.cell x c e;exact⟨v,cellK x c e v z⟩
 ·obtain⟨m,⟨o,_,_,ho,_⟩,_⟩:=I.loc;exact free _ o (λz=>(gP _ z).2.1 rfl) ho I.free
 ·obtain⟨v,o,ho,hd⟩:=I.cell x c e;exact free c o (λz=>(gP c z).2.2.1 x c e rfl) ho<|I.be x c e
 ·obtain⟨e,n,ne,nf,d⟩:=I.pin p hp;have kX:=λz=>(gP p.1 z).2.2.2 p hp rfl
  exact⟨keep p.1 p.2 ne nf kX e n,free p.1 p.2 kX e n,ne,nf,d⟩
def Inv.un(I:Inv X XI σ H s)(u:Un X.fs [] H H' s.heap h')(au:cz X.prog X.w H' h'):Inv X XI σ H' { s with heap:=h',toks:=t' }:=by
 obtain⟨m,⟨o,es,ep,ho,r⟩,_⟩:=id I.loc;obtain⟨sl,hL⟩:=u.any ho I.free (by simp);exact I.step (ch:=[]) (λ_ z=>nomatch z) (λb o _ hb _ e n=>u.keep b o e n hb<|by simp) (λb o _ hb _ e n=>u.slot b o e n hb<|by simp) (λb o _ e n=>u.free b o e n<|by simp) (λb o _ e=>u.there b o e<|by simp) u.cU u.dz u.dN (λm' hm=>by
  obtain⟨o',es',AX,gO,r'⟩:=hm;rw[ho] at gO;cases gO;exact⟨_,es',AX,hL,r'⟩) au I.bare
def Inv.call(I:Inv X XI σ H s)(u:Un (gQ X.stack) ch H H' s.heap h')(au:cz X.prog X.w H' h')(hg:nz g')
  (gP:∀b∈ch,(b∈X.ex∨X.s₀.heap.objs.size<=b)/\b≠X.env.locals/\(∀x c,X.env.cells.lookup x=some c->c≠b)/\∀p∈X.pn++XI,p.1≠b) :
  Inv X XI σ H' { s with heap:=h',gens:=g',drawn:=d',toks:=t' }:=by
 obtain⟨m,⟨o,es,ep,ho,r⟩,_⟩:=id I.loc;obtain⟨sl,hL⟩:=u.any ho I.free λz=>(gP _ z).2.1 rfl
 exact I.step gP (λb o hL hb hc e n=>u.keep b o e n (λz=>(Qv.mp<|I.iO b z).elim hL hb) hc) (λb o _ _ hc e n=>u.any e n hc) (λb o hc e n=>u.free b o e n hc) (λb o hc e=>u.there b o e hc) u.cU u.dz u.dN (λm' hm=>by
  obtain⟨o',es',AX,gO,r'⟩:=hm;rw[ho] at gO;cases gO;exact⟨_,es',AX,hL,r'⟩) au hg
def Inv.turned(I:Inv X XI σ H s)(k:∀b o,b≠it->s.heap.get? b=some o->h'.get? b=some o)(hn:H it=none)(hL:it≠X.env.locals)
  (h1:it∈X.ex∨X.s₀.heap.objs.size<=it)(h2:∀x c,X.env.cells.lookup x=some c->c≠it)(h3:∀p∈X.pn++XI,p.1≠it):Inv X XI σ H { s with heap:=h',toks:=t' }:=by
 have AK:∀b u,H b=some u->b≠it:=λb u e z=>by rw[z,hn] at e;cases e
 refine I.step (ch:=[it]) (λb hb=>?_) (λb o _ _ hc e _=>k b o (λz=>hc<|by simp[z]) e) (λb o _ _ hc e _=>⟨o.slots,k b o (λz=>hc<|by simp[z]) e⟩) (λ_ _ _ _ n=>n)
  (λb o hc e=>⟨o,k b o (λz=>hc<|by simp[z]) e⟩) (λ_ _ e=>e) (λ_ _ _ e=>e) (λb ps e=>⟨#[],by rw[e];simp⟩) (λm hm=>?_) (λb u e=>?_) I.bare
 ·have e:b=it:=by simpa using hb
  subst e;exact⟨h1,hL,h2,h3⟩
 ·obtain⟨o,es,ep,ho,r⟩:=hm;exact⟨o,es,ep,k _ o (ir hL) ho,r⟩
 ·refine(I.au b u e).eU (λc v hc q=>k c v ?_ q) (λ_ q=>q) λ_ _ q=>q
  rcases hc with z | z
  ·rw[z];exact AK b u e
  ·exact AK c _ z
def Inv.tok(I:Inv X XI σ H s)(t:Nat):Inv X XI σ H { s with toks:=t }:=I.un Un.refl I.au
def Inv.kept(I:Inv X XI σ H s)(k:∀b u,s.heap.get? b=some u->h'.get? b=some u):Inv X XI σ H { s with heap:=h',toks:=t' }:=I.un (Un.kept k)<|I.au.kept k
def Inv.laid(I:Inv X XI σ H s)(k:∀b u,s.heap.get? b=some u->h'.get? b=some u)(hp:s.heap.objs.size<=a)(new:aO X.prog X.w (upd H a o) h' a o) :
  Inv X XI σ (upd H a o) { s with heap:=h',toks:=t' }:=I.un (Un.laid k hp<|I.au.fresh hp)<|I.au.laid k hp new
def Inv.write(I:Inv X XI σ H s)(mu:wZ<|H x)(he:e=x∨H e=some (.own x))(k:∀b u,b≠e->s.heap.get? b=some u->h'.get? b=some u)(vv:∃u,h'.get? e=some u)
  (new:aO X.prog X.w (upd H x o) h' x o):Inv X XI σ (upd H x o) { s with heap:=h',toks:=t' }:=I.un (Un.write mu he k vv)<|I.au.write mu he k vv new
def Inv.weak(I:Inv X XI σ H s)(hl:σ'.length=σ.length)(w:∀(i:Nat) v,σ'[i]? = some (some v)->σ[i]? = some (some v)):Inv X XI σ' H s:=
 ⟨I.ok,I.os,I.bare,I.base,let ⟨m,hn,ow⟩:=I.loc;⟨m,hn,λi x v e1 e2 e3=>ow i x v e1 (w i v e2) e3⟩,I.cell,I.free,I.be,I.pin,I.au,hl.trans I.len⟩
def Inv.jk(I:Inv X XI σ H s)(h:∀p∈g_,s.heap.get? p.1=some p.2/\H p.1=none/\p.1≠X.env.locals/\p.1∉X.fs/\∀v,p.2.data≠.cell v):Inv X g_ σ H s:=
 ⟨I.ok,I.os,I.bare,I.base,I.loc,I.cell,I.free,I.be,λp hp=>(QV.mp hp).elim (λz=>I.pin p<|JS _ z)<|h p,I.au,I.len⟩
def K4{N:List Str}(hN:N.Nodup){j:Nat}(a:N[i]? = some x)(b:N[j]? = some x):i=j:=by
 obtain⟨h1,e1⟩:=QX.mp a;obtain⟨h2,e2⟩:=QX.mp b;exact(List.getElem_inj hN).mp<|e1.trans e2.symm
def WQ(I:Inv X XI σ H s)(hN:X.N.Nodup)(hi:X.N[i]? = some x)(hx:Loc X.env.scope x)(r:RelV v u)
  (h:∀s',Inv X XI (σ.set i<|some v) H s'->(∃a,Yy a s.heap s'.heap/\(a=X.env.locals∨X.env.cells.lookup x=some a))->Q () s')(hf:X.fn x=true∨X.env.scope.names.lookup x=some .local:=by first | exact .inl rfl | exact .inr rfl | assumption):Xh M A (storeName X.env x u) Q E s:=by
 obtain⟨m,hn,hl⟩:=id I.loc;have FZ:(X.env.scope.kind == .class||(X.env.scope.kind == .module&&X.env.locals != X.env.globals))=false:=by rw[I.ok.kind];rfl
 have N2:i < σ.length:=by rw[I.len];exact(QX.mp hi).1
 have lI:=I.lI;have tracked:∀{a:Xb}{h':Xl},(∃o,s.heap.get? a=some o/\H a=none)->Yy a s.heap h'->cz X.prog X.w H h':=λ{a h'} ha hs b ob e=>by
  obtain⟨_,_,qj⟩:=ha;refine(I.au b ob e).eU (λc w' hc q=>(hs.2 c ?_).trans q) (λ_ q=>q) λ_ _ q=>q
  rintro rfl;rcases hc with rfl | hc
  ·rw[qj] at e;cases e
  ·rw[qj] at hc;cases hc
 rcases hx with hk | hk
 ·refine wpAny_storeName_local hk hn (λh' FL hs=>?_) FZ;obtain⟨oL,_,_,qi,_⟩:=id hn;refine h _ ⟨I.ok,I.os,I.bare,⟨λb o e n hb hx=>?_,λb o e n hb hx=>?_,I.base.free,λb o e hx=>?_,I.base.cU,I.base.dz,I.base.dN⟩,⟨_,FL,λj y v' e1 e2 e3=>?_⟩,λy c e=>?_,I.free,I.be,λp hp=>?_,tracked ⟨oL,qi,I.free⟩ hs,by simpa using I.len⟩ ⟨_,hs,.inl rfl⟩
  ·exact(hs.2 b<|Qy<|QM (Ql e) I.ok.above).trans<|I.base.keep b o e n hb hx
  ·obtain⟨sl,e1⟩:=I.base.slot b o e n hb hx;exact⟨sl,(hs.2 b<|Qy<|QM (Ql e) I.ok.above).trans e1⟩
  ·obtain⟨o',e1⟩:=I.base.there b o e hx;exact⟨o',(hs.2 b<|Qy<|QM (Ql e) I.ok.above).trans e1⟩
  ·by_cases hj:j=i
   ·subst hj;rw[hi] at e1;cases e1;rw[Dt N2] at e2;cases e2;exact⟨u,r,.inl ⟨hk,by simp⟩⟩
   ·rw[Dm<|ir hj] at e2;obtain⟨u',r',q⟩:=hl j y v' e1 e2 e3;refine⟨u',r',?_⟩;rcases q with⟨k,e⟩ | ⟨k,c,e,z⟩
    ·refine .inl ⟨k,?_⟩;have:y≠x:=λe=>hj<|K4 hN e1<|e ▸ hi
     simp[this,e]
    ·exact .inr ⟨k,c,e,z.sameBut hs<|lI y c e⟩
  ·obtain⟨w',z⟩:=I.cell y c e;exact⟨w',z.sameBut hs<|lI y c e⟩
  ·obtain⟨e,n,ne,nf,d⟩:=I.pin p hp;exact⟨(hs.2 p.1 ne).trans e,n,ne,nf,d⟩
 ·have FR:X.fn x=true:=by
   rcases hf with z | z
   ·exact z
   ·rw[z] at hk;cases hk
  obtain⟨c,hc⟩:=I.ok.has x<|.inl hk;obtain⟨w',z⟩:=I.cell x c hc;refine wpAny_storeName_cell I.ok.kind hk hc z λh' jT hs=>?_;obtain⟨oc,x_,FJ⟩:=id z;refine h { s with heap:=h' } ⟨I.ok,I.os,I.bare,⟨λb o e n hb hx=>?_,λb o e n hb hx=>?_,I.base.free,λb o e hx=>?_,I.base.cU,I.base.dz,I.base.dN⟩,⟨m,hn.sameBut hs<|ir<|lI x c hc,λj y v' e1 e2 e3=>?_⟩,λy c' e=>?_,I.free,I.be,λp hp=>?_,tracked ⟨oc,x_,I.be x c hc⟩ hs,by simpa using I.len⟩ ⟨c,hs,.inr hc⟩
  ·exact(hs.2 b<|Qy<|QM (Ql e)<|I.ok.sM x c FR hc).trans<|I.base.keep b o e n hb hx
  ·obtain⟨sl,e1⟩:=I.base.slot b o e n hb hx;exact⟨sl,(hs.2 b<|Qy<|QM (Ql e)<|I.ok.sM x c FR hc).trans e1⟩
  ·obtain⟨o',e1⟩:=I.base.there b o e hx;exact⟨o',(hs.2 b<|Qy<|QM (Ql e)<|I.ok.sM x c FR hc).trans e1⟩
  ·by_cases hj:j=i
   ·subst hj;rw[hi] at e1;cases e1;rw[Dt N2] at e2;cases e2;exact⟨u,r,.inr ⟨.inl hk,c,hc,jT⟩⟩
   ·rw[Dm<|ir hj] at e2;obtain⟨u',r',q⟩:=hl j y v' e1 e2 e3;refine⟨u',r',?_⟩;rcases q with q | ⟨k,c',e,z'⟩
    ·exact .inl q
    ·refine .inr ⟨k,c',e,z'.sameBut hs ?_⟩;rintro rfl;exact hj<|K4 hN e1<|I.ok.inj _ _ _ e hc ▸ hi
  ·by_cases N6:c'=c
   ·subst N6;exact⟨_,jT⟩
   ·obtain⟨w2,z2⟩:=I.cell y c' e;exact⟨w2,z2.sameBut hs N6⟩
  ·obtain⟨e,n,ne,nf,d⟩:=I.pin p hp;refine⟨(hs.2 p.1 ?_).trans e,n,ne,nf,d⟩;intro q;rw[q,x_] at e;have q':=QF e;exact d w' (by rw[<- q'];exact FJ)
def wK(I:Inv X XI σ H s)(hN:X.N.Nodup)(hi:X.N[i]? = some x)(hx:Loc X.env.scope x)(r:RelV v u)
  (h:∀s',Inv X XI (σ.set i<|some v) H s'->Q () s')(hf:X.fn x=true∨X.env.scope.names.lookup x=some .local:=by first | exact .inl rfl | exact .inr rfl | assumption):Xh M A (storeName X.env x u) Q E s:=
 WQ I hN hi hx r (λs' I' _=>h s' I') hf
def Inv.lJ(I:Inv X XI σ H s)(ho:s'.os=s.os)(u:Un (gQ X.stack) ch H H' s.heap s'.heap)(au:cz X.prog X.w H' s'.heap)(hg:nz s'.gens)
  (gP:∀b∈ch,(b∈X.ex∨X.s₀.heap.objs.size<=b)/\b≠X.env.locals/\(∀x c,X.env.cells.lookup x=some c->c≠b)/\∀p∈X.pn++XI,p.1≠b):Inv X XI σ H' s':=by
 obtain⟨h',g',d',t',o'⟩:=s';have e:=ho;subst e;exact I.call u au hg gP
end
abbrev XK:=Xc->Option Xb->Hp->Prop
abbrev St:=List<|Option V
abbrev VK:=V->Hp->Prop
abbrev TE:=St->Hp->VK->Prop
abbrev TT:=St->Hp->(Bool->Hp->Prop)->Prop
abbrev TA:=St->Hp->(List V->Hp->Prop)->Prop
structure Ends where
 nx:St->Hp->Prop
 rt:VK
 bk:St->Hp->Prop:=λ_ _=>False
 ct:St->Hp->Prop:=λ_ _=>False
abbrev TS:=Ends->St->Hp->Prop
def EP(X:Cx)(XI:List (Xb×Xp))(σ:St)(Q:VK)(u:Xc)(s':Xe):Prop:=∃v H',Inv X XI σ H' s'/\RelV v u/\Q v H'
def TP(X:Cx)(XI:List (Xb×Xp))(σ:St)(Q:Bool->Hp->Prop)(b:Bool)(s':Xe):Prop:=∃H',Inv X XI σ H' s'/\Q b H'
def AP(X:Cx)(XI:List (Xb×Xp))(σ:St)(Q:List V->Hp->Prop)(us:List Xc)(s':Xe):Prop:=∃vs H',Inv X XI σ H' s'/\ah vs us/\Q vs H'
def SP(X:Cx)(XI:List (Xb×Xp))(D:Ends)(f:Flow)(s':Xe):Prop:=
 match f with
 |.next=>∃σ' H',Inv X XI σ' H' s'/\D.nx σ' H'
 |.brk=>∃σ' H',Inv X XI σ' H' s'/\D.bk σ' H'
 |.cont=>∃σ' H',Inv X XI σ' H' s'/\D.ct σ' H'
 |.ret u=>∃v σ' H',Inv X XI σ' H' s'/\RelV v u/\D.rt v H'
def PE(X:Cx)(e:JO)(t:TE):Prop:=
 ∀(XI:List (Xb×Xp))(s:Xe)(σ:St)(H:Hp)(Q:VK),Inv X XI σ H s->t σ H Q->Xh (Xg X.prog X.w) X.A (eval e X.env) (EP X XI σ Q) X.xe s
def PT(X:Cx)(e:JO)(t:TT):Prop:=
 ∀(XI:List (Xb×Xp))(s:Xe)(σ:St)(H:Hp)(Q:Bool->Hp->Prop),Inv X XI σ H s->t σ H Q->Xh (Xg X.prog X.w) X.A (isTrue e X.env<|eval e X.env) (TP X XI σ Q) X.xe s
def PW(X:Cx)(e:JO)(t:TT):Prop:=
 ∀(whole:Sem Xc)(XI:List (Xb×Xp))(s:Xe)(σ:St)(H:Hp)(Q:Bool->Hp->Prop),Inv X XI σ H s->t σ H Q->Xh (Xg X.prog X.w) X.A (isTrue e X.env whole) (TP X XI σ Q) X.xe s
def PW.pt(h:PW X e t):PT X e t:=h _
def PA(X:Cx)(es:List JO)(t:TA):Prop:=
 ∀(pos:Pos)(XI:List (Xb×Xp))(s:Xe)(σ:St)(H:Hp)(Q:List V->Hp->Prop),Inv X XI σ H s->t σ H Q->Xh (Xg X.prog X.w) X.A (spliced<|Xq pos<|Xi es X.env) (AP X XI σ Q) X.xe s
def PS(X:Cx)(st:Ze)(t:TS):Prop:=
 ∀(XI:List (Xb×Xp))(s:Xe)(σ:St)(H:Hp)(D:Ends),Inv X XI σ H s->t D σ H->Xh (Xg X.prog X.w) X.A (exec st X.env) (SP X XI D) X.xe s
def aV(X:Cx)(st:List Ze)(t:TS):Prop:=
 ∀(XI:List (Xb×Xp))(s:Xe)(σ:St)(H:Hp)(D:Ends),Inv X XI σ H s->t D σ H->Xh (Xg X.prog X.w) X.A (execs st X.env) (SP X XI D) X.xe s
def ax(h:Xh M A t Q E s)(hQ:∀a s,Q a s->Q' a s):Xh M A t Q' E s:=Xk h hQ λ_ _ x=>x
section
variable{X:Cx}
def bV(i:Nat):TE:=λσ H Q=>∃v,σ[i]? = some (some v)/\Q v H
def tC(v:V):TE:=λ_ H Q=>Q v H
def P6(hN:X.N[i]? = some x)(hv:iY X.env.scope x)(hd:(x == ("__debug__" : Str))=false:=by decide)(bQ:(x == ("__classdict__" : Str))=false:=by decide):PE X (.Name x pos) (bV i):=by
 intro XI s σ H Q I h;obtain⟨v,e,h⟩:=h;obtain⟨m,hn,hl⟩:=I.loc;obtain⟨u,r,l⟩:=hl i x v hN e hv;have fin:EP X XI σ Q u s:=⟨v,H,I,r,h⟩;rcases l with⟨hk,hm⟩ | ⟨hk,c,hc,js⟩
 ·exact ML (Pe I.ok.kind hk hn hm fin) hd
 ·rcases hk with hk | hk
  ·exact ML (O6 I.ok.kind hk hc js fin) hd
  ·exact ML (wpAny_loadName_free I.ok.kind hk hc js fin bQ) hd
def Jj{i j pos}:PE X (.Constant (.int i) j pos) (tC<|.int i):=λ_ _ _ H _ I h=>wpAny_Constant_int ⟨.int i,H,I.tok _,⟨_,rfl⟩,h⟩
def Bw{b j pos}:PE X (.Constant (.bool b) j pos) (tC<|.bl b):=λ_ _ _ H _ I h=>Constant_bool ⟨.bl b,H,I,rfl,h⟩
def QzE{j pos}:PE X (.Constant .none j pos) (tC .aL):=λ_ _ _ H _ I h=>Constant_none ⟨.aL,H,I,rfl,h⟩
def JR{x j pos}:PE X (.Constant (.str x) j pos) (tC<|.str x):=λ_ _ _ H _ I h=>Tp ⟨.str x,H,I.tok _,⟨_,rfl⟩,h⟩
def Gl(X:Cx)(x:Str):Prop:=X.env.kindOf x=some .globalImplicit
def uo(I:Inv X XI σ H s)(hg:Gl X x)(hm:X.mg x=some u)(h:Q u s)
  (hd:(x == ("__debug__" : Str))=false:=by decide):Xh (Xg X.prog X.w) X.A (eval (.Name x pos) X.env) Q E s:=
 WM I.ok.kind hg (Calls.loadGlobal_global (by rw[I.ok.glob];exact I.mod.glob.keeps I.bk) hm h) hd
def ph(I:Inv X XI σ H s)(hg:Gl X x)(hm:X.mg x=none)(hv:Xn x=some u)(h:Q u s)
  (hn:x ≠ "__name__" := by decide)(hd:(x == ("__debug__" : Str))=false:=by decide):Xh (Xg X.prog X.w) X.A (eval (.Name x pos) X.env) Q E s:=by
 obtain⟨mb,h1,h2⟩:=I.mod.blt;exact WM I.ok.kind hg (Calls.loadGlobal_builtin (by rw[I.ok.glob];exact I.mod.glob.keeps I.bk) hm (by rw[I.ok.blt];exact h1.keeps I.bk) ((h2 x hn).trans hv) h) hd
def Za(hg:Gl X x)(hm:X.mg x=some u)(r:RelV v u)(hd:(x == ("__debug__" : Str))=false:=by decide):PE X (.Name x pos) (tC v):=
 λ_ _ _ H _ I h=>uo I hg hm ⟨v,H,I,r,h⟩ hd
def Up(hg:Gl X x)(hm:X.mg x=none)(hv:Xn x=some u)(r:RelV v u)(hn:x ≠ "__name__" := by decide)(hd:(x == ("__debug__" : Str))=false:=by decide):PE X (.Name x pos) (tC v):=
 λ_ _ _ H _ I h=>ph I hg hm hv ⟨v,H,I,r,h⟩ hn hd
variable{a b:JO}{ta tb:TE}{pos:Pos}
def tB(t:TE):TT:=λσ H Q=>t σ H λx H1=>∃c,x=.bl c/\Q c H1
def tZ(h:PE X e t)(he:∀whole,isTrue e X.env whole=(do let v <- whole;Xu e.pos;Xt [v]<|XD v):=by intro _;rfl):PT X e (tB t):=by
 intro XI s σ H Q I hw;refine isTrue_plain (ax (h XI s σ H _ I hw) λv s1 ⟨x,H1,I1,r1,q1⟩=>?_)<|he _;obtain⟨d,rfl,q⟩:=q1;cases r1;exact JT ⟨H1,I1,q⟩
variable{tA xi:TT}{rest:List JO}
def QEK(t u:TT):TT:=λσ H Q=>t σ H λc H1=>if c=true then u σ H1 Q else Q false H1
def tOr(t u:TT):TT:=λσ H Q=>t σ H λc H1=>if c=true then Q true H1 else u σ H1 Q
def QED(t:TT):TT:=λσ H Q=>t σ H λc H1=>Q (!c) H1
def wG(ha:PT X a tA):PW X (.BoolOp .And [a] pos) tA:=by
 intro wh XI s σ H Q I h;refine isTrue_and<|ax (ha XI s σ H Q I h) λc s1 e=>?_;cases c with
 |true=>exact isTrue_and_nil e
 |false=>exact e
def ua(ha:PT X a tA):PW X (.BoolOp .Or [a] pos) tA:=by
 intro wh XI s σ H Q I h;refine isTrue_or<|ax (ha XI s σ H Q I h) λc s1 e=>?_;cases c with
 |false=>exact isTrue_or_nil e
 |true=>exact e
def vX(ha:PT X a tA)(hb:PW X (.BoolOp .And (b::rest) pos) xi):PW X (.BoolOp .And (a::b::rest) pos) (QEK tA xi):=by
 intro wh XI s σ H Q I h;refine isTrue_and<|ax (ha XI s σ H _ I h) λc s1 ⟨H1,I1,q1⟩=>?_;cases c with
 |true=>exact hb wh XI s1 σ H1 Q I1 q1
 |false=>exact⟨H1,I1,q1⟩
def nv(ha:PT X a tA)(hb:PW X (.BoolOp .Or (b::rest) pos) xi):PW X (.BoolOp .Or (a::b::rest) pos) (tOr tA xi):=by
 intro wh XI s σ H Q I h;refine isTrue_or<|ax (ha XI s σ H _ I h) λc s1 ⟨H1,I1,q1⟩=>?_;cases c with
 |true=>exact⟨H1,I1,q1⟩
 |false=>exact hb wh XI s1 σ H1 Q I1 q1
def o8(ha:PT X a tA):PT X (.UnaryOp .Not a pos) (QED tA):=by
 intro XI s σ H Q I h;exact isTrue_not<|ha XI s σ H (λc H1=>Q (!c) H1) I h
def QCI(ta tb:TE):TE:=λσ H Q=>ta σ H λx H1=>∃c,x=.bl c/\if c=true then tb σ H1 Q else Q (.bl false) H1
def QEC(ta tb:TE):TE:=λσ H Q=>ta σ H λx H1=>∃c,x=.bl c/\if c=true then Q (.bl true) H1 else tb σ H1 Q
def QCA(ta:TE):TE:=λσ H Q=>ta σ H λx H1=>∃c,x=.bl c/\Q (.bl (!c)) H1
def BW{op}(h:PE X a t):PE X (.BoolOp op [a] pos) t:=λXI s σ H Q I hw=>BoolOp_one<|h XI s σ H Q I hw
def BV(ha:PE X a ta)(hb:PE X (.BoolOp .And (b::rest) pos) tb):PE X (.BoolOp .And (a::b::rest) pos) (QCI ta tb):=by
 intro XI s σ H Q I h;refine BoolOp_and<|ax (ha XI s σ H _ I h) λv s1 ⟨x,H1,I1,r1,q1⟩=>?_;obtain⟨c,rfl,q1⟩:=q1;cases r1;refine JT ?_
 cases c with
 |true=>exact hb XI s1 σ H1 Q I1 q1
 |false=>exact⟨.bl false,H1,I1,rfl,q1⟩
def QC0(ha:PE X a ta)(hb:PE X (.BoolOp .Or (b::rest) pos) tb):PE X (.BoolOp .Or (a::b::rest) pos) (QEC ta tb):=by
 intro XI s σ H Q I h;refine BoolOp_or<|ax (ha XI s σ H _ I h) λv s1 ⟨x,H1,I1,r1,q1⟩=>?_;obtain⟨c,rfl,q1⟩:=q1;cases r1;refine JT ?_
 cases c with
 |false=>exact hb XI s1 σ H1 Q I1 q1
 |true=>exact⟨.bl true,H1,I1,rfl,q1⟩
def QzD(ha:PE X a ta):PE X (.UnaryOp .Not a pos) (QCA ta):=by
 intro XI s σ H Q I h;refine UnaryOp_<|ax (ha XI s σ H _ I h) λv s1 ⟨x,H1,I1,r1,q1⟩=>?_;obtain⟨c,rfl,q1⟩:=q1;cases r1;exact not_of<|JT ⟨.bl (!c),H1,I1,rfl,q1⟩
def M0(t:TT)(ta tb:TE):TE:=λσ H Q=>t σ H λc H1=>if c=true then ta σ H1 Q else tb σ H1 Q
def VJ(hc:PT X c tA)(ha:PE X a ta)(hb:PE X b tb):PE X (.IfExp c a b pos) (M0 tA ta tb):=by
 intro XI s σ H Q I h;refine wpAny_IfExp<|ax (hc XI s σ H _ I h) λd s1 ⟨H1,I1,q1⟩=>?_;cases d with
 |true=>exact ha XI s1 σ H1 Q I1 q1
 |false=>exact hb XI s1 σ H1 Q I1 q1
end
def aA(K:Qa)(H:Hp)(a:Xb)(xs:List V):Prop:=
 Rd H a (.lst xs) ∨
  ∃(o:Xp)(its:Array Xc)(n:Nat),K.lookup a=some o/\o.cls=.type "list" /\ o.dict=none/\o.data=.seq its n/\its.size<=Xj/\ah xs its.toList
def aP(K:Qa)(H:Hp)(a:Xb)(xs:List V):Prop:=
 Rd H a (.tup xs) ∨
  ∃(o:Xp)(its:Array Xc)(n:Nat),K.lookup a=some o/\o.cls=.type "tuple" /\ o.data=.seq its n/\its.size<=Xj/\ah xs its.toList
def QE5:Xc->Option V
 |.none=>some .aL
 |.bool b=>some<|.bl b
 |.int i _=>some<|.int i
 |.str x _=>some<|.str x
 |.bytes b _=>some<|.jy b
 |.float b _=>some<|.sH b
 |.ref a=>some<|.ref a
 |.type n=>some<|.ty n
 |_=>none
def RelV.abs(r:RelV x u):QE5 u=some x:=by
 cases x with
 |aL=>cases r;rfl
 |bl _=>cases r;rfl
 |int _=>obtain⟨t,rfl⟩:=r;rfl
 |str _=>obtain⟨t,rfl⟩:=r;rfl
 |jy _=>obtain⟨t,rfl⟩:=r;rfl
 |sH _=>obtain⟨t,rfl⟩:=r;rfl
 |ref _=>cases r;rfl
 |ty _=>cases r;rfl
def RelV.inj(r:RelV x u)(q:RelV y u):x=y:=QF<|r.abs.symm.trans q.abs
def ah.inj{xs ys:List V}{us:List Xc}(h:ah xs us)(h':ah ys us):xs=ys:=by
 induction us generalizing xs ys with
 |nil=>cases h;cases h';rfl
 |cons u us ih=>
  cases h with
  |cons r t=>
   cases h' with
   |cons r' t'=>rw[r.inj r',ih t t']
section
variable{X:Cx}{XI:List (Xb×Xp)}{σ:St}{H:Hp}{s:Xe}{a:Xb}{xs ys:List V}
def aA.of{K:Qa}(h:H a=some (.lst xs)):aA K H a xs:=.inl<|.inl h
def aP.of{K:Qa}(h:H a=some (.tup xs)):aP K H a xs:=.inl<|.inl h
def Inv.list(I:Inv X XI σ H s)(h:aA X.K H a xs):∃its:List Xc,ah xs its/\PlainL s.heap a its.toArray/\xs.length<=Xj:=by
 rcases h with h | ⟨o,its,n,hk,hc,hd,hs,hz,r⟩
 ·obtain⟨z,its,n,r,e⟩:=h.ok I.au;exact⟨its,r,⟨_,n,e,rfl,rfl,rfl⟩,z⟩
 ·refine⟨its.toList,r,⟨o,n,I.bP a o hk,hc,hd,by simpa using hs⟩,?_⟩;have e:=r.length;simp only[Q5] at e;omega
def Inv.tuple(I:Inv X XI σ H s)(h:aP X.K H a xs):∃its:List Xc,ah xs its/\IsTup s.heap a its.toArray/\xs.length<=Xj:=by
 rcases h with h | ⟨o,its,n,hk,hc,hs,hz,r⟩
 ·obtain⟨z,its,r,p⟩:=h.ok I.au;exact⟨its,r,p.tup,z⟩
 ·refine⟨its.toList,r,⟨o,I.bP a o hk,hc,n,by simpa using hs⟩,?_⟩;have e:=r.length;simp only[Q5] at e;omega
def Inv.kZ(I:Inv X XI σ H s)(h:aA X.K H a xs)(h':aA X.K H a ys):xs=ys:=by
 obtain⟨its,r,⟨o,n,e,_,_,d⟩,_⟩:=I.list h;obtain⟨fI,r',⟨o',n',e',_,_,d'⟩,_⟩:=I.list h';rw[e] at e';cases e';rw[d] at d';injection d' with d1 _
 have:its=fI:=by simpa using X6 Ih d1
 subst this;exact r.inj r'
def Inv.jO(I:Inv X XI σ H s)(h:aP X.K H a xs)(h':aP X.K H a ys):xs=ys:=by
 obtain⟨its,r,⟨o,e,_,n,d⟩,_⟩:=I.tuple h;obtain⟨fI,r',⟨o',e',_,n',d'⟩,_⟩:=I.tuple h';rw[e] at e';cases e';rw[d] at d';injection d' with d1 _
 have:its=fI:=by simpa using X6 Ih d1
 subst this;exact r.inj r'
end
abbrev Cx.cQ (X:Cx) (E:Xc->Xe->Prop):Cx:={ X with xe:=E }
abbrev Cx.jm (X:Cx):Cx:=X.cQ λ_ _=>False
def Cx.Ok.cQ{X:Cx}(ok:X.Ok)(E:Xc->Xe->Prop):(X.cQ E).Ok:=
 ⟨ok.mod,ok.kind,ok.glob,ok.blt,ok.above,ok.inj,ok.has,ok.sM,ok.hd,ok.frames,ok.u7,ok.ko,ok.bs,ok.jX,ok.iR,ok.fL,ok.cf,ok.lu⟩
def Cx.Ok.a7{X:Cx}(ok:(X.cQ E).Ok):X.Ok:=
 ⟨ok.mod,ok.kind,ok.glob,ok.blt,ok.above,ok.inj,ok.has,ok.sM,ok.hd,ok.frames,ok.u7,ok.ko,ok.bs,ok.jX,ok.iR,ok.fL,ok.cf,ok.lu⟩
section
variable{X:Cx}{XI:List (Xb×Xp)}{σ:St}{H:Hp}{s:Xe}{E:Xc->Xe->Prop}
def Inv.cQ(I:Inv X XI σ H s)(E:Xc->Xe->Prop):Inv (X.cQ E) XI σ H s:=⟨I.ok.cQ E,I.os,I.bare,I.base,I.loc,I.cell,I.free,I.be,I.pin,I.au,I.len⟩
def Inv.a7(I:Inv (X.cQ E) XI σ H s):Inv X XI σ H s:=⟨I.ok.a7,I.os,I.bare,I.base,I.loc,I.cell,I.free,I.be,I.pin,I.au,I.len⟩
def SP.a7(h:SP (X.cQ E) XI D f s'):SP X XI D f s':=by
 cases f with
 |next=>obtain⟨σ',H',I,q⟩:=h;exact⟨σ',H',I.a7,q⟩
 |brk=>obtain⟨σ',H',I,q⟩:=h;exact⟨σ',H',I.a7,q⟩
 |cont=>obtain⟨σ',H',I,q⟩:=h;exact⟨σ',H',I.a7,q⟩
 |ret u=>obtain⟨v,σ',H',I,r,q⟩:=h;exact⟨v,σ',H',I.a7,r,q⟩
def aV.jm{st:List Ze}(h:aV X.jm st t):aV X st t:=λXI s σ H D I hw=>
 Xk (h XI s σ H D (I.cQ _) hw) (λ_ _ q=>q.a7) λ_ _ z=>Q9 z
end
section
variable{X:Cx}{st:Ze}{rest:List Ze}{t u:TS}{e:JO}{te:TE}{pos:Pos}
def QCB:TS:=λD σ H=>D.nx σ H
def D_(t u:TS):TS:=λD σ H=>t { D with nx:=u D } σ H
def Zu:aV X [] QCB:=λ_ _ σ H _ I h=>wU ⟨σ,H,I,h⟩
def Qu(h1:PS X st t)(h2:aV X rest u):aV X (st::rest) (D_ t u):=by
 intro XI s σ H D I h;refine CW<|ax (h1 XI s σ H { D with nx:=u D } I h) λf s1 q=>?_;cases f with
 |next=>
  obtain⟨σ',H',I',q⟩:=q;exact h2 XI s1 σ' H' D I' q
 |ret v=>exact q
 |brk=>exact q
 |cont=>exact q
def QP(h1:PS X st t):aV X [st] t:=by
 intro XI s σ H D I h;refine CW<|ax (h1 XI s σ H D I h) λf s1 q=>?_;cases f with
 |next=>exact wU q
 |ret v=>exact q
 |brk=>exact q
 |cont=>exact q
def Inv.quiet(I:Inv X XI σ H s):interactive X.env=false:=by simp[interactive,I.ok.kind]
def Bu(te:TE):TS:=λD σ H=>te σ H λ_ H1=>D.nx σ H1
def Zp(he:PE X e te)(hs:Xw e none pos.line X.env=pure false:=by rfl):PS X (.Expr e pos) (Bu te):=by
 intro XI s σ H D I h;exact wpAny_Expr_any (ax (he XI s σ H _ I h) λv s1 ⟨x,H1,I1,r1,q1⟩=>⟨σ,H1,I1,q1⟩) I.quiet hs
def QEB(te:TE):TS:=λD σ H=>te σ H D.rt
def JV(he:PE X e te):PS X (.Return (some e) pos) (QEB te):=by
 intro XI s σ H D I h;exact Kz<|ax (he XI s σ H _ I h) λv s1 ⟨x,H1,I1,r1,q1⟩=>⟨x,σ,H1,I1,r1,q1⟩
def QEG(c:TT)(t u:TS):TS:=λD σ H=>c σ H λb H1=>if b=true then t D σ H1 else u D σ H1
def d_(hc:PT X c tc)(ha:aV X a t)(hb:aV X b u):PS X (.If c a b pos) (QEG tc t u):=by
 intro XI s σ H D I h;refine wpAny_If<|ax (hc XI s σ H _ I h) λd s1 ⟨H1,I1,q1⟩=>?_;cases d with
 |true=>exact ha XI s1 σ H1 D I1 q1
 |false=>exact hb XI s1 σ H1 D I1 q1
end
abbrev TG:=V->St->Hp->(St->Hp->Prop)->Prop
abbrev vB:=List V->St->Hp->(St->Hp->Prop)->Prop
def PG(X:Cx)(target:JO)(t:TG):Prop:=
 ∀(XI:List (Xb×Xp))(s:Xe)(σ:St)(H:Hp)(v:V)(u:Xc)(Q:St->Hp->Prop),Inv X XI σ H s->RelV v u->t v σ H Q ->
  Xh (Xg X.prog X.w) X.A (assign target X.env u) (λ_ s'=>∃σ' H',Inv X XI σ' H' s'/\Q σ' H') X.xe s
def Af(X:Cx)(ts:List JO)(t:vB):Prop:=
 ∀(XI:List (Xb×Xp))(s:Xe)(σ:St)(H:Hp)(vs:List V)(us:List Xc)(Q:St->Hp->Prop),Inv X XI σ H s->ah vs us->t vs σ H Q ->
  Xh (Xg X.prog X.w) X.A (assignInOrder ((Xx ts X.env).map (·.2)) us) (λ_ s'=>∃σ' H',Inv X XI σ' H' s'/\Q σ' H') X.xe s
abbrev sW:=V->V->V->Hp->(Hp->Prop)->Prop
def Mp(X:Cx)(t:sW):Prop:=
 ∀(XI:List (Xb×Xp))(s:Xe)(σ:St)(H:Hp)(o i v:V)(ov iv u:Xc)(Q:Hp->Prop),Inv X XI σ H s->RelV o ov->RelV i iv->RelV v u->t o i v H Q ->
  Xh (Xg X.prog X.w) X.A (XG ov iv u) (λ_ s'=>∃H',Inv X XI σ H' s'/\Q H') X.xe s
abbrev Bf:=V->V->Hp->VK->Prop
def ma(X:Cx)(op:Operator)(t:Bf):Prop:=
 ∀(XI:List (Xb×Xp))(s:Xe)(σ:St)(H:Hp)(x y:V)(v u:Xc)(Q:VK),Inv X XI σ H s->RelV x v->RelV y u->t x y H Q ->
  Xh (Xg X.prog X.w) X.A (inplaceOp op v u) (EP X XI σ Q) X.xe s
section
variable{X:Cx}{pos:Pos}
def Yu(i:Nat):TG:=λv σ H Q=>Q (σ.set i<|some v) H
def ZC(hN:X.N.Nodup)(hi:X.N[i]? = some x)(hx:Loc X.env.scope x)(hf:X.fn x=true∨X.env.scope.names.lookup x=some .local:=by first | exact .inl rfl | exact .inr rfl | assumption):PG X (.Name x pos) (Yu i):=by
 intro XI s σ H v u Q I r h;exact QB5<|wK I hN hi hx r (λs' I'=>⟨_,H,I',h⟩) hf
def qD:vB:=λvs σ H Q=>vs=[]/\Q σ H
def jH(t:TG)(u:vB):vB:=λvs σ H Q=>∃v r,vs=v::r/\t v σ H λσ' H'=>u r σ' H' Q
def l9:Af X [] qD:=by
 intro XI s σ H vs us Q I r h;obtain⟨e,h⟩:=h;subst e;cases r;exact QB9 ⟨σ,H,I,h⟩
def J3(h1:PG X e t)(h2:Af X es u)
  (hs:(Xx (e::es) X.env).map (·.2)=assign e X.env::(Xx es X.env).map (·.2):=by rfl):Af X (e::es) (jH t u):=by
 intro XI s σ H vs us Q I r h;obtain⟨v,vr,e1,h⟩:=h;subst e1;cases r with
 |cons r rr=>
  rw[hs];exact KZ<|ax (h1 XI s σ H _ _ _ I r h) λ_ s1 ⟨σ1,H1,I1,q1⟩=>(h2 XI s1 σ1 H1 _ _ Q I1 rr q1)
def qE(K:Qa)(n:Nat)(t:vB):TG:=λv σ H Q=>∃a xs,v=.ref a/\aP K H a xs/\xs.length=n/\t xs σ H Q
def lV(hc:X.calm=true)(h:Af X es t)
  (hn:(Xx es X.env).length=n:=by rfl)(gs:(Xx es X.env).findIdx? (·.1)=none:=by rfl):PG X (.Tuple es k pos) (qE X.K n t):=by
 intro XI s σ H v u Q I r hw;obtain⟨a,xs,e1,hq,hl,hw⟩:=hw;subst e1;cases r;obtain⟨its,rv,ht,hz⟩:=I.tuple hq;refine assign_Tuple_tuple (I.ok.hd hc) ht (by simp[hn,<- hl,rv.length]) gs λh' hx=>?_
 have I1:=I.kept (t':=s.toks) λb o e=>hx b o (Qy<|Ql e) e
 exact h XI _ σ H xs _ Q I1 (by simpa using rv) hw
def yr(to ti:TE)(t:sW):TG:=λv σ H Q=>to σ H λo H1=>ti σ H1 λi H2=>t o i v H2 λH3=>Q σ H3
def HQ(ho:PE X o to)(hi:PE X i ti)(hs:Mp X t)
  (ha:∀v,assign (.Subscript o i pos) X.env v=(do
   let ov <- Xt [v] (eval o X.env)
   let iv <- Xt [v,ov] (eval i X.env)
   Xu pos
   Xt [v,ov,iv] (XG ov iv v)
   release [v,ov,iv] []):=by intro _;rfl):PG X (.Subscript o i pos) (yr to ti t):=by
 intro XI s σ H v u Q I r h;refine Xa<|Jx<|ax (ho XI s σ H _ I h) λov s1 ⟨x,H1,I1,r1,q1⟩=>(Xa<|Jx<|ax (hi XI s1 σ H1 _ I1 q1) λiv s2 ⟨y,H2,I2,r2,q2⟩=>?_);exact Xa<|wpAny_standAt<|Xa<|Jx<|ax (hs XI s2 σ H2 x y v ov iv u _ I2 r1 r2 r q2) λ_ s3 ⟨H3,I3,q3⟩=>(wpAny_release ⟨σ,H3,I3,q3⟩)
def nq(te:TE)(g:TG):TS:=λD σ H=>te σ H λx H1=>g x σ H1 D.nx
def pj(he:PE X e te)(hg:PG X tg g)(hs:swapsWithSole [tg] e pos.line X.env=pure false:=by rfl)(hw:swappedStores [tg] e X.env=pure none:=by rfl)
  (h1:(Xx [tg] X.env).map (·.2)=[assign tg X.env]:=by rfl):PS X (.Assign [tg] e pos) (nq te g):=by
 intro XI s σ H D I h;refine wpAny_Assign_stores (ax (he XI s σ H _ I h) λv s1 ⟨x,H1,I1,r1,q1⟩=>?_) hs hw;rw[h1];exact ax (hg XI s1 σ H1 x v _ I1 r1 q1) λ_ s2 q=>q
def i9(hN:X.N.Nodup)(hi:X.N[i]? = some x)(hx:Loc X.env.scope x)(he:PE X e te)(hs:Xw e (some<|.Name x pos') pos.line X.env=pure false:=by rfl)(hf:X.fn x=true∨X.env.scope.names.lookup x=some .local:=by first | exact .inl rfl | exact .inr rfl | assumption) :
  PS X (.Assign [.Name x pos'] e pos) (nq te<|Yu i):=by
 intro XI s σ H D I h;exact wpAny_Assign_Name (ax (he XI s σ H _ I h) λv s1 ⟨y,H1,I1,r1,q1⟩=>(wK I1 hN hi hx r1 (λs2 I2=>⟨_,H1,I2,q1⟩) hf)) hs
def QD1(i j:Nat)(ta:TA):TS:=λD σ H=>ta σ H λvs H1=>∃v w,vs=[v,w]/\D.nx ((σ.set i<|some v).set j<|some w) H1
def SO{kt k2 rY}(hc:X.calm=true)(hN:X.N.Nodup)(hi:X.N[i]? = some x)(hj:X.N[j]? = some y)(sC:i≠j)
  (hx:X.env.scope.names.lookup x=some .local)(hy:X.env.scope.names.lookup y=some .local)(ha:PA X [a,b] ta)
  (hw:swappedStores [.Tuple [.Name x px,.Name y py] kt pt] (.Tuple [a,b] k2 rY) X.env=pure (some [x,y]))
  (hs:swapsWithSole [.Tuple [.Name x px,.Name y py] kt pt] (.Tuple [a,b] k2 rY) pos.line X.env=pure false:=by rfl) :
  PS X (.Assign [.Tuple [.Name x px,.Name y py] kt pt] (.Tuple [a,b] k2 rY) pos) (QD1 i j ta):=by
 intro XI s σ H D I h;refine Xa<|wpAny_standAt ?_;refine Xa<|wpAny_pure ?_;refine Xa<|Tuple_<|ax (ha _ XI s σ H _ I h) λus s1 ⟨vs,H1,I1,r1,q1⟩=>?_;obtain⟨v,w,e1,q1⟩:=q1;subst e1;obtain⟨u1,u2,rfl,rv,g8⟩:∃u1 u2,us=[u1,u2]/\RelV v u1/\RelV w u2:=by
  cases r1 with
  |cons p q=>
   cases q with
   |cons p' q'=>
    cases q';exact⟨_,_,rfl,p,p'⟩
 refine Jt ?_ (by show 2<=Xj;decide)
 have I2:Inv X XI σ H1 { s1 with heap:=s1.heap.push { cls:=.type "tuple",data:=.seq [u1,u2].toArray } }:=I1.kept λb o e=>Qe _ e
 rw[hw];refine Xa<|wpAny_pure ?_;refine Xa<|wpAny_rule<|Xa<|unpackItems_tuple (items:=#[u1,u2]) (I.ok.hd hc) (IsTup.new s1.heap _) λh' iG=>?_;have I3:=I2.kept (t':=s1.toks) λb o e=>iG b o (Qy<|Ql e) e
 refine Xa<|KZ<|wpAny_bindName<|wK I3 hN hj (.inl hy) g8 (λs2 I4=>(KZ<|wpAny_bindName<|wK I4 hN hi (.inl hx) rv (λs3 I5=>QB9<|wpAny_pure ?_)<|.inr hx))<|.inr hy;rw[List.set_comm _ _<|ir sC] at I5;exact⟨_,H1,I5,q1⟩
def QD2(i:Nat)(te:TE)(ti:Bf):TS:=λD σ H=>∃x,σ[i]? = some (some x)/\te σ H λy H1=>ti x y H1 λz H2=>D.nx (σ.set i<|some z) H2
def QzB(hN:X.N.Nodup)(hi:X.N[i]? = some x)(hx:Loc X.env.scope x)(he:PE X e te)(ho:ma X op ti)(hf:X.fn x=true∨X.env.scope.names.lookup x=some .local:=by first | exact .inl rfl | exact .inr rfl | assumption) :
  PS X (.AugAssign (.Name x pos') op e pos) (QD2 i te ti):=by
 intro XI s σ H D I h;obtain⟨v,e1,h⟩:=h;obtain⟨m,hn,hl⟩:=I.loc;have vis:iY X.env.scope x:=by rcases hx with k | k;exact .inl k;exact .inr<|.inl k
 obtain⟨u,r,l⟩:=hl i x v hi e1 vis;refine wpAny_AugAssign_Name ?_
 have go:Xh (Xg X.prog X.w) X.A (eval e X.env) (λw s₂=>Xh (Xg X.prog X.w) X.A (inplaceOp op u w) (λr s₃=>Xh (Xg X.prog X.w) X.A (storeName X.env x r) (λ_=>SP X XI D .next) X.xe s₃) X.xe s₂) X.xe s:=by
  refine ax (he XI s σ H _ I h) λw s1 ⟨y,H1,I1,r1,q1⟩=>(ax (ho XI s1 σ H1 v y u w _ I1 r r1 q1) λz s2 ⟨zv,H2,I2,r2,q2⟩=>?_)
  exact wK I2 hN hi hx r2 (λs3 I3=>⟨_,H2,I3,q2⟩) hf
 rcases l with⟨hk,hm⟩ | ⟨hk,c,hc,js⟩
 ·exact Pe I.ok.kind hk hn hm go
 ·rcases hk with hk | hk
  ·exact O6 I.ok.kind hk hc js go
  ·rcases hx with k | k
   ·have:X.env.scope.names.lookup x=some .free:=hk;rw[k] at this;cases this
   ·have:X.env.scope.names.lookup x=some .free:=hk;rw[k] at this;cases this
def Pg(to ti te:TE)(rP:V->V->Hp->VK->Prop)(Ek:Bf)(rM:sW):TS:=λD σ H=>to σ H λo H1=>ti σ H1 λi H2=>rP o i H2 λx H3=>te σ H3 λy H4=>Ek x y H4 λz H5=>rM o i z H5 λH6=>D.nx σ H6
def QEx(X:Cx)(t:V->V->Hp->VK->Prop):Prop:=
 ∀(XI:List (Xb×Xp))(s:Xe)(σ:St)(H:Hp)(o i:V)(ov iv:Xc)(Q:VK),Inv X XI σ H s->RelV o ov->RelV i iv->t o i H Q ->
  Xh (Xg X.prog X.w) X.A (XA ov iv) (EP X XI σ Q) X.xe s
def QvU(ho:PE X o to)(hi:PE X i ti)(hg:QEx X rP)(he:PE X e te)(hp:ma X op Ek)(hs:Mp X rM)
  (ha:∀ov iv new,augStore i ov iv new=(do Xt [new,ov,iv] (XG ov iv new);release [new,ov,iv] [];pure .next):=by intros;rfl):PS X (.AugAssign (.Subscript o i cV) op e pos) (Pg to ti te rP Ek rM):=by
 intro XI s σ H D I h;refine wpAny_AugAssign_SubscriptAny (ax (ho XI s σ H _ I h) λov s1 ⟨x1,H1,I1,r1,q1⟩=>(ax (hi XI s1 σ H1 _ I1 q1) λiv s2 ⟨x2,H2,I2,r2,q2⟩=>?_)) ha;refine ax (hg XI s2 σ H2 x1 x2 ov iv _ I2 r1 r2 q2) λold s3 ⟨x3,H3,I3,r3,q3⟩=>(ax (he XI s3 σ H3 _ I3 q3) λv s4 ⟨x4,H4,I4,r4,q4⟩=>?_)
 exact ax (hp XI s4 σ H4 x3 x4 old v _ I4 r3 r4 q4) λnew s5 ⟨x5,H5,I5,r5,q5⟩=>(ax (hs XI s5 σ H5 x1 x2 x5 ov iv new _ I5 r1 r2 r5 q5) λ_ s6 ⟨H6,I6,q6⟩=>⟨σ,H6,I6,q6⟩)
def Fx(f:Int->Int->Int):Bf:=λx y H Q=>∃i j,x=.int i/\y=.int j/\Q (.int<|f i j) H
def PK:ma X .Add (Fx λi j=>i+j):=by
 intro XI s σ H x y v u Q I r1 r2 h;obtain⟨i,j,e1,e2,q⟩:=h;subst e1;subst e2;obtain⟨t,rfl⟩:=r1;obtain⟨t',rfl⟩:=r2;exact iadd_int ⟨.int _,H,I.tok _,⟨_,rfl⟩,q⟩
def QAI:ma X .Sub (Fx λi j=>i - j):=by
 intro XI s σ H x y v u Q I r1 r2 h;obtain⟨i,j,e1,e2,q⟩:=h;subst e1;subst e2;obtain⟨t,rfl⟩:=r1;obtain⟨t',rfl⟩:=r2;exact isub_int ⟨.int _,H,I.tok _,⟨_,rfl⟩,q⟩
def QyQ(c:TT)(tb:TS):TS:=λD σ H=>∃W:Nat->St->Hp->Prop,(∃m,W m σ H)/\∀m σ H,W m σ H ->
 c σ H λb H1=>if b=true then ∃N:St->Hp->Prop,(∀σ' H',N σ' H'->∃m',m'<m/\W m' σ' H')/\tb { D with nx:=N,ct:=N,bk:=D.nx } σ H1 else D.nx σ H1
def VN(hp:v8 (Xg X.prog X.w) X.A X.env X.xe)(hc:PT X c tc)(hb:aV X body tb):PS X (.While c body [] pos) (QyQ tc tb):=by
 intro XI s σ H D I h;obtain⟨W,⟨m0,w0⟩,turn⟩:=h;refine wpAny_While<|codeAny_whileLoop (λn s'=>∃σ' H',Inv X XI σ' H' s'/\W n σ' H') ?_ m0 ⟨σ,H,I,w0⟩;rintro n s1 ⟨σ1,H1,I1,w1⟩;refine YM hp<|ax (hc XI s1 σ1 H1 _ I1<|turn n σ1 H1 w1) λb s2 ⟨H2,I2,q2⟩=>?_;cases b with
 |true=>
  obtain⟨N,hN,q2⟩:=q2;refine YM hp<|ax (hb XI s2 σ1 H2 _ I2 q2) λf s3 q3=>?_;cases f with
  |next=>
   obtain⟨σ3,H3,I3,n3⟩:=q3;obtain⟨m',hm,w3⟩:=hN σ3 H3 n3;exact⟨m',hm,σ3,H3,I3,w3⟩
  |cont=>
   obtain⟨σ3,H3,I3,n3⟩:=q3;obtain⟨m',hm,w3⟩:=hN σ3 H3 n3;exact⟨m',hm,σ3,H3,I3,w3⟩
  |brk=>exact q3
  |ret v=>exact q3
 |false=>
  exact wU ⟨σ1,H2,I2,q2⟩
end
structure It where
 go:Nat->Hp->Prop
 nU:Nat->Hp->V->Hp->Prop
 stop:Nat->Hp->Prop
def aR(X:Cx)(XI:List (Xb×Xp))(H:Hp)(b:Xb):Prop:=
 H b=none/\b≠X.env.locals/\b∉X.fs/\(b∈X.ex∨X.s₀.heap.objs.size<=b)/\(∀x c,X.env.cells.lookup x=some c->c≠b)/\∀p∈X.pn++XI,p.1≠b
def Inv.ib(I:Inv X XI σ H s)(hb:s.heap.objs.size<=b)(hn:H' b=none):aR X XI H' b:=by
 refine⟨hn,wO<|QM I.lt hb,I.Ff hb,.inr<|QQ I.sz hb,λx c e z=>?_,λp hp z=>?_⟩
 ·obtain⟨v,q⟩:=I.cell x c e;exact X5 (QM q.lt (by rw[z];exact hb))<|Yg _
 ·exact X5 (QM (Ql (I.pin p hp).1) (by rw[z];exact hb))<|Yg _
structure Turn (P:QB) (w:Jf) (K:Qa) (tg:JO) (J:It) (fp:List Xb) (it:Xb) (tn:Nat->Xl->Prop):Prop where
 mem:it∈fp
 obj:∀i h,tn i h->∀b∈fp,∃o,h.get? b=some o/\∀v,o.data≠.cell v
 keep:∀i h h',tn i h->(∀b∈fp,∀o,h.get? b=some o->h'.get? b=some o)->tn i h'
 item:∀(X:Cx),X.prog=P->X.w=w->X.K=K->X.calm=true->∀(i:Nat)(XI:List (Xb×Xp))(s:Xe)(σ:St)(H:Hp)(E:Xc->Xe->Prop),Inv X XI σ H s->(∀b∈fp,aR X XI H b)->tn i s.heap->J.go i H ->
  Xh (Xg P w) X.A (pyNext<|.ref it) (λr s1=>∃u,r=some u /\
   Xh (Xg P w) X.A (letOwnedTupleGo tg (.ref it) u) (λ_ s2=>∃x H',Inv X XI σ H' s2/\RelV x u/\J.nU i H x H'/\tn (i+1) s2.heap/\∀b∈fp,H' b=none) E s1) E s
 done:∀(X:Cx),X.prog=P->X.w=w->X.K=K->X.calm=true->∀(i:Nat)(XI:List (Xb×Xp))(s:Xe)(σ:St)(H:Hp)(E:Xc->Xe->Prop),Inv X XI σ H s->(∀b∈fp,aR X XI H b)->tn i s.heap->J.stop i H ->
  Xh (Xg P w) X.A (pyNext<|.ref it) (λr s1=>r=none/\Inv X XI σ H s1) E s
 self:∀(A:JF)(i:Nat)(s:Xe)(Q:Xc->Xe->Prop)(E:Xc->Xe->Prop),tn i s.heap->Q (.ref it) s->Xh (Xg P w) A (pyIter<|.ref it) Q E s
abbrev TI:=St->Hp->(It->Hp->Prop)->Prop
def PIE(X:Cx)(XI:List (Xb×Xp))(σ:St)(tg:JO)(R:It->Hp->Prop)(k8:Xc)(s2:Xe):Prop:=
 ∃(it:Xb)(fp:List Xb)(tn:Nat->Xl->Prop)(J:It)(H':Hp),k8=.ref it/\Inv X XI σ H' s2/\Turn X.prog X.w X.K tg J fp it tn/\tn 0 s2.heap/\(∀b∈fp,aR X XI H' b)/\R J H'
def PI(X:Cx)(tg iter:JO)(wi:TI):Prop:=
 ∀(XI:List (Xb×Xp))(s:Xe)(σ:St)(H:Hp)(R:It->Hp->Prop),Inv X XI σ H s->wi σ H R ->
  Xh (Xg X.prog X.w) X.A (eval iter X.env) (λv s1=>Xh (Xg X.prog X.w) X.A (pyIter v) (PIE X XI σ tg R) X.xe s1) X.xe s
def yM(ho:s.heap.get? it=some o)(hc:o.cls=.type n)(hd:o.data=.fields vs)
  (hn:["enumerate", "zip", "dict_itemiterator", "dict_reverseitemiterator", "odict_iterator", "itertools.zip_longest", "itertools.pairwise"].contains n=false)(hQ:Q () s):Xh M A (letOwnedTupleGo tg (.ref it) u) Q E s:=by
 cases tg<;>first
  |exact wpAny_pure hQ
  |(cases u<;>first
    |exact wpAny_pure hQ
    |(refine Xa (wpAny_load ho ?_)
      rw[hc,hd];show Xh M A (if(["enumerate", "zip", "dict_itemiterator", "dict_reverseitemiterator", "odict_iterator", "itertools.zip_longest", "itertools.pairwise"].contains n&&vs[0]? == some (rawInt _))=true then _ else _) Q E s;rw[XY (by intro h;rw[hn] at h;cases h)];exact wpAny_pure hQ))
def Eh(K:Qa)(a:Xb):It:=
 ⟨λi H=>∃xs x,aA K H a xs/\xs[i]? = some x,λi H x H'=>H'=H/\∀xs,aA K H a xs->xs[i]? = some x,λi H=>∃xs,aA K H a xs/\xs.length<=i⟩
def Eg(K:Qa)(a:Xb):It:=
 ⟨λi H=>∃xs x,aP K H a xs/\xs[i]? = some x,λi H x H'=>H'=H/\∀xs,aP K H a xs->xs[i]? = some x,λi H=>∃xs,aP K H a xs/\xs.length<=i⟩
def uF(lo:Int)(n:Nat):It:=⟨λi _=>i<n,λi H x H'=>H'=H/\x=.int (lo+i),λi _=>n<=i⟩
def QmF{K:Qa}(a it:Xb):Turn P w K tg (Eh K a) [it] it (λi h=>h.IsListIter it a i) where
 mem:=by simp
 obj:=λi h st b hb=>by
  have e:b=it:=by simpa using hb
  subst e;obtain⟨o,e,c,d⟩:=st;exact⟨o,e,λv z=>by rw[d] at z;cases z⟩
 keep:=λi h h' st k=>st.at λo e=>k it (by simp) o e
 item:=by
  intro X hP hw hK hc i XI s σ H E I hf st hg;subst hP hw hK;obtain⟨xs,x,hq,hx⟩:=hg;obtain⟨its,rv,p,hz⟩:=I.list hq;obtain⟨u,hu,ru⟩:=rv.get hx;obtain⟨f0,f1,f2,f3,f4,f5⟩:=hf it (by simp);refine LO st p.isList (by simpa using hu) λh' bH sb=>?_
  have I1:=I.turned (t':=s.toks) (λb o hb e=>(sb.2 b hb).trans e) f0 f1 f3 f4 f5;obtain⟨o,e,c,d⟩:=id bH;exact⟨u,rfl,yM e c d (by decide) ⟨x,H,I1,ru,⟨rfl,λys hy=>by rw[I.kZ hy hq];exact hx⟩,bH,λb hb=>(hf b hb).1⟩⟩
 done:=by
  intro X hP hw hK hc i XI s σ H E I hf st hg;subst hP hw hK;obtain⟨xs,hq,hx⟩:=hg;obtain⟨its,rv,p,hz⟩:=I.list hq;obtain⟨f0,f1,f2,f3,f4,f5⟩:=hf it (by simp);have hl:=rv.length;exact Lx (I.ok.hd hc) st p.isList (by simp;omega) λh' eb=>⟨rfl,I.turned (λb o hb e=>eb b o hb e) f0 f1 f3 f4 f5⟩
 self:=λ_ _ _ _ _ st h=>wpAny_pyIter_listiter st h
def Qlv{K:Qa}(a it:Xb):Turn P w K tg (Eg K a) [it] it (λi h=>h.IsTupleIter it a i) where
 mem:=by simp
 obj:=λi h st b hb=>by
  have e:b=it:=by simpa using hb
  subst e;obtain⟨o,e,c,d⟩:=st;exact⟨o,e,λv z=>by rw[d] at z;cases z⟩
 keep:=λi h h' st k=>st.at λo e=>k it (by simp) o e
 item:=by
  intro X hP hw hK hc i XI s σ H E I hf st hg;subst hP hw hK;obtain⟨xs,x,hq,hx⟩:=hg;obtain⟨its,rv,p,hz⟩:=I.tuple hq;obtain⟨u,hu,ru⟩:=rv.get hx;obtain⟨f0,f1,f2,f3,f4,f5⟩:=hf it (by simp);refine wpAny_pyNext_tuple_item st (p) (by simpa using hu) λh' bH sb=>?_
  have I1:=I.turned (t':=s.toks) (λb o hb e=>(sb.2 b hb).trans e) f0 f1 f3 f4 f5;obtain⟨o,e,c,d⟩:=id bH;exact⟨u,rfl,yM e c d (by decide) ⟨x,H,I1,ru,⟨rfl,λys hy=>by rw[I.jO hy hq];exact hx⟩,bH,λb hb=>(hf b hb).1⟩⟩
 done:=by
  intro X hP hw hK hc i XI s σ H E I hf st hg;subst hP hw hK;obtain⟨xs,hq,hx⟩:=hg;obtain⟨its,rv,p,hz⟩:=I.tuple hq;obtain⟨f0,f1,f2,f3,f4,f5⟩:=hf it (by simp);have hl:=rv.length;exact wpAny_pyNext_tuple_end (I.ok.hd hc) st (p) (by simp;omega) λh' eb=>⟨rfl,I.turned (λb o hb e=>eb b o hb e) f0 f1 f3 f4 f5⟩
 self:=λ_ _ _ _ _ st h=>wpAny_pyIter_tupleiter st h
def Qlw{K:Qa}(it:Xb)(lo:Int)(n:Nat):Turn P w K tg (uF lo n) [it] it (λi h=>GO h it (lo+(i:Nat)*1) ((n:Int) - (i:Nat)) 1) where
 mem:=by simp
 obj:=λi h st b hb=>by
  have e:b=it:=by simpa using hb
  subst e;exact⟨_,st,λv z=>by
   have z':=z;cases z'⟩
 keep:=λi h h' st k=>k it (by simp) _ st
 item:=by
  intro X hP hw hK hc i XI s σ H E I hf st hg;subst hP hw hK;obtain⟨f0,f1,f2,f3,f4,f5⟩:=hf it (by simp);have W:=QCa (prog:=X.prog) (w:=X.w) (I.ok.hd hc) it lo 1 n;refine W.item i s _ _ hg st λv h' tk hv bH kk=>?_
  obtain⟨t,rfl⟩:=hv;have I1:Inv X XI σ H { s with heap:=h',toks:=tk }:=I.turned (λb o hb e=>kk b o (by simpa using hb) e) f0 f1 f3 f4 f5;refine⟨_,rfl,yM bH rfl rfl (by decide) ⟨.int<|lo+i,H,I1,⟨t,?_⟩,⟨rfl,rfl⟩,bH,λb hb=>(hf b hb).1⟩⟩;rw[Int.mul_one]
 done:=by
  intro X hP hw hK hc i XI s σ H E I hf st hg;obtain⟨f0,f1,f2,f3,f4,f5⟩:=hf it (by simp);exact R5 (I.ok.hd hc) st (by have:n<=i:=hg;omega) λh' eb=>⟨rfl,I.turned (λb o hb e=>eb b o hb e) f0 f1 f3 f4 f5⟩
 self:=λ_ _ _ _ _ st h=>LN st h
end L2
set_option genInjectivity false




namespace L2
section
variable{X:Cx}{tg:JO}
def QDv(K:Qa)(tl:TE):TI:=λσ H R=>tl σ H λx H1=>∃a,x=.ref a/\(∃xs,aA K H1 a xs)/\R (Eh K a) H1
def QE0(K:Qa)(tl:TE):TI:=λσ H R=>tl σ H λx H1=>∃a,x=.ref a/\(∃xs,aP K H1 a xs)/\R (Eg K a) H1
def wD(hl:PE X l tl):PI X tg l (QDv X.K tl):=by
 intro XI s σ H R I h;refine ax (hl XI s σ H _ I h) λv s1 ⟨x,H1,I1,r1,q1⟩=>?_
 obtain⟨a,e,⟨xs,hq⟩,q⟩:=q1;subst e;cases r1;obtain⟨its,rv,p,hz⟩:=I1.list hq;refine C_ p.isList ?_
 refine⟨s1.heap.objs.size,[s1.heap.objs.size],_,_,H1,rfl,I1.kept λb o e=>Qe _ e,QmF a _,⟨_,Qo _ rfl,rfl,rfl⟩,λb hb=>?_,q⟩;have e:b=s1.heap.objs.size:=by simpa using hb
 subst e;exact I1.ib (Qf _)<|I1.au.fresh<|Qf _
def BX(hl:PE X l tl):PI X tg l (QE0 X.K tl):=by
 intro XI s σ H R I h;refine ax (hl XI s σ H _ I h) λv s1 ⟨x,H1,I1,r1,q1⟩=>?_
 obtain⟨a,e,⟨xs,hq⟩,q⟩:=q1;subst e;cases r1;obtain⟨its,rv,p,hz⟩:=I1.tuple hq;refine wpAny_pyIter_tuple (p) ?_
 refine⟨s1.heap.objs.size,[s1.heap.objs.size],_,_,H1,rfl,I1.kept λb o e=>Qe _ e,Qlv a _,⟨_,Qo _ rfl,rfl,rfl⟩,λb hb=>?_,q⟩;have e:b=s1.heap.objs.size:=by simpa using hb
 subst e;exact I1.ib (Qf _)<|I1.au.fresh<|Qf _
def Qrr{lo:Int}(I:Inv X XI σ H s)(h1 : -(2^62)<=lo)(h2:lo<2^62)(h3 : -(2^62)<=hi)(h4:hi<2^62)
  (q:R (uF lo (hi - lo).toNat) H):Xh (Xg X.prog X.w) X.A (pyIter<|.ref s.heap.objs.size) (PIE X XI σ tg R) E { s with heap:=s.heap.push { cls:=.type "range",data:=.fields #[.int lo t,.int hi u,.int 1 v] },toks:=tk }:=by
 refine wpAny_pyIter_range (IsRange.new ..) (small_one h1 h2 h3 h4) ?_
 have I1:Inv X XI σ H { s with heap:=s.heap.push { cls:=.type "range",data:=.fields #[.int lo t,.int hi u,.int 1 v] },toks:=tk }:=I.kept λb o e=>Qe _ e
 refine⟨(s.heap.push { cls:=.type "range",data:=.fields #[.int lo t,.int hi u,.int 1 v] }).objs.size,[(s.heap.push { cls:=.type "range",data:=.fields #[.int lo t,.int hi u,.int 1 v] }).objs.size],_,_,H,rfl,
  I1.kept λb o e=>Qe _ e,Qlw _ lo (hi - lo).toNat,?_,λb hb=>?_,q⟩
 ·have e1:lo+((0:Nat):Int)*1=lo:=by simp
  have e2:(((hi - lo).toNat:Nat):Int) - ((0:Nat):Int)=Zn lo hi 1:=by rw[Hx];split<;>omega
  rw[e1,e2];exact Qo _ rfl
 ·have e:b=(s.heap.push { cls:=.type "range",data:=.fields #[.int lo t,.int hi u,.int 1 v] }).objs.size:=by simpa using hb
  subst e;exact I1.ib (Qf _)<|I1.au.fresh<|Qf _
def QDu(ta:TA):TI:=λσ H R=>ta σ H λvs H1=>∃j:Int,vs=[.int j] /\ -(2^62)<=j/\j<2^62/\R (uF 0 j.toNat) H1
def uE(hg:Gl X "range")(hm:X.mg "range" = none)(ha:PA X [a] ta)(hs:Xi [a] X.env=[(false,eval a X.env)]:=by rfl):PI X tg (.Call (.Name "range" p) [a] [] pos) (QDu ta):=by
 intro XI s σ H R I h;refine Call_<|ph I hg hm boot_range<|J4 (ax (ha pos XI s σ H _ I h) λus s1 ⟨vs,H1,I1,r1,q1⟩=>?_) hs rfl;obtain⟨j,e,q1,q2,q⟩:=q1;subst e;cases r1 with
 |cons r rr=>
  cases rr;obtain⟨t,rfl⟩:=r;exact call_range_1 (Qrr I1 (by omega) (by omega) q1 q2<|by simpa using q)
def Eu(wi:TI)(g:TG)(tb:TS):TS:=λD σ H=>wi σ H λJ H1=>∃W:Nat->Nat->St->Hp->Prop,(∃m,W 0 m σ H1)/\∀i m σ H,W i m σ H ->
 (J.stop i H/\D.nx σ H)∨(J.go i H/\∃N:St->Hp->Prop,(∀σ' H',N σ' H'->∃m',m'<m/\W (i+1) m' σ' H')/\∀x H',J.nU i H x H'->g x σ H' λσ2 H2=>tb { D with nx:=N,ct:=N,bk:=D.nx } σ2 H2)
def BY(fp:List Xb)(h:Xl):List (Xb×Xp):=fp.filterMap λb=>(h.get? b).map λo=>(b,o)
def Z8(hb:b∈fp)(e:h.get? b=some o):(b,o)∈BY fp h:=LF.mpr ⟨b,hb,by rw[e];rfl⟩
def Qoa(hp:p∈BY fp h):p.1∈fp/\h.get? p.1=some p.2:=by
 obtain⟨b,hb,e⟩:=LF.mp hp;cases q:h.get? b with
 |none=>rw[q] at e;cases e
 |some o=>
  rw[q] at e;have e':=QF e;subst e';exact⟨hb,q⟩
def Inv.pinned(I:Inv X XI σ H s)(hf:∀b∈fp,aR X XI H b)(ho:∀b∈fp,∃o,s.heap.get? b=some o/\∀v,o.data≠.cell v):Inv X (XI++BY fp s.heap) σ H s:=
 I.jk λp hp=>(QV.mp hp).elim (λz=>I.pin p<|Qs _ z) λz=>by
  obtain⟨hb,e⟩:=Qoa z;obtain⟨f0,f1,f2,_⟩:=hf p.1 hb;obtain⟨o,e',d⟩:=ho p.1 hb;rw[e] at e';cases e';exact⟨e,f0,f1,f2,d⟩
def Inv.br(I:Inv X (XI++pl) σ H s):Inv X XI σ H s:=I.jk λp hp=>I.pin p<|Qs _<|JS _ hp
def BZ(hp:v8 (Xg X.prog X.w) X.A X.env X.xe)(hc:X.calm=true)(hi:PI X tg iter wi)(hg:PG X tg g)(hb:aV X body tb)
  (hs:∀x,Xo iter X.env x=pure x:=by intro _;rfl):PS X (.For tg iter body [] pos) (Eu wi g tb):=by
 intro XI s σ H D I h;refine wpAny_For (ax (hi XI s σ H _ I h) λv s1 h1=>ax h1 λk8 s2 h2=>?_) hs;obtain⟨it,fp,tn,J,H2,e,I2,T,eY,f2,W,⟨m0,w0⟩,turn⟩:=h2;subst e;have eW:∀{H':Hp},(∀b∈fp,H' b=none)->∀b∈fp,aR X XI H' b:=λhn b hb=>⟨hn b hb,(f2 b hb).2⟩
 refine codeAny_forLoop_any (λn s'=>∃i σ' H',Inv X XI σ' H' s'/\tn i s'.heap/\(∀b∈fp,H' b=none)/\W i n σ' H') ?_ m0 ⟨0,σ,H2,I2,eY,λb hb=>(f2 b hb).1,w0⟩
 rintro n s3 ⟨i,σ3,H3,I3,mH,qm,w3⟩;rcases turn i n σ3 H3 w3 with⟨stop,qn⟩ | ⟨go,N,hN,step⟩
 ·refine YM hp<|ax (T.done X rfl rfl rfl hc i XI s3 σ3 H3 X.xe I3 (eW qm) mH stop) λr s4 ⟨hr,I4⟩=>?_;subst hr;exact wU ⟨σ3,H3,I4,qn⟩
 ·refine YM hp<|ax (T.item X rfl rfl rfl hc i XI s3 σ3 H3 X.xe I3 (eW qm) mH go) λr s4 ⟨u,hr,h4⟩=>?_;subst hr;refine YM hp<|ax h4 λ_ s5 ⟨x,H5,I5,r5,y5,iE,yv⟩=>?_;have Ai:=I5.pinned (eW yv)<|T.obj _ _ iE;refine YM hp<|ax (hg _ s5 σ3 H5 x u _ Ai r5<|step x H5 y5) λ_ s6 ⟨σ6,H6,I6,q6⟩=>(YM hp<|ax (hb _ s6 σ6 H6 _ I6 q6) λf s7 q7=>?_);have again:∀{σ7:St}{H7:Hp},Inv X (XI++BY fp s5.heap) σ7 H7 s7->N σ7 H7->∃m,m<n/\∃i σ' H',Inv X XI σ' H' s7/\tn i s7.heap/\(∀b∈fp,H' b=none)/\W i m σ' H':=λ{σ7 H7} I7 n7=>by
   obtain⟨m',hm,w7⟩:=hN σ7 H7 n7;refine⟨m',hm,i+1,σ7,H7,I7.br,T.keep _ _ _ iE λb hb o e=>(I7.pin (b,o)<|Qs _<|Qs _<|Z8 hb e).1,λb hb=>?_,w7⟩;obtain⟨o,e,d⟩:=T.obj _ _ iE b hb;exact(I7.pin (b,o)<|Qs _<|Qs _<|Z8 hb e).2.1
  cases f with
  |next=>obtain⟨σ7,H7,I7,n7⟩:=q7;exact again I7 n7
  |cont=>obtain⟨σ7,H7,I7,n7⟩:=q7;exact again I7 n7
  |brk=>obtain⟨σ7,H7,I7,q7⟩:=q7;exact⟨σ7,H7,I7.br,q7⟩
  |ret v=>obtain⟨x7,σ7,H7,I7,r7,q7⟩:=q7;exact⟨x7,σ7,H7,I7.br,r7,q7⟩
end
def La{lo:Int}{g:TG}{tb:TS}{D:Ends}(Pv:Nat->St->Hp->Prop)(h0:Pv 0 σ H)
  (hs:∀i σ H,i<n->Pv i σ H->g (.int<|lo+i) σ H λσ2 H2=>tb { D with nx:=Pv<|i+1,ct:=Pv<|i+1,bk:=D.nx } σ2 H2)(hd:∀σ H,Pv n σ H->D.nx σ H) :
  ∃W:Nat->Nat->St->Hp->Prop,(∃m,W 0 m σ H)/\∀i m σ H,W i m σ H ->
   ((uF lo n).stop i H/\D.nx σ H)∨((uF lo n).go i H/\∃N:St->Hp->Prop,(∀σ' H',N σ' H'->∃m',m'<m/\W (i+1) m' σ' H')/\∀x H',(uF lo n).nU i H x H'->g x σ H' λσ2 H2=>tb { D with nx:=N,ct:=N,bk:=D.nx } σ2 H2):=by
 refine⟨λi m σ H=>m=n - i/\i<=n/\Pv i σ H,⟨n,by simp,Q6 _,h0⟩,?_⟩;rintro i m σ H ⟨rfl,hi,p⟩;by_cases df:i<n
 ·refine .inr ⟨df,Pv<|i+1,λσ' H' p'=>⟨n - (i+1),by omega,rfl,df,p'⟩,λx H' y=>?_⟩;obtain⟨e,y⟩:=y;subst e y;exact hs i σ _ df p
 ·have e:i=n:=by omega
  subst e;exact .inl ⟨Qf _,hd σ H p⟩
abbrev R2:=V->V->Hp->VK->Prop
def aK(X:Cx)(f:Xc->Xc->Sem Xc)(r:R2):Prop:=
 ∀(XI:List (Xb×Xp))(s:Xe)(σ:St)(H:Hp)(x y:V)(v u:Xc)(Q:VK),Inv X XI σ H s->RelV x v->RelV y u->r x y H Q ->
  Xh (Xg X.prog X.w) X.A (f v u) (EP X XI σ Q) X.xe s
def GG(X:Cx)(f:Xc->Sem Xc)(r:V->Hp->VK->Prop):Prop:=
 ∀(XI:List (Xb×Xp))(s:Xe)(σ:St)(H:Hp)(x:V)(v:Xc)(Q:VK),Inv X XI σ H s->RelV x v->r x H Q ->
  Xh (Xg X.prog X.w) X.A (f v) (EP X XI σ Q) X.xe s
def aF(X:Cx)(f:Xc)(r:List V->Hp->VK->Prop):Prop:=
 ∀(XI:List (Xb×Xp))(s:Xe)(σ:St)(H:Hp)(xs:List V)(us:List Xc)(Q:VK),Inv X XI σ H s->ah xs us->r xs H Q ->
  Xh (Xg X.prog X.w) X.A (call f us) (EP X XI σ Q) X.xe s
def QE6(X:Cx)(r:V->Hp->(Bool->Hp->Prop)->Prop):Prop:=
 ∀(XI:List (Xb×Xp))(s:Xe)(σ:St)(H:Hp)(x:V)(v:Xc)(Q:Bool->Hp->Prop),Inv X XI σ H s->RelV x v->r x H Q ->
  Xh (Xg X.prog X.w) X.A (XD v) (TP X XI σ Q) X.xe s
def ji(r:R2)(ta tb:TE):TE:=λσ H Q=>ta σ H λx H1=>tb σ H1 λy H2=>r x y H2 Q
def tUn(r:V->Hp->VK->Prop)(ta:TE):TE:=λσ H Q=>ta σ H λx H1=>r x H1 Q
def rI(C:Int->Int->Prop)(g:Int->Int->V):R2:=λx y H Q=>∃i j,x=.int i/\y=.int j/\C i j/\Q (g i j) H
def gq(g:Int->Int->V):R2:=λx y H Q=>∃i j,x=.int i/\y=.int j/\Q (g i j) H
def rU(g:Int->V):V->Hp->VK->Prop:=λx H Q=>∃i,x=.int i/\Q (g i) H
section
variable{X:Cx}{a b c:JO}{ta tb tc:TE}{pos:Pos}
def Ms(ha:PE X a ta)(hb:PE X b tb){R:V->V->Hp->Prop}(I:Inv X XI σ H s)
  (h:ta σ H λx H1=>tb σ H1 λy H2=>R x y H2){f:Xc->Xc->Sem Xc}
  (hf:∀v u s2 x y H2,Inv X XI σ H2 s2->RelV x v->RelV y u->R x y H2->Xh (Xg X.prog X.w) X.A (f v u) Q X.xe s2) :
  Xh (Xg X.prog X.w) X.A (eval a X.env) (λv s₁=>Xh (Xg X.prog X.w) X.A (eval b X.env) (λu s₂=>Xh (Xg X.prog X.w) X.A (f v u) Q X.xe s₂) X.xe s₁) X.xe s:=by
 refine ax (ha XI s σ H _ I h) λv s1 ⟨x,H1,I1,r1,q1⟩=>(ax (hb XI s1 σ H1 _ I1 q1) λu s2 ⟨y,H2,I2,r2,q2⟩=>?_)
 exact hf v u s2 x y H2 I2 r1 r2 q2
def YQ(ho:aK X (Xr op) r)(ha:PE X a ta)(hb:PE X b tb):PE X (.BinOp a op b pos) (ji r ta tb):=by
 intro XI s σ H Q I h;exact wpAny_BinOp<|Ms ha hb I h λv u s2 x y H2 I2 rx ry q=>ho XI s2 σ H2 x y v u Q I2 rx ry q
def Hf(ho:GG X (unaryOp op) r)(ha:PE X a ta):PE X (.UnaryOp op a pos) (tUn r ta):=by
 intro XI s σ H Q I h;exact UnaryOp_<|ax (ha XI s σ H _ I h) λv s1 ⟨x,H1,I1,r1,q1⟩=>ho XI s1 σ H1 x v Q I1 r1 q1
def vb{g:Int->Int->Int}
  (rule:∀(i j:Int)(t u:Tok)(s:Xe)(Q:Xc->Xe->Prop)(E:Xc->Xe->Prop),C i j->Q (.int (g i j) s.toks) { s with toks:=s.toks+1 }->Xh (Xg X.prog X.w) X.A (f (.int i t)<|.int j u) Q E s) :
  aK X f (rI C λi j=>.int<|g i j):=by
 intro XI s σ H x y v u Q I rx ry h;obtain⟨i,j,rfl,rfl,hc,q⟩:=h;obtain⟨t,rfl⟩:=rx;obtain⟨t',rfl⟩:=ry;exact rule i j t t' s _ _ hc ⟨.int<|g i j,H,I.tok _,⟨_,rfl⟩,q⟩
def DY{g:Int->Int->Int}
  (rule:∀(i j:Int)(t u:Tok)(s:Xe)(Q:Xc->Xe->Prop)(E:Xc->Xe->Prop),Q (.int (g i j) s.toks) { s with toks:=s.toks+1 }->Xh (Xg X.prog X.w) X.A (f (.int i t)<|.int j u) Q E s) :
  aK X f (gq λi j=>.int<|g i j):=by
 intro XI s σ H x y v u Q I rx ry h;obtain⟨i,j,rfl,rfl,q⟩:=h;obtain⟨t,rfl⟩:=rx;obtain⟨t',rfl⟩:=ry;exact rule i j t t' s _ _ ⟨.int<|g i j,H,I.tok _,⟨_,rfl⟩,q⟩
def DX{g:Int->Int->Bool}
  (rule:∀(i j:Int)(t u:Tok)(s:Xe)(Q:Xc->Xe->Prop)(E:Xc->Xe->Prop),Q (.bool<|g i j) s->Xh (Xg X.prog X.w) X.A (f (.int i t)<|.int j u) Q E s) :
  aK X f (gq λi j=>.bl<|g i j):=by
 intro XI s σ H x y v u Q I rx ry h;obtain⟨i,j,rfl,rfl,q⟩:=h;obtain⟨t,rfl⟩:=rx;obtain⟨t',rfl⟩:=ry;exact rule i j t t' s _ _ ⟨.bl<|g i j,H,I,rfl,q⟩
def QEy(i j:Int):Prop:=0<=j/\j<=1000000/\i.natAbs<2^64
def mG(i j:Int):Prop:=(-(2^64)<i/\i<2^64)∨(-(2^64)<j/\j<2^64)
def mG.ok(h:mG i j):IntMulOk i j:=by
 rcases h with⟨h1,h2⟩ | ⟨h1,h2⟩
 ·exact .of_left<|intBits_le_64 h1 h2
 ·exact .of_right<|intBits_le_64 h1 h2
def tU:aK X (Xr .Add) (gq λi j=>.int<|i+j):=DY λ_ _ _ _ _ _ _ q=>add_int q
def tY:aK X (Xr .Sub) (gq λi j=>.int<|i - j):=DY λ_ _ _ _ _ _ _ q=>sub_int q
def vT:aK X (Xr .Mult) (rI mG λi j=>.int<|i*j):=vb λ_ _ _ _ _ _ _ hc q=>mul_int q hc.ok
def yX:aK X (Xr .Mod) (rI (λ_ j=>0<j) λi j=>.int<|i % j):=vb λi j _ _ _ _ _ hc q=>by
 have h1:=hc;exact mod_int' (by omega) (by rw[Int.fmod_eq_emod_of_nonneg i<|by omega];exact q)
def HM:aK X (Xr .Pow) (rI QEy λi j=>.int (i^j.toNat)):=vb λ_ _ _ _ _ _ _ hc q=>pow_int_small hc.1 hc.2.1 hc.2.2 q
def BU:aK X (Xr .LShift) (rI QEy λi j=>.int<|i*2^j.toNat):=vb λ_ _ _ _ _ _ _ hc q=>lshift_int_small hc.1 hc.2.1 hc.2.2 q
def Qz9:aK X (Xr .BitAnd) (gq λi j=>.int<|CL i j):=DY λ_ _ _ _ _ _ _ q=>and_int q
def QDa:aK X (Xr .BitOr) (gq λi j=>.int<|Kv i j):=DY λ_ _ _ _ _ _ _ q=>or_int q
def unI{g:Int->Int}
  (rule:∀(i:Int)(t:Tok)(s:Xe)(Q:Xc->Xe->Prop)(E:Xc->Xe->Prop),Q (.int (g i) s.toks) { s with toks:=s.toks+1 }->Xh (Xg X.prog X.w) X.A (f<|.int i t) Q E s) :
  GG X f (rU λi=>.int<|g i):=by
 intro XI s σ H x v Q I rx h;obtain⟨i,rfl,q⟩:=h;obtain⟨t,rfl⟩:=rx;exact rule i t s _ _ ⟨.int<|g i,H,I.tok _,⟨_,rfl⟩,q⟩
def H_:GG X (unaryOp .USub) (rU λi=>.int<|-i):=unI λ_ _ _ _ _ q=>neg_int q
def QD3:V->V->Bool
 |.aL,.aL=>true | .aL,.int _=>true | .int _,.aL=>true | .aL,.bl _=>true | .bl _,.aL=>true | .aL,.str _=>true | .str _,.aL=>true
 |.int _,.int _=>true | .bl _,.bl _=>true | .str _,.str _=>true | .jy _,.jy _=>true
 |.int _,.str _=>true | .str _,.int _=>true | .bl _,.str _=>true | .str _,.bl _=>true
 |_,_=>false
def EG:R2:=λx y H Q=>QD3 x y=true/\Q (.bl<|decide (x=y)) H
def Nn:R2:=λx y H Q=>QD3 x y=true/\Q (.bl<|!decide (x=y)) H
def TV:decide (V.int i=V.int j)=(i == j):=by
 rw[JX];simp
def Rq:decide (V.bl i=V.bl j)=(i == j):=by
 rw[JX];simp
def TY:decide (V.str i=V.str j)=(i == j):=by
 rw[JX];simp
def TU:decide (V.jy i=V.jy j)=(i.toList == j.toList):=by
 rw[JX];cases i;cases j;simp
def ZI(I:Inv X XI σ H s)(q:Q (.bl k) H)(e:k=k'):EP X XI σ Q (.bool k') s:=by
 subst e;exact⟨.bl k,H,I,rfl,q⟩
def iI:aK X (Xm .Eq) EG:=by
 intro XI s σ H x y v u Q I rx ry h;obtain⟨hs,q⟩:=h;cases x with
 |aL=>
  cases rx;cases y with
  |aL=>cases ry;exact PySem.EqNone.eq_none_none (ZI I q<|by simp)
  |bl j=>cases ry;exact PySem.EqNone.eq_none_bool (ZI I q<|by simp)
  |int j=>obtain⟨t',rfl⟩:=ry;exact PySem.EqNone.eq_none_int (ZI I q<|by simp)
  |str j=>obtain⟨t',rfl⟩:=ry;exact PySem.EqNone.eq_none_str (ZI I q<|by simp)
  |_=>exact X5 (hs) Qx
 |bl i=>
  cases rx;cases y with
  |aL=>cases ry;exact PySem.EqNone.eq_bool_none (ZI I q<|by simp)
  |bl j=>cases ry;exact eq_bool<|ZI I q Rq
  |str j=>obtain⟨t',rfl⟩:=ry;exact QCl (ZI I q<|by simp)
  |_=>exact X5 (hs) Qx
 |int i=>
  obtain⟨t,rfl⟩:=rx;cases y with
  |aL=>cases ry;exact PySem.EqNone.eq_int_none (ZI I q<|by simp)
  |int j=>obtain⟨t',rfl⟩:=ry;exact eq_int<|ZI I q TV
  |str j=>obtain⟨t',rfl⟩:=ry;exact QCk (ZI I q<|by simp)
  |_=>exact X5 (hs) Qx
 |str i=>
  obtain⟨t,rfl⟩:=rx;cases y with
  |aL=>cases ry;exact PySem.EqNone.eq_str_none (ZI I q<|by simp)
  |bl j=>cases ry;exact QCj (ZI I q<|by simp)
  |int j=>obtain⟨t',rfl⟩:=ry;exact QCi (ZI I q<|by simp)
  |str j=>obtain⟨t',rfl⟩:=ry;exact eq_str<|ZI I q TY
  |_=>exact X5 (hs) Qx
 |jy i=>
  obtain⟨t,rfl⟩:=rx;cases y with
  |jy j=>obtain⟨t',rfl⟩:=ry;exact PySem.W.eq_bytes<|ZI I q TU
  |_=>exact X5 (hs) Qx
 |_=>cases y<;>exact X5 (hs) Qx
def qQ:aK X (Xm .NotEq) Nn:=by
 intro XI s σ H x y v u Q I rx ry h;obtain⟨hs,q⟩:=h;cases x with
 |aL=>
  cases rx;cases y with
  |aL=>cases ry;exact PySem.EqNone.ne_none_none (ZI I q<|by simp)
  |bl j=>cases ry;exact PySem.EqNone.ne_none_bool (ZI I q<|by simp)
  |int j=>obtain⟨t',rfl⟩:=ry;exact PySem.EqNone.ne_none_int (ZI I q<|by simp)
  |str j=>obtain⟨t',rfl⟩:=ry;exact PySem.EqNone.ne_none_str (ZI I q<|by simp)
  |_=>exact X5 (hs) Qx
 |bl i=>
  cases rx;cases y with
  |aL=>cases ry;exact PySem.EqNone.ne_bool_none (ZI I q<|by simp)
  |bl j=>cases ry;exact ne_bool<|ZI I q<|X6 not Rq
  |str j=>obtain⟨t',rfl⟩:=ry;exact QCh (ZI I q<|by simp)
  |_=>exact X5 (hs) Qx
 |int i=>
  obtain⟨t,rfl⟩:=rx;cases y with
  |aL=>cases ry;exact PySem.EqNone.ne_int_none (ZI I q<|by simp)
  |int j=>obtain⟨t',rfl⟩:=ry;exact ne_int<|ZI I q<|X6 not TV
  |str j=>obtain⟨t',rfl⟩:=ry;exact QCg (ZI I q<|by simp)
  |_=>exact X5 (hs) Qx
 |str i=>
  obtain⟨t,rfl⟩:=rx;cases y with
  |aL=>cases ry;exact PySem.EqNone.ne_str_none (ZI I q<|by simp)
  |bl j=>cases ry;exact QCf (ZI I q<|by simp)
  |int j=>obtain⟨t',rfl⟩:=ry;exact QCe (ZI I q<|by simp)
  |str j=>obtain⟨t',rfl⟩:=ry;exact ne_str<|ZI I q<|X6 not TY
  |_=>exact X5 (hs) Qx
 |jy i=>
  obtain⟨t,rfl⟩:=rx;cases y with
  |jy j=>obtain⟨t',rfl⟩:=ry;exact PySem.W.ne_bytes<|ZI I q<|X6 not TU
  |_=>exact X5 (hs) Qx
 |_=>cases y<;>exact X5 (hs) Qx
def yR:aK X (Xm .Lt) (gq λi j=>.bl<|decide (i<j)):=DX λ_ _ _ _ _ _ _ q=>lt_int q
def OZ:aK X (Xm .LtE) (gq λi j=>.bl<|decide (i<=j)):=DX λ_ _ _ _ _ _ _ q=>le_int q
def yQ:aK X (Xm .Gt) (gq λi j=>.bl<|decide (j<i)):=DX λ_ _ _ _ _ _ _ q=>gt_int q
def G8:aK X (Xm .GtE) (gq λi j=>.bl<|decide (j<=i)):=DX λ_ _ _ _ _ _ _ q=>ge_int q
def aK.or(h:aK X f r)(h':aK X f r'):aK X f (λx y H Q=>r x y H Q∨r' x y H Q):=by
 intro XI s σ H x y v u Q I rx ry q;rcases q with q | q
 ·exact h XI s σ H x y v u Q I rx ry q
 ·exact h' XI s σ H x y v u Q I rx ry q
def JE(b:JO){op:CmpOp}(h:op≠.In:=by decide)(h2:op≠.NotIn:=by decide):behindInMarks op b=false:=by
 have e1:(op == CmpOp.In)=false:=by cases op<;>first | rfl | exact X5 rfl h
 have e2:(op == CmpOp.NotIn)=false:=by cases op<;>first | rfl | exact X5 rfl h2
 cases b<;>simp[behindInMarks,e1,e2]
def pA(ho:aK X (Xm op) r)(ha:PE X a ta)(hb:PE X b tb)(hm:behindInMarks op b=false):PE X (.Compare a [op] [b] pos) (ji r ta tb):=by
 intro XI s σ H Q I h;exact wpAny_Compare1 (Ms ha hb I h λv u s2 x y H2 I2 rx ry q=>ho XI s2 σ H2 x y v u Q I2 rx ry q) hm
def Hc(t:TE):TT:=λσ H Q=>t σ H λx H'=>∃k,x=.bl k/\Q k H'
def JK(ho:aK X (Xm op) r)(ha:PE X a ta)(hb:PE X b tb)(hm:behindInMarks op b=false):PT X (.Compare a [op] [b] pos) (Hc<|ji r ta tb):=by
 intro XI s σ H Q I h;refine P9 (ax (ha XI s σ H _ I h) λv s1 ⟨x,H1,I1,r1,q1⟩=>ax (hb XI s1 σ H1 _ I1 q1) λu s2 ⟨y,H2,I2,r2,q2⟩=>
  ax (ho XI s2 σ H2 x y v u _ I2 r1 r2 q2) λc s3 ⟨z,H3,I3,r3,k,e,q3⟩=>?_) hm
 subst e;cases r3;exact JT ⟨H3,I3,q3⟩
def SJ(r r':R2)(ta tb tc:TE):TE:=λσ H Q=>ta σ H λx H1=>tb σ H1 λy H2=>r x y H2 λz H3=>∃k,z=.bl k /\
 (if k=true then tc σ H3 λw' H4=>r' y w' H4 Q else Q (.bl false) H3)
def QrB(ho:aK X (Xm op) r)(gO:aK X (Xm p7) r')(ha:PE X a ta)(hb:PE X b tb)(hc:PE X c tc)
  (hm:lastMarks [op,p7] [b,c]=false:=by with_unfolding_all rfl):PE X (.Compare a [op,p7] [b,c] pos) (SJ r r' ta tb tc):=by
 intro XI s σ H Q I h;refine Compare_chain (ax (ha XI s σ H _ I h) λv s1 ⟨x,H1,I1,r1,q1⟩=>chain_link<|ax (hb XI s1 σ H1 _ I1 q1) λu s2 ⟨y,H2,I2,r2,q2⟩=>
  ax (ho XI s2 σ H2 x y v u _ I2 r1 r2 q2) λd s3 ⟨z,H3,I3,r3,k,e,q3⟩=>?_) hm
 subst e;cases r3;refine JT ?_
 cases k with
 |false=>exact ite_ff ⟨.bl false,H3,I3,rfl,q3⟩
 |true=>exact ite_tt<|chain_last<|ax (hc XI s3 σ H3 _ I3 q3) λw' s4 ⟨z',H4,I4,r4,q4⟩=>gO XI s4 σ H4 y z' u w' Q I4 r2 r4 q4
def Mr(K:Qa)(x:V)(H:Hp)(k:Bool):Prop:=
 match x with
 |.aL=>k=false
 |.bl b=>k=b
 |.int i=>k=(i != 0)
 |.str y=>y.length<=Xj/\k=((y.length:Int) != 0)
 |.jy y=>y.size<=Xj/\k=((y.size:Int) != 0)
 |.ref p=>(∃xs,aA K H p xs/\k = !xs.isEmpty)∨(∃xs,aP K H p xs/\k = !xs.isEmpty)∨∃kvs,H p=some (.dK kvs)/\k = !kvs.isEmpty
 |_=>False
def QlW(r:KV kvs vs):(!vs.isEmpty) = !kvs.isEmpty:=by
 cases r<;>rfl
def XW(r:ah xs its):(!its.toArray.isEmpty) = !xs.isEmpty:=by
 cases r<;>simp
def vP:(Xj:Nat)<2^63:=by rw[ZE];decide
def QyJ:QE6 X (λx H Q=>∃k,Mr X.K x H k/\Q k H):=by
 intro XI s σ H x v Q I rx h;obtain⟨k,e,q⟩:=h;have hs:=ZE;cases x with
 |aL=>
  cases rx;have e':=e;subst e';exact truthy_none ⟨H,I,q⟩
 |bl b=>
  cases rx;have e':=e;subst e';exact JT ⟨H,I,q⟩
 |int i=>
  obtain⟨t,rfl⟩:=rx;have e':=e;subst e';exact PySem.P.truthy_int ⟨H,I,q⟩
 |str y=>
  obtain⟨t,rfl⟩:=rx;obtain⟨hy,e'⟩:y.length<=Xj/\k=((y.length:Int) != 0):=e;subst e';exact PySem.P.truthy_str (by omega) ⟨H,I.tok _,q⟩
 |jy y=>
  obtain⟨t,rfl⟩:=rx;obtain⟨hy,e'⟩:y.size<=Xj/\k=((y.size:Int) != 0):=e;subst e';exact PySem.W.truthy_bytes (by omega) ⟨H,I.tok _,q⟩
 |ref p=>
  cases rx;have e':=e;rcases e' with⟨xs,hx,e'⟩ | ⟨xs,hx,e'⟩ | ⟨kvs,hx,e'⟩
  ·subst e';obtain⟨its,r,pl,hz⟩:=I.list hx;have hlen:=r.length;exact wpAny_truthy_list pl.isList (by simp only[Qk];omega) ⟨H,I.tok _,by rw[XW r];exact q⟩
  ·subst e';obtain⟨its,r,pl,hz⟩:=I.tuple hx;have hlen:=r.length;exact truthy_tuple pl (by simp only[Qk];omega) ⟨H,I.tok _,by rw[XW r];exact q⟩
  ·subst e';obtain⟨hz,hS,vs,r,m⟩:kvs.length<=Xj/\(p == Xv)=false/\∃vs,KV kvs vs/\s.heap.DictOf (aE X.prog X.w) p vs:=I.au p _ hx
   have hlen:=J_ r;exact wpAny_truthy_dict hS m (by omega) ⟨H,I.tok _,by rw[QlW r];exact q⟩
 |_=>exact(e).elim
def CA(ha:PE X a ta)(he:∀whole,isTrue a X.env whole=(do let v <- whole;Xu a.pos;Xt [v]<|XD v)) :
  PT X a (λσ H Q=>ta σ H λx H'=>∃k,Mr X.K x H' k/\Q k H'):=by
 intro XI s σ H Q I h;exact isTrue_plain (ax (ha XI s σ H _ I h) λv s1 ⟨x,H1,I1,r1,q1⟩=>QyJ XI s1 σ H1 x v Q I1 r1 q1)<|he _
def QlJ:aK X (Xr .Add) (λx y H Q=>∃i j,x=.str i/\y=.str j/\i.length+j.length<=Xj/\Q (.str<|i++j) H):=by
 intro XI s σ H x y v u Q I rx ry h;obtain⟨i,j,rfl,rfl,hz,q⟩:=h;obtain⟨t,rfl⟩:=rx;obtain⟨t',rfl⟩:=ry;exact add_str (λt' tk=>⟨.str<|i++j,H,I.tok _,⟨_,rfl⟩,q⟩) hz
def vals1(r:ah [x] us):∃u,us=[u]/\RelV x u:=by
 cases r with
 |cons r1 r2=>cases r2;exact⟨_,rfl,r1⟩
def vals2(r:ah [x,y] us):∃u w',us=[u,w']/\RelV x u/\RelV y w':=by
 cases r with
 |cons r1 r2=>
  cases r2 with
  |cons r3 r4=>cases r4;exact⟨_,_,rfl,r1,r3⟩
def Qo5(hc:X.calm=true):aF X (.builtin "max") (λxs H Q=>∃i j,xs=[.int i,.int j]/\Q (.int<|if j > i then j else i) H):=by
 intro XI s σ H xs us Q I r h;obtain⟨i,j,rfl,q⟩:=h;obtain⟨u,w',rfl,⟨t,rfl⟩,⟨t',rfl⟩⟩:=vals2 r;refine max_two_ints (I.ok.hd hc) λh' tk k=>⟨_,H,I.kept k,?_,q⟩
 by_cases hj:j > i
 ·rw[XZ hj,XZ hj];exact⟨_,rfl⟩
 ·rw[XY hj,XY hj];exact⟨_,rfl⟩
def WE(hc:X.calm=true):aF X (.builtin "min") (λxs H Q=>∃i j,xs=[.int i,.int j]/\Q (.int<|if j<i then j else i) H):=by
 intro XI s σ H xs us Q I r h;obtain⟨i,j,rfl,q⟩:=h;obtain⟨u,w',rfl,⟨t,rfl⟩,⟨t',rfl⟩⟩:=vals2 r;refine min_two_ints (I.ok.hd hc) λh' tk k=>⟨_,H,I.kept k,?_,q⟩
 by_cases hj:j<i
 ·rw[XZ hj,XZ hj];exact⟨_,rfl⟩
 ·rw[XY hj,XY hj];exact⟨_,rfl⟩
def Qo6:aF X (.type "int") (λxs H Q=>(∃i,xs=[.int i]/\Q (.int i) H)∨∃k,xs=[.bl k]/\Q (.int<|if k then 1 else 0) H):=by
 intro XI s σ H xs us Q I r h;rcases h with⟨i,rfl,q⟩ | ⟨k,rfl,q⟩
 ·obtain⟨u,rfl,t,rfl⟩:=vals1 r;exact call_int_int ⟨.int i,H,I,⟨_,rfl⟩,q⟩
 ·obtain⟨u,rfl,r1⟩:=vals1 r;cases r1;exact call_int_bool ⟨.int<|if k then 1 else 0,H,I.tok _,⟨_,rfl⟩,q⟩
def Zw:aF X (.type "str") (λxs H Q=>∃i,xs=[.int i]/\i.natAbs.log2<1920/\Q (.str<|toString i) H):=by
 intro XI s σ H xs us Q I r h;obtain⟨i,rfl,hz,q⟩:=h;obtain⟨u,rfl,t,rfl⟩:=vals1 r;exact PySem.P.str_of_int hz ⟨.str _,H,I.tok _,⟨_,rfl⟩,q⟩
end
structure jc (h:Xl) (x dx C:Xb) (mA:Str->Option Xc):Prop where
 obj:h.get? x=some (ZV C dx)
 ns:h.Ns1 dx mA
 ne:dx≠x
def Qog{h:Xl}(n:h.Ns1 dx mA):∃od,h.get? dx=some od/\∀name,CV name od=some (mA name):=by
 obtain⟨o,es,ep,ho,hd,hk,_,hm⟩:=n;refine⟨o,ho,λname=>?_⟩;have e:=hm name;unfold nsFind findBy at e;rw[<- Array.find?_toList] at e;unfold CV;rw[hd]
 dsimp only
 split
 ·rename_i y q
  rw[q] at e;exact X6 some e
 ·rename_i q
  rw[q] at e;have a:es.toList.any (·.refKey)=false:=by
   rw[List.any_eq_false];intro y hy;obtain⟨z,t,h_⟩:=hk y<|UI.mp hy;simp[DictEntry.refKey,h_]
  have a':¬es.toList.any (·.refKey)=true:=by rw[a];exact Qx
  rw[XY a'];exact X6 some e
def jc.look(I:jc h x dx C mA):∃od,PySem.W.InstAt h x (ZV C dx) C (some od)/\∀name,CV name od=some (mA name):=
 let ⟨od,ho,hl⟩:=Qog I.ns
 ⟨od,⟨I.obj,rfl,rfl,ho⟩,hl⟩
section
variable{prog:QB}{w:Jf}{A:JF}{E:Xc->Xe->Prop}{s:Xe}{K:Qa}{x dx C f:Xb}{mA:Str->Option Xc}{name:Str}{v:Xc}
def Qxx(X:K.In s.heap)(I:jc s.heap x dx C mA)(hg:z5 K C name=true)(hh:Dp K C=true)
  (ha:Jr K (.ref C) name=some none)(hv:mA name=some v)(hv':SX v=true)(h:Q v { s with toks:=s.toks+1 }) :
  Xh (Xg prog w) A (getAttr (.ref x) name expr) Q E s:=by
 obtain⟨od,J,hl⟩:=I.look;exact PySem.W.get_value X J (LK hg).1 (PySem.W.findObj_own hh ha rfl<|by rw[hl,hv]) hv' h
def QsK(X:K.In s.heap)(I:jc s.heap x dx C mA)(hg:z5 K C name=true)
  (hf:Jr K (.ref C) name=some (some<|.ref f))(ht:Cr K (.ref f)=true)(hv:mA name=none)(h:Q (.ref f,[.ref x]) s) :
  Xh (Xg prog w) A (XB (.ref x) name pl) Q E s:=by
 obtain⟨od,J,hl⟩:=I.look;exact PySem.W.method_fn X J (LK hg).1 (LK hg).2 hf (beq_iff_eq.mp ht) (by show(CV name od).map (·.isSome)=some false;rw[hl,hv];rfl) h
def Qvz(X:K.In s.heap)(I:jc s.heap x dx C mA)
  (hs:Jr K (.ref C) "__setattr__" = some (some<|.builtin "object.__setattr__"))(hp:Lu K C=true)(ht:Lj K C name=some none)(hh:Dp K C=true)
  (hw:Ij mA ns)(vi:ns.length<=Xj)
  (h:∀h',jc h' x dx C (λy=>if y=name then some v else mA y)->Yy dx s.heap h'->Q () { s with heap:=h',toks:=s.toks+2 }) :
  Xh (Xg prog w) A (setAttr (.ref x) name v) Q E s:=by
 obtain⟨od,J,hl⟩:=I.look;refine PySem.W.set_plain X J hs<|PySem.W.osa_open X J hp ht λb=>?_;obtain⟨cd,hc,fA⟩:=PySem.W.any_some hh;have hx:=I.obj;refine Xa<|wpAny_pure<|Xa<|Xa<|HU hx<|Xa<|QCd (PySem.W.looks_clsIn X hc) ?_;rw[fA];refine wpAny_pure<|Xa<|wpAny_pure<|Xa ?_;refine wpAny_nsSet1 I.ns λh' iV vj=>?_
 obtain⟨oD,esD,epD,hoD,hdD,hcD⟩:=iV.count<|PySem.Within.cons name v hw;refine Xa (wpAny_lookBehind hoD (by rw[hdD];exact pastItsLine_dict<|QQ hcD (by rw[Qw];omega)) ?_);exact wpAny_pure<|h _ ⟨(vj.2 _<|ir I.ne).trans I.obj,iV,I.ne⟩ vj
def Qsx(X:K.In s.heap)(hm:Li K C=true)
  (hi:Jr K (.ref C) "__init__" = some (some<|.ref f))(hf:KY K (.ref f)=some (.type "function"))
  (h:Xs (Xg prog w) (A.under<|.builtin "type.__call__" ⟨.ref C::vs,kw⟩) (.call (.ref f) ⟨.ref (s.heap.objs.size+1)::vs,kw⟩) (PySem.W.InitBack (s.heap.objs.size+1) R)
   { s with heap:=(s.heap.push ZA).push (ZV C s.heap.objs.size) }) :
  Xs (Xg prog w) A (.call (.ref C) ⟨vs,kw⟩) R s:=by
 exact PySem.W.make_core (PySem.W.makes_of X hm) (PySem.W.looks_findIn X hi) (λself=>PySem.W.bind_fn X self hf) (.inl rfl) h
end
def dD(f:Str)(v:V):List (Str×V)->List (Str×V)
 |[]=>[(f,v)]
 |(g,x)::r=>if g=f then(g,v)::r else(g,x)::dD f v r
def Z2(f g:Str)(v:V):∀fs:List (Str×V),(dD f v fs).lookup g=if g=f then some v else fs.lookup g
 |[]=>by
  show Yd g [(f,v)]=_;by_cases h:g=f
  ·have hb:=beq_iff_eq.mpr h;simp only[Yd,hb,XZ h]
  ·have hb:=beq_eq_false_iff_ne.mpr h;simp only[Yd,hb,XY h]
 |(k,x)::r=>by
  have ih:=Z2 f g v r;rw[show dD f v ((k,x)::r)=(if k=f then(k,v)::r else(k,x)::dD f v r) from rfl];by_cases hk:k=f
  ·rw[XZ hk];by_cases h:g=k
   ·have hb:=beq_iff_eq.mpr h;simp only[Yd,hb,XZ<|h.trans hk]
   ·have hb:=beq_eq_false_iff_ne.mpr h;simp only[Yd,hb,XY λe:g=f=>h<|e.trans hk.symm]
  ·rw[XY hk];by_cases h:g=k
   ·have hb:=beq_iff_eq.mpr h;simp only[Yd,hb,XY λe:g=f=>hk<|h.symm.trans e]
   ·have hb:=beq_eq_false_iff_ne.mpr h;simp only[Yd,hb];exact ih
def Lb(f:Str)(v:V):∀fs:List (Str×V),f∈(dD f v fs).map (·.1)/\∀g,g∈fs.map (·.1)->g∈(dD f v fs).map (·.1)
 |[]=>⟨by simp[dD],λg h=>by simp at h⟩
 |(k,x)::r=>by
  obtain⟨i1,i2⟩:=Lb f v r;rw[show dD f v ((k,x)::r)=(if k=f then(k,v)::r else(k,x)::dD f v r) from rfl];by_cases hk:k=f
  ·rw[XZ hk];subst hk;exact⟨by simp,λg h=>by simpa using h⟩
  ·rw[XY hk];refine⟨?_,λg h=>?_⟩
   ·rw[Yc];exact QN _ i1
   ·rw[Yc] at h ⊢;rcases Qv.mp h with e | e
    ·exact Qv.mpr<|.inl e
    ·exact QN _<|i2 g e
def Qfl(f:Str)(v:V):∀fs:List (Str×V),(dD f v fs).length<=fs.length+1
 |[]=>by simp[dD]
 |(k,x)::r=>by
  have ih:=Qfl f v r;rw[show dD f v ((k,x)::r)=(if k=f then(k,v)::r else(k,x)::dD f v r) from rfl];by_cases hk:k=f
  ·rw[XZ hk,Qw,Qw];omega
  ·rw[XY hk,Qw,Qw];omega
def cY.some_of(r:cY (some v) o):∃u,o=some u/\RelV v u:=by
 cases o with
 |none=>exact(r).elim
 |some u=>exact⟨u,rfl,r⟩
def cY.none_of(r:cY none o):o=none:=by
 cases o with
 |none=>rfl
 |some u=>exact(r).elim
def Qow(r:RelV v u):SX u=true:=by
 cases v with
 |aL=>cases(r);rfl
 |bl b=>cases(r);rfl
 |int i=>obtain⟨t,e⟩:=(r);cases e;rfl
 |str x=>obtain⟨t,e⟩:=(r);cases e;rfl
 |jy b=>obtain⟨t,e⟩:=(r);cases e;rfl
 |sH b=>obtain⟨t,e⟩:=(r);cases e;rfl
 |ref a=>cases(r);rfl
 |ty n=>cases(r);rfl
section
variable{P:QB}{w:Jf}{H H':Hp}{h h':Xl}{a C dx:Xb}{fs fs':List (Str×V)}
def Cd(au:cz P w H h)(e:H a=some (.ins C dx fs)):∃mA,jc h a dx C mA/\(∀f,cY (fs.lookup f)<|mA f)/\Ij mA (fs.map (·.1))/\fs.length<=1000/\H dx=some (.own a):=by
 obtain⟨d,z,ne,ob,mA,n,r,q⟩:=(au a _ e);exact⟨mA,⟨ob,n,ne⟩,r,q,z,d⟩
end
structure iM (K:Qa) (C:Xb):Prop where
 pg:z5 K C Yl=true
 hd:Dp K C=true
 po:Lu K C=true
 sa:Jr K (.ref C) "__setattr__" = some (some<|.builtin "object.__setattr__")
def iM.get{K:Qa}(c:iM K C)(f:Str):z5 K C f=true:=c.pg
def bN(K:Qa)(C:Xb)(f:Str):Prop:=Jr K (.ref C) f=some none
def bN.xh{K:Qa}(n:bN K C f):Lj K C f=some none:=by
 unfold Lj;rw[n];rfl
structure iw (K:Qa) (C:Xb) (m:Str) (f:Xb):Prop where
 at_:Jr K (.ref C) m=some (some<|.ref f)
 fn:Cr K (.ref f)=true
 kp:Q7 K (.ref f)=true
section
variable{X:Cx}{XI:List (Xb×Xp)}{σ:St}{H:Hp}{s:Xe}{a C dx:Xb}{fs:List (Str×V)}{f:Str}{v:V}{A:JF}{E:Xc->Xe->Prop}
def QlY(I:Inv X XI σ H s)(e:H a=some (.ins C dx fs))(c:iM X.K C)(n:bN X.K C f)(l:fs.lookup f=some v)
  (h:∀u s',Inv X XI σ H s'->RelV v u->Q u s'):Xh (Xg X.prog X.w) A (getAttr (.ref a) f b) Q E s:=by
 obtain⟨mA,O,r,_,_,_⟩:=Cd I.au e;obtain⟨u,hu,ru⟩:=cY.some_of (by rw[<- l];exact r f);exact Qxx I.bP O (c.get f) c.hd n hu (Qow ru)<|h u _ (I.tok _) ru
def C5(I:Inv X XI σ H s)(e:H a=some (.ins C dx fs))(c:iM X.K C)(k:iw X.K C m g)(l:fs.lookup m=none)
  (h:Q (.ref g,[.ref a]) s):Xh (Xg X.prog X.w) A (XB (.ref a) m pl) Q E s:=by
 obtain⟨mA,O,r,_,_,_⟩:=Cd I.au e;have hn:=cY.none_of (by rw[<- l];exact r m);exact QsK I.bP O (c.get m) k.at_ k.fn hn h
def QlB(I:Inv X XI σ H s)(e:H a=some (.ins C dx fs))(c:iM X.K C)(n:bN X.K C f)(hl:fs.length<1000)(ry:RelV y u)
  (h:∀s',Inv X XI σ (upd H a<|.ins C dx<|dD f y fs) s'->Q () s'):Xh (Xg X.prog X.w) A (setAttr (.ref a) f u) Q E s:=by
 obtain⟨mA,O,r,wi,_,ho⟩:=Cd I.au e;have hz:(fs.map (·.1)).length<=Xj:=by rw[Qd,ZE];omega
 refine Qvz I.bP O c.sa c.po n.xh c.hd wi hz λh' O' sb=>h _ ?_
 have hd:∃o,h'.get? dx=some o:=let ⟨o,_,_,e',_⟩:=O'.ns;⟨o,e'⟩
 refine I.write (by rw[e];exact Jn) (.inr ho) (λb q hb z=>(sb.2 b hb).trans z) hd ?_
 refine⟨by rw[QH O.ne];exact ho,?_,O.ne,O'.obj,_,O'.ns,λg=>?_,λg hg=>?_⟩
 ·have:=Qfl f y fs;omega
 ·rw[Z2];by_cases q:g=f
  ·rw[XZ q,XZ q];exact ry
  ·rw[XY q,XY q];exact r g
 ·by_cases q:g=f
  ·rw[q];exact(Lb f y fs).1
  ·refine(Lb f y fs).2 g<|wi g λz=>hg ?_;show(if g=f then some u else mA g)=none;rw[XY q];exact z
def Inv.made(I:Inv X XI σ H s):Inv X XI σ (upd (upd H s.heap.objs.size<|.own<|s.heap.objs.size+1) (s.heap.objs.size+1)<|.ins C s.heap.objs.size [])
  { s with heap:=(s.heap.push ZA).push (ZV C s.heap.objs.size) }:=by
 have e1:(s.heap.push ZA).get? s.heap.objs.size=some ZA:=Qo s.heap rfl;have e2:((s.heap.push ZA).push<|ZV C s.heap.objs.size).get? (s.heap.objs.size+1)=some (ZV C s.heap.objs.size):=by
  have:=Qo (s.heap.push ZA) (o:=ZV C s.heap.objs.size) rfl
  rwa [Ym] at this
 have e3:(s.heap.push ZA).Ns s.heap.objs.size (λ_=>none):=⟨ZA,#[],_,e1,rfl,(λe he=>X5 he<|by simp),λ_=>rfl⟩;have I1:=I.laid (o:=.own<|s.heap.objs.size+1) (t':=s.toks) (λb u q=>Qe _ q) (Qf _) ⟨_,e1⟩;refine I1.laid (λb u q=>Qe _ q) (zD<|Ym _ _) ?_
 have ne:s.heap.objs.size≠s.heap.objs.size+1:=Qy<|Dd _;refine⟨by rw[QH ne,QC],Q6 _,ne,e2,λ_=>none,(Heap.Ns1.of_empty e3).at λo q=>Qe _ q,λ_=>Jn,λy hy=>X5 rfl hy⟩
def Qx5(hb:attributeBase e f env (eval e env)=eval e env)
  (h:Xh (Xg prog w) A (eval e env) (λo s₁=>Xh (Xg prog w) A (getAttr o f true) Q E s₁) E s):Xh (Xg prog w) A (eval (.Attribute e f pos) env) Q E s:=
 Attribute_any_ h (by rw[arm_eval_Attribute,hb])
end
def QEH(K:Qa)(ta:TE)(f:Str):TE:=λσ H Q=>ta σ H λx H1=>∃a C dx fs v,x=.ref a/\H1 a=some (.ins C dx fs)/\iM K C/\bN K C f/\fs.lookup f=some v/\Q v H1
def QEL(K:Qa)(ta tv:TE)(f:Str):TS:=λD σ H=>tv σ H λy H1=>ta σ H1 λx H2=>∃a C dx fs,x=.ref a/\H2 a=some (.ins C dx fs)/\iM K C/\bN K C f/\fs.length<1000 /\
 D.nx σ (upd H2 a<|.ins C dx<|dD f y fs)
section
variable{X:Cx}{o e value:JO}{f:Str}{pos pos' cV:Pos}{ta tv:TE}
def iq(he:PE X e ta)(hb:attributeBase e f X.env (eval e X.env)=eval e X.env):PE X (.Attribute e f pos) (QEH X.K ta f):=by
 intro XI s σ H Q I h;refine Qx5 hb<|ax (he XI s σ H _ I h) λu s1 ⟨x,H1,I1,rx,a,C,dx,fs,v,ex,ea,c,n,l,q⟩=>?_;subst ex;obtain rfl:u=JM a:=rx;exact QlY I1 ea c n l λu' s2 I2 ru=>⟨v,H1,I2,ru,q⟩
def zc(ha:PE X o ta)(hv:PE X value tv)(hs:Xw value (some<|.Attribute o f pos') pos.line X.env=pure false):PS X (.Assign [.Attribute o f pos'] value pos) (QEL X.K ta tv f):=by
 intro XI s σ H D I h;refine plainObj_wpAny_Assign_Attribute (ax (hv XI s σ H _ I h) λu s1 ⟨y,H1,I1,ry,q⟩=>ax (ha XI s1 σ H1 _ I1 q) λov s2 ⟨x,H2,I2,rx,a,C,dx,fs,ex,ea,c,n,l,q2⟩=>?_) hs;subst ex;obtain rfl:ov=JM a:=rx;exact QlB I2 ea c n l ry λs3 I3=>⟨σ,_,I3,q2⟩
end
section
variable{X:Cx}{XI:List (Xb×Xp)}{σ:St}{H:Hp}{s:Xe}{A:JF}{E:Xc->Xe->Prop}{Q:Xc->Xe->Prop}{c:Xc}{b:Bool}
inductive dg (K:Qa) (H:Hp):V->Xc->Prop where
 |aL:dg K H .aL<|.type "NoneType"
 |bl (x:Bool):dg K H (.bl x)<|.type "bool"
 |int (i:Int):dg K H (.int i)<|.type "int"
 |str (x:Str):dg K H (.str x)<|.type "str"
 |sH (x:UInt64):dg K H (.sH x)<|.type "float"
 |lst {a:Xb} {xs:List V} (e:H a=some (.lst xs)):dg K H (.ref a)<|.type "list"
 |jt {a:Xb} {o:Xp} {xs:List V} (e:H a=some (.jt o<|.lst xs)):dg K H (.ref a)<|.type "list"
 |tup {a:Xb} {xs:List V} (e:H a=some (.tup xs)):dg K H (.ref a)<|.type "tuple"
 |dK {a:Xb} {kvs:List (Key×V)} (e:H a=some (.dK kvs)):dg K H (.ref a)<|.type "dict"
 |dT {a:Xb} {kvs:List (List Key×V)} (e:H a=some (.dT kvs)):dg K H (.ref a)<|.type "dict"
 |ins {a C dx:Xb} {fs:List (Str×V)} (e:H a=some (.ins C dx fs)) (cl:iM K C) (ha:Jr K (.ref C) "__class__" = some (some<|.builtin "object.__class__"))
   (hn:UD K (.builtin "object.__class__") "__get__" = some (some<|.builtin "getset_descriptor.__get__")) (NU:Tj K (.builtin "object.__class__")=some true)
   (hm:Y9 K C (.type "object")=some true):dg K H (.ref a)<|.ref C
def Qoq(I:Inv X XI σ H s)(rx:RelV x u)(ty:dg X.K H x t)(e:Zj X.K t c=some b)(h:∀tk,Q (.bool b) { s with toks:=tk }) :
  Xh (Xg X.prog X.w) A (call (.builtin "isinstance") [u,c]) Q E s:=by
 cases ty with
 |aL=>cases(rx);exact JU PySem.W.kitx_none I.bP Jn e nofun h
 |bl y=>cases(rx);exact JU PySem.W.kitx_bool I.bP Jn e nofun h
 |int i=>obtain⟨t,q⟩:=(rx);cases q;exact JU PySem.W.kitx_int I.bP Jn e nofun h
 |str y=>obtain⟨t,q⟩:=(rx);cases q;exact JU PySem.W.kitx_str I.bP Jn e nofun h
 |sH y=>obtain⟨t,q⟩:=(rx);cases q;exact JU PySem.W.kitx_float I.bP Jn e nofun h
 |@lst a xs ea=>
  cases(rx);obtain⟨_,_,n,_,h1⟩:=(I.au a _ ea);exact JU UC I.bP ⟨_,h1,rfl⟩ e nofun h
 |@jt a ob xs ea=>
  cases(rx);obtain⟨_,_,_,n,_,h1⟩:=(I.au a _ ea);exact JU UC I.bP ⟨_,h1,rfl⟩ e nofun h
 |@tup a xs ea=>
  cases(rx);obtain⟨_,_,_,p⟩:=(I.au a _ ea);obtain⟨o,h1,h2,_⟩:=p;exact JU PySem.W.kitx_tuple I.bP ⟨o,h1,h2⟩ e nofun h
 |@dK a kvs ea=>
  cases(rx);obtain⟨_,_,vs,_,p⟩:=(I.au a _ ea);obtain⟨o,es,ep,h1,h2,_⟩:=p;exact JU UB I.bP ⟨o,h1,h2.1⟩ e nofun h
 |@dT a kvs ea=>
  cases(rx);obtain⟨_,_,xs,_,o,es,ep,h1,h2,_⟩:=(I.au a _ ea);exact JU UB I.bP ⟨o,h1,h2.1⟩ e nofun h
 |@ins a C dx fs ea cl ha hn NU hm=>
  cases(rx);obtain⟨mA,O,_⟩:=Cd I.au ea;obtain⟨od,J,_⟩:=O.look;exact JU (PySem.W.kitx_own (cl.get _) cl.hd ha hn NU hm) I.bP J e nofun h
end
end L2


namespace L2
structure ao (k:Nat) (A:JF):Prop where
 hd:A.handled=none
 dp:A.depth+3*k+5<recursionLimit
 un:A.units+16*k+200<cLine
 gd:A.guards=some []
def ao.mono(r:ao k A)(h:j<=k):ao j A:=⟨r.hd,by have:=r.dp;omega,by have:=r.un;omega,r.gd⟩
def ao.deeper(r:ao (k+1) A)(env:Env):ao k (A.deeper env):=
 ⟨r.hd,by have:=r.dp;show A.depth+1+3*k+5<_;omega,by have:=r.un;show A.units+3+16*k+200<_;omega,r.gd⟩
def QlT{A:JF}:(A.under<|.builtin "type.__call__" ⟨.ref C::us,kw⟩).depth=A.depth+1:=by
 first | rfl | simp[Code.weight]
def QlS{A:JF}:(A.under<|.builtin "type.__call__" ⟨.ref C::us,kw⟩).units=A.units+1:=by
 first | rfl | simp[Code.cUnits]
def ao.make(r:ao (k+1) A)(C:Xb)(us:List Xc)(kw:List (Str×Xc)):ao k (A.under<|.builtin "type.__call__" ⟨.ref C::us,kw⟩):=
 ⟨r.hd,by have:=r.dp;rw[QlT];omega,by have:=r.un;rw[QlS];omega,by have:=r.gd;first | exact this | simpa [Code.isGuard] using this⟩
def ao.depth(r:ao k A):A.depth<recursionLimit:=by have:=r.dp;omega
def ao.units(r:ao k A):A.units+64<cLine:=by have:=r.un;omega
def fj:TA:=λ_ H Q=>Q [] H
def dX(ta:TE)(tr:TA):TA:=λσ H Q=>ta σ H λx H1=>tr σ H1 λxs H2=>Q (x::xs) H2
section
variable{X:Cx}{e:JO}{es:List JO}{te:TE}{t:TA}{pos:Pos}
def Qp:PA X [] fj:=λ_ _ _ _ H Q I h=>LB ⟨[],H,I,.nil,h⟩
def Qj(ha:PE X e te)(hr:PA X es t)(hs:Xi (e::es) X.env=(false,eval e X.env)::Xi es X.env:=by rfl):PA X (e::es) (dX te t):=by
 intro pos XI s σ H Q I h;rw[hs];exact Dh<|ax (ha XI s σ H _ I h) λu s1 ⟨x,H1,I1,r1,q1⟩=>(ax (hr pos XI s1 σ H1 _ I1 q1) λus s2 ⟨xs,H2,I2,r2,q2⟩=>⟨x::xs,H2,I2,.cons r1 r2,q2⟩)
def QEE(t:TA):TE:=λσ H Q=>t σ H λxs H1=>xs.length<=Xj/\∀p,H1 p=none->Q (.ref p) (upd H1 p<|.lst xs)
def P5(h:PA X es t):PE X (.List es pos) (QEE t):=by
 intro XI s σ H Q I hq;refine QBC (ax (h pos XI s σ H _ I hq) λus s1 ⟨xs,H1,I1,r,z,q⟩=>⟨by rw[<- r.length];exact z,?_⟩);have hf:=I1.au.fresh<|Qf _;refine⟨.ref s1.heap.objs.size,upd H1 s1.heap.objs.size<|.lst xs,I1.laid (λb u e=>Qe _ e) (Qf _) ?_,rfl,q _ hf⟩;exact⟨z,us,0,r,Qo _ rfl⟩
end
abbrev Sp:=List V->Hp->VK->XK->Prop
abbrev jg:=List Env->Hp->Xe->XK->Xc->Xe->Prop
structure dE (P:QB) (w:Jf) (K:Qa) (mg:Str->Option Xc) (base:Xl) (A:JF) (outer:List Env) (s:Xe) (H:Hp):Prop where
 frames:A.frames=some outer
 mod:Mod K mg base
 bs:∀b o,base.get? b=some o->s.heap.get? b=some o/\H b=none
 jX:base.objs.size<=s.heap.objs.size
 cf:s.heap.FunFrames base outer
 lu:∀b∈gQ outer,H b=none
 au:cz P w H s.heap
 bare:nz s.gens
def CE(outer:List Env)(P:QB)(w:Jf)(H:Hp)(s:Xe)(Q:VK)(u:Xc)(s':Xe):Prop:=
 ∃v H',s'.os=s.os/\nz s'.gens/\Un (gQ outer) [] H H' s.heap s'.heap/\cz P w H' s'.heap/\RelV v u/\Q v H'
def CR(CX:jg)(outer:List Env)(P:QB)(w:Jf)(H:Hp)(s:Xe)(Q:VK)(E:XK)(r:wX)(s':Xe):Prop:=
 match r with
 |.ok (.ret u)=>CE outer P w H s Q u s'
 |.ok _=>False
 |.error e=>CX outer H s E e s'
structure aI (P:QB) (w:Jf) (K:Qa) (mg:Str->Option Xc) (base:Xl) (CX:jg) (k:Nat) (f:Xb) (fd:Zs) (ps:List Str) (sp:Sp):Prop where
 len:∀vs H Q E,sp vs H Q E->vs.length=ps.length
 run:∀(A:JF)(outer:List Env)(s:Xe)(H:Hp)(args:Args)(us:List Xc)(vs:List V)(Q:VK)(E:XK),ao k A->dE P w K mg base A outer s H->o7 s fd args (ps.zip us)->ah vs us->sp vs H Q E ->
  Xs (Xg P w) A (.call (.ref f) args) (CR CX outer P w H s Q E) s
def aI.imp{K:Qa}(F:aI P w K mg base CX k f fd ps sp)
  (h:∀vs H Q E,Ey vs H Q E->sp vs H Q E):aI P w K mg base CX k f fd ps Ey:=
 ⟨λvs H Q E q=>F.len vs H Q E<|h _ _ _ _ q,λA outer s H args us vs Q E hr he hb hv hs=>F.run A outer s H args us vs Q E hr he hb hv<|h _ _ _ _ hs⟩
def dE.make{K:Qa}(e:dE P w K mg base A outer s H)(C:Xb)(us:List Xc)(kw:List (Str×Xc)) :
  dE P w K mg base (A.under<|.builtin "type.__call__" ⟨.ref C::us,kw⟩) outer s H:=⟨by first | exact e.frames | (simpa [Code.envs] using e.frames),e.mod,e.bs,e.jX,e.cf,e.lu,e.au,e.bare⟩
section
variable{X:Cx}{XI:List (Xb×Xp)}{σ:St}{H:Hp}{s s':Xe}
def Inv.lD(I:Inv X XI σ H s):dE X.prog X.w X.K X.mg X.base X.A X.stack s H:=
 ⟨I.ok.frames,I.ok.mod,I.bs,QQ I.ok.jX I.sz,I.stack,I.gn,I.au,I.bare⟩
def Inv.after(I:Inv X XI σ H s)(h:CE X.stack X.prog X.w H s Q u s'):EP X XI σ Q u s':=by
 obtain⟨v,H',os,bare,un,au,r,q⟩:=h;obtain⟨hh,g,d,t,Nw⟩:=s';obtain rfl:Nw=s.os:=os;exact⟨v,H',I.call un au bare λb z=>X5 z<|by simp,r,q⟩
end
def yU(sp:Sp)(f7:List V)(E:XK)(t:TA):TE:=λσ H Q=>t σ H λvs H1=>sp (vs++f7) H1 Q E
def Bv(C:Xb)(m:Str)(sp:Sp)(f7:List V)(E:XK)(ta:TE)(t:TA):TE:=λσ H Q=>ta σ H λx H1=>∃a dx fs,x=.ref a/\H1 a=some (.ins C dx fs)/\fs.lookup m=none /\
 t σ H1 λvs H2=>sp (x::(vs++f7)) H2 Q E
def Ph(C:Xb)(sp:Sp)(f7:List V)(E:XK)(t:TA):TE:=λσ H Q=>t σ H λvs H1=>∀x dx,H1 x=none->H1 dx=none->dx≠x ->
 sp (.ref x::(vs++f7)) (upd (upd H1 dx<|.own x) x<|.ins C dx []) (λv H2=>v=.aL/\Q (.ref x) H2) E
def Binds(K:Qa)(fd:Zs)(ps:List Str)(ds:List Xc):Prop:=
 ∀(s:Xe)(us:List Xc),K.In s.heap->(us++ds).length=ps.length->o7 s fd ⟨us,[]⟩ (ps.zip<|us++ds)
def Binds.all{K:Qa}(h:∀us:List Xc,us.length=ps.length->bindArgs fd ⟨us,[]⟩=pure (ps.zip us)):Binds K fd ps []:=λs us _ hl=>by
 rw[JW] at hl ⊢;exact .of_eq<|h us hl
def Y6(CX:jg)(X:Cx)(E:XK):Prop:=∀(XI:List (Xb×Xp))(σ:St)(H:Hp)(s:Xe)(e:Xc)(s':Xe),Inv X XI σ H s->CX X.stack H s E e s'->X.xe e s'
section
variable{X:Cx}{CX:jg}{k:Nat}{f C:Xb}{fd:Zs}{ps:List Str}{sp:Sp}{f7:List V}{ds:List Xc}{E:XK}{x m:Str}{p pos apos:Pos}{e o:JO}{es:List JO}{ta:TE}{t:TA}
def y_(F:aI X.prog X.w X.K X.mg X.base CX k f fd ps sp)(hr:ao k X.A)(hb:Binds X.K fd ps ds)(hd:ah f7 ds)(hx:Y6 CX X E)
  (I:Inv X XI σ H s)(r:ah vs us)(h:sp (vs++f7) H Q E):Xh (Xg X.prog X.w) X.A (call (.ref f) us) (EP X XI σ Q) X.xe s:=by
 have r2:=r.append hd;have hl:(us++ds).length=ps.length:=by rw[<- r2.length];exact F.len _ _ _ _ h
 refine rq<|YN (F.run X.A X.stack s H ⟨us,[]⟩ (us++ds) (vs++f7) Q E hr I.lD (hb s us I.bP hl) r2 h) λr s' hq=>?_;cases r with
 |error e=>exact hx XI σ H s e s' I hq
 |ok fl=>
  cases fl with
  |ret u=>exact I.after hq
  |next=>exact Q9 hq
  |brk=>exact Q9 hq
  |cont=>exact Q9 hq
def IB(F:aI X.prog X.w X.K X.mg X.base CX k f fd ps sp)(hr:ao k X.A)(hg:Gl X x)(hm:X.mg x=some (.ref f))(hk:Q7 X.K (.ref f)=true)(hb:Binds X.K fd ps ds)(hd:ah f7 ds)(hx:Y6 CX X E)
  (ha:PA X (e::es) t)(bE:(x == ("__debug__" : Str))=false:=by decide)(he:Xi (e::es) X.env=(false,eval e X.env)::Xi es X.env:=by rfl)(hpl:(Xq pos<|Xi es X.env).any (·.1)=false:=by rfl) :
  PE X (.Call (.Name x p) (e::es) [] pos) (yU sp f7 E t):=by
 intro XI s σ H Q I h;refine ZD<|uo I hg hm ?_ bE;refine Yj I.ok.mod.mM hk (ax (ha pos XI s σ H _ I h) λus s1 ⟨vs,H1,I1,r,q⟩=>⟨I1.bP,?_⟩) he hpl;exact y_ F hr hb hd hx I1 r q
def Qv0(he:PE X o ta)(c:iM X.K C)(hm:iw X.K C m f)(F:aI X.prog X.w X.K X.mg X.base CX k f fd ps sp)(hr:ao k X.A)(hb:Binds X.K fd ps ds)(hd:ah f7 ds)(hx:Y6 CX X E)(ha:PA X (e::es) t)
  (gs:Xi (e::es) X.env=(false,eval e X.env)::Xi es X.env:=by rfl)(hpl:(Xq pos<|Xi es X.env).any (·.1)=false:=by rfl)
  (ht:eval (.Call (.Attribute o m apos) (e::es) [] pos) X.env=(do
   let ov <- eval o X.env
   Xu apos.atName
   let (f,first) <- Xt [ov] (XB ov m pl)
   XC pos f first (Xq pos<|Xi (e::es) X.env) (Xz pos<|Xy [] X.env)):=by rfl) :
  PE X (.Call (.Attribute o m apos) (e::es) [] pos) (Bv C m sp f7 E ta t):=by
 intro XI s σ H Q I h;refine Du (ax (he XI s σ H _ I h) λu s1 ⟨x,H1,I1,rx,a,dx,fs,ex,ea,l,q⟩=>?_) ht;subst ex;obtain rfl:u=JM a:=rx;refine C5 I1 ea c hm l ?_
 refine Yj I.ok.mod.mM hm.kp (ax (ha pos XI s1 σ H1 _ I1 q) λus s2 ⟨vs,H2,I2,r,q2⟩=>⟨I2.bP,?_⟩) gs hpl;exact y_ (vs:=.ref a::vs) F hr hb hd hx I2 (.cons rfl r) q2
def Qrz(he:PE X o ta)(c:iM X.K C)(hm:iw X.K C m f)(F:aI X.prog X.w X.K X.mg X.base CX k f fd ps sp)(hr:ao k X.A)(hb:Binds X.K fd ps ds)(hd:ah f7 ds)(hx:Y6 CX X E)
  (ht:eval (.Call (.Attribute o m apos) [] [] pos) X.env=(do
   let ov <- eval o X.env
   Xu apos.atName
   let (f,first) <- Xt [ov] (XB ov m pl)
   XC pos f first (Xq pos<|Xi [] X.env) (Xz pos<|Xy [] X.env)):=by rfl) :
  PE X (.Call (.Attribute o m apos) [] [] pos) (Bv C m sp f7 E ta fj):=by
 intro XI s σ H Q I h;refine Du (ax (he XI s σ H _ I h) λu s1 ⟨x,H1,I1,rx,a,dx,fs,ex,ea,l,q⟩=>?_) ht;subst ex;obtain rfl:u=JM a:=rx;refine C5 I1 ea c hm l ?_
 exact LJ I1.bP hm.kp<|y_ (vs:=[.ref a]) F hr hb hd hx I1 (.cons rfl .nil) q
structure Mk (K:Qa) (C f:Xb):Prop where
 makes:Li K C=true
 init:Jr K (.ref C) "__init__" = some (some<|.ref f)
 fn:Cr K (.ref f)=true
 kp:Q7 K (.ref C)=true
def Qrk(M:Mk X.K C f)(F:aI X.prog X.w X.K X.mg X.base CX k f fd ps sp)(hr:ao (k+1) X.A)(hb:Binds X.K fd ps ds)(hd:ah f7 ds)
  (hx:Y6 CX X E)(I:Inv X XI σ H s)(r:ah vs us)
  (h:∀x dx,H x=none->H dx=none->dx≠x->sp (.ref x::(vs++f7)) (upd (upd H dx<|.own x) x<|.ins C dx []) (λv H2=>v=.aL/\Q (.ref x) H2) E) :
  Xh (Xg X.prog X.w) X.A (call (.ref C) us) (EP X XI σ Q) X.xe s:=by
 have hq:=h (s.heap.objs.size+1) s.heap.objs.size (I.au.fresh<|Hs _) (I.au.fresh<|Qf _)<|Qy<|Dd _;have I2:=Inv.made (C:=C) I;have r2:ah (V.ref (s.heap.objs.size+1)::(vs++f7)) (JM (s.heap.objs.size+1)::(us++ds)):=.cons rfl<|r.append hd;have hl:(JM (s.heap.objs.size+1)::us++ds).length=ps.length:=by
  have e:=r2.length;rw[F.len _ _ _ _ hq] at e;exact e.symm
 refine rq (Qsx I.bP M.makes M.init (beq_iff_eq.mp M.fn)<|YN (F.run _ X.stack _ _ ⟨JM (s.heap.objs.size+1)::us,[]⟩ (JM (s.heap.objs.size+1)::(us++ds)) _ _ E (hr.make C us [])
  (I2.lD.make C us []) (hb _ (JM (s.heap.objs.size+1)::us) I2.bP hl) r2 hq) λr s' xY=>?_)
 cases r with
 |error e=>exact hx XI σ _ _ e s' I2 xY
 |ok fl=>
  cases fl with
  |ret u=>
   obtain⟨v,H',I3,rv,ev,q3⟩:=I2.after xY;subst ev;exact⟨rv,⟨V.ref<|s.heap.objs.size+1,H',I3,rfl,q3⟩⟩
  |next=>exact Q9 xY
  |brk=>exact Q9 xY
  |cont=>exact Q9 xY
def QrA(M:Mk X.K C f)(F:aI X.prog X.w X.K X.mg X.base CX k f fd ps sp)(hr:ao (k+1) X.A)(hg:Gl X x)(hm:X.mg x=some (.ref C))(hb:Binds X.K fd ps ds)(hd:ah f7 ds)(hx:Y6 CX X E)
  (bE:(x == ("__debug__" : Str))=false:=by decide):PE X (.Call (.Name x p) [] [] pos) (Ph C sp f7 E fj):=by
 intro XI s σ H Q I h;refine ZD<|uo I hg hm ?_ bE;exact LJ I.bP M.kp<|Qrk M F hr hb hd hx I .nil h
end
structure Ya (N P:List Str) (sc:gW):Prop where
 kind:sc.kind=.function
 co:sc.isCoroutine=false
 gen:sc.isGenerator=false
 nd:N.Nodup
 pre:N.take P.length=P
 par:∀x∈P,sc.names.lookup x=some .local∨sc.names.lookup x=some .cell
 rZ:∀y∈sc.names,y.2≠.free
def WB{kindOf:Str->Option lZ}:∀{binds:List (Str×Xc)}{m:Str->Option Xc},(∀v,(x,v)∉binds)->bindL kindOf binds m x=m x
 |[],_,_=>rfl
 |(n,v)::r,m,h=>by
  unfold bindL;rw[WB λw hw=>h w<|QN _ hw];split
  ·have:x≠n:=by rintro rfl;exact h v Q1
   simp[this]
  ·rfl
def Wz{kindOf:Str->Option lZ}:∀{binds:List (Str×Xc)}{m:Str->Option Xc},(∀v,(x,v)∉binds)->bindC kindOf binds m x=m x
 |[],_,_=>rfl
 |(n,v)::r,m,h=>by
  unfold bindC;rw[Wz λw hw=>h w<|QN _ hw];split
  ·rfl
  ·have:x≠n:=by rintro rfl;exact h v Q1
   simp[this]
def WA{kindOf:Str->Option lZ}:∀{P:List Str}{vs:List Xc}{i:Nat}{m:Str->Option Xc},P.Nodup->P[i]? = some x->vs[i]? = some v->kindOf x=some .local ->
  bindL kindOf (P.zip vs) m x=some v
 |[],_,_,_,_,h,_,_=>by simp at h
 |_::_,[],_,_,_,_,h,_=>by simp at h
 |p::P,w::vs,0,m,nd,h1,h2,hk=>by
  simp at h1 h2;subst h1;subst h2;show bindL kindOf ((p,w)::P.zip vs) m p=_;unfold bindL;rw[WB λv hv=>(zS.mp nd).1 (CS hv).1,XZ hk];simp
 |p::P,w::vs,i+1,m,nd,h1,h2,hk=>by
  unfold bindL;exact WA (zS.mp nd).2 (by simpa using h1) (by simpa using h2) hk
def Wy{kindOf:Str->Option lZ}:∀{P:List Str}{vs:List Xc}{i:Nat}{m:Str->Option Xc},P.Nodup->P[i]? = some x->vs[i]? = some v->kindOf x≠some .local ->
  bindC kindOf (P.zip vs) m x=some v
 |[],_,_,_,_,h,_,_=>by simp at h
 |_::_,[],_,_,_,_,h,_=>by simp at h
 |p::P,w::vs,0,m,nd,h1,h2,hk=>by
  simp at h1 h2;subst h1;subst h2;show bindC kindOf ((p,w)::P.zip vs) m p=_;unfold bindC;rw[Wz λv hv=>(zS.mp nd).1 (CS hv).1,XY hk];simp
 |p::P,w::vs,i+1,m,nd,h1,h2,hk=>by
  unfold bindC;exact Wy (zS.mp nd).2 (by simpa using h1) (by simpa using h2) hk
def start(N:List Str)(vs:List V):St:=vs.map some++Q8 (N.length - vs.length) none
def bS(CX:jg)(P:QB)(w:Jf)(K:Qa)(mg:Str->Option Xc)(base:Xl)(N:List Str)(qual:Str)(scope:gW)(f:Xb)(cd:Xc)(A:JF)(outer:List Env)(s:Xe)(H:Hp)(E:XK):Cx where
 prog:=P
 w:=w
 K:=K
 mg:=mg
 base:=base
 A:=A.deeper<|envOfC qual scope s.heap.objs.size f cd
 N:=N
 s₀:=s
 H₀:=H
 env:=envOfC qual scope s.heap.objs.size f cd
 outer:=outer
 stack:=envOfC qual scope s.heap.objs.size f cd::outer
 ex:=[]
 calm:=true
 fn:=λ_=>true
 pn:=[]
 xe:=λe s'=>Xh (Xg P w) (A.deeper<|envOfC qual scope s.heap.objs.size f cd) (leaving (envOfC qual scope s.heap.objs.size f cd) e) (λ_ rS=>CX outer H s E e rS) (λe' rS=>CX outer H s E e' rS) s'
def VO{sc:gW}(h:sc.names.lookup x=some .cell):∃c,(cellsFrom n sc.names []).lookup x=some c:=by
 have q:=Me sc.names n []<|.inl h;exact Option.isSome_iff_exists.mp q
def Wf{K:Qa} 
  (S:Ya N ps scope)(hd:A.handled=none)(e0:dE P w K mg base A outer s H)(hl:vs.length=ps.length)(r:ah vs us)
  (x:InCallC s s.heap.objs.size (bindL (envOfC qual scope s.heap.objs.size f cd).kindOf (ps.zip us) λ_=>none) (cellsFrom (s.heap.objs.size+1) scope.names []) (bindC (envOfC qual scope s.heap.objs.size f cd).kindOf (ps.zip us) λ_=>none) s1) :
  Inv (bS CX P w K mg base N qual scope f cd A outer s H E) [] (start N vs) H s1:=by
 have hpl:ps.length<=N.length:=by have:=X6 List.length S.pre;rw[Df] at this;omega
 obtain⟨h1,tk,rfl,hk⟩:=x.done;have xG:∀b:Xb,b∉(bS CX P w K mg base N qual scope f cd A outer s H E).ex:=λb z=>X5 (show b∈([]:List Xb) from z) (by simp)
 refine⟨⟨e0.mod,S.kind,rfl,rfl,Qf _,λy z c h1 h2=>?_,λy hy=>?_,λy c _ h=>?_,λ_=>hd,Around.frames_deeper e0.frames,.inr ⟨rfl,rfl⟩,λb z=>X5 z<|xG b,e0.bs,e0.jX,λb _ _=>xG b,λb z=>X5 z<|xG b,e0.cf,e0.lu⟩,
  rfl,e0.bare,Un.kept hk,⟨_,x.toInCall.ns,λi y v h1 h2 h3=>?_⟩,λy c h=>⟨_,x.cell y c h⟩,e0.au.fresh<|Qf _,λy c h=>?_,λp hp=>X5 (show p∈([]:List (Xb×Xp)) from hp)<|by simp,e0.au.kept hk,?_⟩
 ·exact name_of_addr x.apart (YS h1)<|YS h2
 ·have hy:=hy;rcases hy with hy | hy
  ·exact VO hy
  ·exact X5 rfl<|S.rZ _<|YS hy
 ·exact Ja<|x.above y c<|YS h
 ·have hi:i<vs.length:=by
   unfold start at h2;by_cases hi:i<vs.length
   ·exact hi
   ·rw[L3<|by simpa using hi] at h2;rw[Dx] at h2;split at h2<;>cases h2
  have ha:vs[i]? = some v:=by
   unfold start at h2;rw[YR<|by simpa using hi,Qt] at h2;cases e:vs[i]? with
   |none=>rw[e] at h2;cases h2
   |some a=>rw[e] at h2;cases h2;rfl
  obtain⟨u,hu,rv⟩:=r.get ha;have hp:ps[i]? = some y:=by
   rw[<- S.pre,List.getElem?_take_of_lt<|by omega];exact h1
  have NF:ps.Nodup:=by rw[<- S.pre];exact S.nd.sublist<|List.take_sublist _ _
  refine⟨u,rv,?_⟩;rcases S.par y (Je hp) with k | k
  ·exact .inl ⟨k,WA NF hp hu k⟩
  ·obtain⟨c,e⟩:=VO k;refine .inr ⟨.inl k,c,e,?_⟩;have q:=x.cell y c e;rw[Wy NF hp hu (by show scope.names.lookup y≠_;rw[k];decide)] at q;exact q
 ·exact e0.au.fresh<|Ja<|x.above y c<|YS h
 ·unfold start;show _=N.length;rw[Qg,Qd,Dy];omega
def QAN{K:Qa}{kV:Xc} 
  (lk:K.lookup f=some ⟨oc,od,.func<|Yp name qual params body scope dV kV doc pm an aj ct,n_⟩)(bQ:zR K aj qual=true)(S:Ya N ps scope)
  (len:∀vs H Q E,sp vs H Q E->vs.length=ps.length)
  (XL:∀(A:JF)(outer:List Env)(s:Xe)(H:Hp)(vs:List V)(Q:VK)(E:XK),ao k (A.deeper<|envOfC qual scope s.heap.objs.size f aj)->sp vs H Q E ->
   ∃t,aV (bS CX P w K mg base N qual scope f aj A outer s H E) body t/\t { nx:=λ_ H'=>Q .aL H',rt:=Q } (start N vs) H) :
  aI P w K mg base CX (k+1) f (Yp name qual params body scope dV kV doc pm an aj ct) ps sp:=by
 refine⟨len,λA outer s H args us vs Q E hr e0 hb r a8=>?_⟩;have hl:=len _ _ _ _ a8;have KX:=e0.mod.mM.keeps λb o e=>(e0.bs b o e).1
 have lim:=e0.mod.nolimit.keeps λb o e=>(e0.bs b o e).1
 have h9:∀y∈ps.zip us,scope.names.lookup y.1=some .local∨(scope.names.lookup y.1=some .cell/\((cellsFrom (s.heap.objs.size+1) scope.names []).lookup y.1).isSome=true):=λ⟨n,v⟩ hy=>by
  rcases S.par n (CS hy).1 with q | q
  ·exact .inl q
  ·exact .inr ⟨q,Me _ _ _<|.inl q⟩
 refine RL hr.depth (KX _ _ lk) rfl S.co S.gen rfl (UN KX bQ)<|hb _ _ _ _<|Vc S.kind h9 λenv he s1 x=>?_;subst he;refine⟨lim.keeps x.toInCall.keep,codeAny_func ?_⟩;obtain⟨t,ht,hq⟩:=XL A outer s H vs Q E (hr.deeper _) a8;have I:Inv (bS CX P w K mg base N qual scope f aj A outer s H E) [] (start N vs) H s1:=Wf S hr.hd e0 hl r x;refine Xk (ht [] s1 (start N vs) H _ I hq) (λfl s' hs=>?_) λe s' hs=>hs
 have fin:∀{σ':St}{H':Hp}{v:V}{u:Xc},Inv (bS CX P w K mg base N qual scope f aj A outer s H E) [] σ' H' s'->RelV v u->Q v H'->CE outer P w H s Q u s':=
  λ{σ' H' v u} J rv q=>⟨v,H',J.os,J.bare,J.base,J.au,rv,q⟩
 cases fl with
 |ret u=>
  obtain⟨v,σ',H',J,rv,q⟩:=hs;exact fin J rv q
 |next=>
  obtain⟨σ',H',J,q⟩:=hs;exact fin (v:=V.aL) J rfl q
 |brk=>
  obtain⟨_,_,_,q⟩:=hs;exact Q9 q
 |cont=>
  obtain⟨_,_,_,q⟩:=hs;exact Q9 q
end L2


namespace L2
section
variable{X:Cx}{x:Str}{p pos:Pos}{e:JO}{es:List JO}{t:TA}{id T:String}{r:List V->Hp->VK->Prop}
def pX(r:List V->Hp->VK->Prop)(t:TA):TE:=λσ H Q=>t σ H λvs H1=>r vs H1 Q
def Zc(hc:aF X (.builtin id) r)(hg:Gl X x)(hm:X.mg x=none)(hv:Xn x=some (.builtin id))(ha:PA X (e::es) t)(hn:x ≠ "__name__" := by decide)(bE:(x == ("__debug__" : Str))=false:=by decide)
  (he:Xi (e::es) X.env=(false,eval e X.env)::Xi es X.env:=by rfl)(hpl:(Xq pos<|Xi es X.env).any (·.1)=false:=by rfl):PE X (.Call (.Name x p) (e::es) [] pos) (pX r t):=by
 intro XI s σ H Q I h;exact ZD<|ph I hg hm hv (PyProof.Rows.callWith_builtin1 (ax (ha pos XI s σ H _ I h) λus s1 ⟨vs,H1,I1,r1,q1⟩=>hc XI s1 σ H1 vs us Q I1 r1 q1) he hpl) hn bE
def Zq(hc:aF X (.type T) r)(hg:Gl X x)(hm:X.mg x=none)(hv:Xn x=some (.type T))(ha:PA X (e::es) t)(hn:x ≠ "__name__" := by decide)(bE:(x == ("__debug__" : Str))=false:=by decide)
  (he:Xi (e::es) X.env=(false,eval e X.env)::Xi es X.env:=by rfl)(hpl:(Xq pos<|Xi es X.env).any (·.1)=false:=by rfl):PE X (.Call (.Name x p) (e::es) [] pos) (pX r t):=by
 intro XI s σ H Q I h;exact ZD<|ph I hg hm hv (J4 (ax (ha pos XI s σ H _ I h) λus s1 ⟨vs,H1,I1,r1,q1⟩=>hc XI s1 σ H1 vs us Q I1 r1 q1) he hpl) hn bE
end
end L2
namespace HT
section
variable{prog:QB}{w:Jf}{A:JF}{E:Xc->Xe->Prop}{s:Xe}
def Qx0(ht:IsTup s.heap t vs.toArray)(hb:IsTup s.heap b ws.toArray)(hv:vs≠[])
  (h1:ws=[]->Q (.ref t) s)(h2:ws≠[]->Q (.ref s.heap.objs.size) { s with heap:=s.heap.push { cls:=.type "tuple",data:=.seq (vs++ws).toArray } })
  (vi:vs.length+ws.length<=Xj):Xh (Xg prog w) A (Xr .Add (.ref t)<|.ref b) Q E s:=by
 obtain⟨⟨cls,dd,data,sl⟩,ho,hc,n,hd⟩:=id ht;obtain⟨⟨Gi,A8,data2,rQ⟩,lh,km,n2,hd2⟩:=id hb;subst hc hd km hd2;have e:vs.toArray++ws.toArray=(vs++ws).toArray:=by simp
 by_cases hw:ws=[]
 ·exact Hn ⟨_,ho,rfl⟩ ⟨_,lh,rfl⟩ Kf Hy Mc Mg (L9 _ _)
   (tuple_addW1 t b vs.toArray ws.toArray n n2 dd A8 sl rQ (by simpa using hv)<|by simp[hw]) ⟨ho,lh,h1 hw⟩
 ·refine Hn ⟨_,ho,rfl⟩ ⟨_,lh,rfl⟩ Kf Hy Mc Mg (L9 _ _)
   (tuple_addW2 t b vs.toArray ws.toArray n n2 dd A8 sl rQ (by simpa using hv) (by simpa using hw) (by rw[Qk];exact vi)) ⟨ho,lh,?_⟩
  rw[e];exact h2 hw
def aX(n d:Nat):Option Int->Nat
 |none=>d
 |some v=>if v<0 then(v+(n:Int)).toNat else min v.toNat n
def Vj(n d:Nat):aX n d none=d:=rfl
def QvA(n d k:Nat):aX n d (some (k:Int))=min k n:=by
 show(if k<0 then(k+(n:Int)).toNat else min (k:Int).toNat n)=min k n;rw[XY<|by omega,QY]
def TK(v:Int)(n d:Nat):(if v<0 then max (v+(n:Int)) 0 else min v (n:Int))=((aX n d (some v):Nat):Int):=by
 show(if v<0 then max (v+n) 0 else min v n)=(((if v<0 then(v+n).toNat else min v.toNat n):Nat):Int);by_cases hv:v<0
 ·simp only[XZ hv];omega
 ·simp only[XY hv];omega
def Ql7(lo hi:Option Int)(n:Nat):Qeu lo hi 1 (n:Int)=(((aX n 0 lo:Nat):Int),((aX n n hi:Nat):Int)):=by
 have h1:¬(1<0):=by omega
 refine v9 ?_ ?_
 ·cases lo with
  |none=>rfl
  |some v=>exact TK v n 0
 ·cases hi with
  |none=>rfl
  |some v=>exact TK v n n
def QlF(i j:Nat):Yq (i:Int) (j:Int) 1=j - i:=by
 unfold Yq;have h1:1 > 0:=by omega
 split<;>omega
def Qgb(p:nu v o)(h:Q o s):Xh (Xg prog w) A (QCq v) Q E s:=by
 cases p with
 |none=>exact slicePart_none h
 |int i t=>exact slicePart_int h
def QbR{lo:Option Int}{Q:Int×Int×Nat->Xe->Prop}(hs:s.heap.IsSliceOf sl vl vu .none)(pl:nu vl lo)(pu:nu vu hi)
  (h:Q (((aX n 0 lo:Nat):Int),1,aX n n hi - aX n 0 lo) s):Xh (Xg prog w) A (QCr (.ref sl)<|pure (n:Int)) Q E s:=by
 obtain⟨os,fX,AU,bC⟩:=id hs;refine Xa<|Xa<|wo fX bC rfl<|Xa<|wo fX bC rfl<|Xa<|wo fX bC rfl<|wpAny_pure ?_;refine Xa<|slicePart_none ?_;refine Xa<|Qgb pl<|Xa<|Qgb pu<|Xa<|wpAny_pure ?_;show Xh _ _ (match Qeu lo hi 1 n with | (lo,hi)=>pure (lo,(1:Int),Yq lo hi 1)) _ _ s;rw[Ql7 lo hi n];show Xh _ _ (pure (((aX n 0 lo:Nat):Int),1,Yq ((aX n 0 lo:Nat):Int) ((aX n n hi:Nat):Int) 1)) _ _ s;rw[QlF];exact wpAny_pure h
def Qrv(xs:Array Xc)(i k:Nat):((QD k).filterMap λ(m:Nat)=>xs[((i:Int)+(m:Int)*1).toNat]?).toArray=((xs.toList.drop i).take k).toArray:=by
 have e:(λ(m:Nat)=>xs[(i+(m:Int)*1).toNat]?)=λm=>xs[i+m]? := by
  funext m
  have:(i+(m:Int)*1).toNat=i+m:=by omega
  rw[this]
 rw[e];have:=pick_run xs i k;rw[z4] at this;have e2:((λx=>xs[x]?)∘λx=>i+x)=λm=>xs[i+m]? := rfl
 rw[e2] at this;rw[this]
def Qd9{lo:Option Int}(ht:IsTup s.heap t items)(hs:s.heap.IsSliceOf sl vl vu .none)(pl:nu vl lo)(pu:nu vu hi)
  (hw:¬(aX items.size 0 lo=0/\aX items.size items.size hi=items.size))
  (h:Q (.ref s.heap.objs.size) { s with heap:=s.heap.push { cls:=.type "tuple",data:=.seq ((items.toList.drop<|aX items.size 0 lo).take<|aX items.size items.size hi - aX items.size 0 lo).toArray } })
  (vi:items.size<=Xj):Xh (Xg prog w) A (XA (.ref t)<|.ref sl) Q E s:=by
 have jr:sizeOk (.seq ((items.toList.drop<|aX items.size 0 lo).take<|aX items.size items.size hi - aX items.size 0 lo).toArray):=by
  show((items.toList.drop<|aX items.size 0 lo).take<|aX items.size items.size hi - aX items.size 0 lo).toArray.size<=Xj;rw[Qk,Df,RF,Q5];omega
 obtain⟨os,fX,AU,bC⟩:=id hs;have F5:s.TypeIs (.ref sl) "slice" := ⟨os,fX,AU⟩;unfold XA
 try with_reducible refine Jx ?_
 first | refine Xa (wpAny_pure ?_) | skip
 refine Xa (QB3 ht.typeIs (by decide) ?_);refine Xa (DH ht.typeIs JL
  (Zk JL ht.typeIs O4 ?_<|QBE _ _))
 show Xh _ _ (Qef (.ref t) >>= _) _ _ s;refine Xa<|tupleItemsOf_ ht<|Xa<|zq F5 ?_;refine Xa<|QbR hs pl pu ?_;have hno:¬((((aX items.size 0 lo:Nat):Int) == 0&&(1:Int) == 1&&(aX items.size items.size hi - aX items.size 0 lo) == items.size)=true):=by
  intro q;rw[Jp,Jp] at q;have q1:=eq_of_beq q.1.1;have q2:=eq_of_beq q.2;exact hw ⟨by omega,by omega⟩
 show Xh _ _ (if(((aX items.size 0 lo:Nat):Int) == 0&&1 == 1&&(aX items.size items.size hi - aX items.size 0 lo) == items.size)=true then _ else _) _ _ s;rw[XY hno,Qrv]
 first
  |exact Xa<|Jt (wpAny_pure ⟨_,rfl,wpAny_pure h⟩) jr
  |exact Xa<|Jt (Xa<|wpAny_pure<|wpAny_pure ⟨_,rfl,wpAny_pure h⟩) jr
  |exact Xa<|Xa<|Jt (wpAny_pure<|wpAny_pure ⟨_,rfl,wpAny_pure h⟩) jr
  |exact Xa<|Xa<|Jt (wpAny_pure ⟨_,rfl,wpAny_pure h⟩) jr
end
end HT
namespace L2
abbrev TO:=St->Hp->(Option Int->Hp->Prop)->Prop
def PO(X:Cx)(e:Option JO)(t:TO):Prop:=
 ∀(XI:List (Xb×Xp))(s:Xe)(σ:St)(H:Hp)(Q:Option Int->Hp->Prop),Inv X XI σ H s->t σ H Q ->
  Xh (Xg X.prog X.w) X.A (evalPart e X.env) (λu s'=>∃o H',Inv X XI σ H' s'/\nu u o/\Q o H') X.xe s
def Qvq:TO:=λ_ H Q=>Q none H
def QCz(t:TE):TO:=λσ H Q=>t σ H λx H1=>∃i,x=.int i/\Q (some i) H1
def intsAre_of:∀{us:List Xc},ah (ns.map V.int) us->nC us ns:=by
 induction ns with
 |nil=>intro us r;rw[Ck] at r;cases r;exact .nil
 |cons n ns ih=>
  intro us r;cases r with
  |cons r1 r2=>
   obtain⟨t,e⟩:=r1;subst e;exact .cons n t<|ih r2
section
variable{X:Cx}{e:JO}{te:TE}{lo hi:Option JO}{tl th:TO}{pos p2:Pos}
def Ut:PO X none Qvq:=by
 intro XI s σ H Q I h;exact wpAny_pure ⟨none,H,I,.none,h⟩
def Uu(h:PE X e te):PO X (some e) (QCz te):=by
 intro XI s σ H Q I hw;refine ax (h XI s σ H _ I hw) λu s1 ⟨x,H1,I1,r1,q1⟩=>?_
 obtain⟨i,rfl,q⟩:=q1;obtain⟨t,rfl⟩:=r1;exact⟨some i,H1,I1,.int i t,q⟩
def mY(X:Cx)(r:V->Option Int->Option Int->Hp->VK->Prop):Prop:=
 ∀(XI:List (Xb×Xp))(s:Xe)(σ:St)(H:Hp)(x:V)(v vl vu:Xc)(lo hi:Option Int)(sl:Xb)(Q:VK),Inv X XI σ H s->RelV x v->s.heap.IsSliceOf sl vl vu .none->nu vl lo->nu vu hi->r x lo hi H Q ->
  ∃T id,typeLookup (.type T) "__getitem__" = pure (some<|.builtin id)/\s.TypeIs v T/\Xh (Xg X.prog X.w) X.A (XA v<|.ref sl) (EP X XI σ Q) X.xe s
def tSl(r:V->Option Int->Option Int->Hp->VK->Prop)(te:TE)(tl th:TO):TE:=λσ H Q=>te σ H λx H1=>tl σ H1 λl H2=>th σ H2 λu H3=>r x l u H3 Q
def VL(hr:mY X r)(he:PE X e te)(hl:PO X lo tl)(hu:PO X hi th):PE X (.Subscript e (.Slice lo hi none p2) pos) (tSl r te tl th):=by
 intro XI s σ H Q I h;refine MA<|ax (he XI s σ H _ I h) λv s1 ⟨x,H1,I1,r1,q1⟩=>(wpAny_Slice<|ax (hl XI s1 σ H1 _ I1 q1) λvl s2 ⟨l,H2,I2,pl,q2⟩=>ax (hu XI s2 σ H2 _ I2 q2) λvu s3 ⟨u,H3,I3,pu,q3⟩=>?_);refine wpAny_pure ?_
 have I4:Inv X XI σ H3 { s3 with heap:=s3.heap.push { cls:=.type "slice",data:=.fields #[vl,vu,.none] } }:=I3.kept λb ob q=>Qe _ q
 obtain⟨T,id,hT,ht,hg⟩:=hr XI { s3 with heap:=s3.heap.push { cls:=.type "slice",data:=.fields #[vl,vu,.none] } } σ H3 x v vl vu l u s3.heap.objs.size Q I4 r1 (QBK ..) pl pu q3;exact tail_any ht hT hg (by with_unfolding_all rfl)
def kz(xs:List V)(lo hi:Option Int):List V:=(xs.drop<|HT.aX xs.length 0 lo).take<|HT.aX xs.length xs.length hi - HT.aX xs.length 0 lo
def Qfz(xs:List V)(lo hi:Option Int):(kz xs lo hi).length<=xs.length:=by
 unfold kz;rw[Df,RF];omega
def QEM(K:Qa):V->Option Int->Option Int->Hp->VK->Prop:=λx lo hi H Q=>∃a xs,x=.ref a/\aP K H a xs /\
 ¬(HT.aX xs.length 0 lo=0/\HT.aX xs.length xs.length hi=xs.length)/\∀p,H p=none->Q (.ref p) (upd H p<|.tup<|kz xs lo hi)
def Qy3:mY X (QEM X.K):=by
 intro XI s σ H x v vl vu lo hi sl Q I rx hs pl pu h;obtain⟨a,xs,rfl,hx,hw,q⟩:=h;cases rx;obtain⟨its,r,ht,hz⟩:=I.tuple hx;have hlen:its.toArray.size=xs.length:=by rw[Qk];exact r.length.symm
 refine⟨"tuple",_,JL.lookup,ht.typeIs,(HT.Qd9 ht hs pl pu (by rw[hlen];exact hw) ?_ (by rw[hlen];exact hz))⟩;rw[hlen];refine⟨.ref s.heap.objs.size,_,I.laid (λb ob q=>Qe _ q) (Qf _) ?_,rfl,q _<|I.au.fresh<|Qf _⟩;exact⟨QQ (Qfz xs lo hi) hz,_,(r.drop<|HT.aX xs.length 0 lo).take<|HT.aX xs.length xs.length hi - HT.aX xs.length 0 lo,dQ.new _ _⟩
def QCU(K:Qa):R2:=λx y H Q=>∃a b xs ys,x=.ref a/\y=.ref b/\aP K H a xs/\aP K H b ys/\xs≠[]/\xs.length+ys.length<=Xj /\
 (ys=[]->Q (.ref a) H)/\(ys≠[]->∀p,H p=none->Q (.ref p) (upd H p<|.tup<|xs++ys))
def ah.gr(r:ah xs us):us=[]↔xs=[]:=by
 cases r with
 |nil=>simp
 |cons _ _=>simp
def Qwz:aK X (Xr .Add) (QCU X.K):=by
 intro XI s σ H x y v u Q I rx ry h;obtain⟨a,b,xs,ys,rfl,rfl,ha,hb,hx,hz,q1,q2⟩:=h;cases rx;cases ry;obtain⟨its,r1,p1,_⟩:=I.tuple ha;obtain⟨hV,r2,p2,_⟩:=I.tuple hb;refine HT.Qx0 p1 p2 (λz=>hx<|r1.gr.mp z) (λz=>⟨.ref a,H,I,rfl,q1<|r2.gr.mp z⟩) (λz=>?_) (by rw[<- r1.length,<- r2.length];exact hz);refine⟨.ref s.heap.objs.size,_,I.laid (λb ob q=>Qe _ q) (Qf _) ?_,rfl,q2 (λw=>z<|r2.gr.mpr w) _<|I.au.fresh<|Qf _⟩;exact⟨by rw[Qg];exact hz,_,r1.append r2,dQ.new _ _⟩
end
def jq(n:Nat)(i:Int):Option Nat:=if 0<=i then(if i<n then some i.toNat else none) else if -(n:Int)<=i then some (i+n).toNat else none
def gR{α:Type}(xs:List α)(i:Int):Option α:=(jq xs.length i).bind λj=>xs[j]?
def Tw(h:jq n i=some j):seqIndex? i n=some j/\j<n /\ -(n:Int)<=i/\i<n:=by
 unfold jq at h;by_cases h0:0<=i
 ·rw[XZ h0] at h;by_cases h1:i<n
  ·rw[XZ h1] at h;have e:=QF h;exact⟨by rw[BF h0 h1,e],by omega,by omega,h1⟩
  ·rw[XY h1] at h;cases h
 ·rw[XY h0] at h;by_cases h1 : -n<=i
  ·rw[XZ h1] at h;have e:=QF h;exact⟨by rw[B8 (by omega) h1,e],by omega,h1,by omega⟩
  ·rw[XY h1] at h;cases h
def IM(h:gR xs i=some v):∃j,seqIndex? i xs.length=some j/\xs[j]? = some v/\j<xs.length /\ -(xs.length:Int)<=i/\i<xs.length:=by
 unfold gR at h;cases e:jq xs.length i with
 |none=>rw[e] at h;cases h
 |some j=>
  rw[e] at h;obtain⟨h1,h2,h3,h4⟩:=Tw e;exact⟨j,h1,h,h2,h3,h4⟩
def Jc{α:Type}{xs:List α}{j:Nat}{v:α}(h:xs[j]? = some v):gR xs (j:Int)=some v:=by
 have hj:=(QX.mp h).1;have e:jq xs.length j=some j:=by
  unfold jq;rw[XZ<|by omega,XZ<|by omega];simp
 unfold gR;rw[e];exact h
def Kk(xs:List α)(v:α):gR (xs++[v]) (-1)=some v:=by
 have hl:(xs++[v]).length=xs.length+1:=by simp
 have e:jq (xs++[v]).length (-1)=some xs.length:=by
  unfold jq;rw[XY<|by decide,XZ<|by omega]
  congr 1
  omega
 unfold gR;rw[e];simp
def IL(b:JO):Prop:=∀o i,subscripted b false o i=operate [o,i] (XA o i)
def jd(X:Cx)(r:R2):Prop:=
 ∀(value slice:JO)(XI:List (Xb×Xp))(s:Xe)(σ:St)(H:Hp)(x y:V)(v u:Xc)(Q:VK),Inv X XI σ H s->RelV x v->RelV y u->r x y H Q ->
  subscripted slice false v u=operate [v,u] (XA v u)->Xh (Xg X.prog X.w) X.A (subscriptTail value slice v u) (EP X XI σ Q) X.xe s
def w4(X:Cx)(id:String)(r:V->List V->Hp->VK->Prop):Prop:=
 ∀(XI:List (Xb×Xp))(s:Xe)(σ:St)(H:Hp)(x:V)(xs:List V)(v:Xc)(us:List Xc)(Q:VK),Inv X XI σ H s->RelV x v->ah xs us->r x xs H Q ->
  Xh (Xg X.prog X.w) X.A (call (.builtin id) (v::us)) (EP X XI σ Q) X.xe s
section
variable{X:Cx}{a b:JO}{ta tb:TE}{pos:Pos}
def fm(hr:jd X r)(ha:PE X a ta)(hb:PE X b tb)(hs:IL b):PE X (.Subscript a b pos) (ji r ta tb):=by
 intro XI s σ H Q I h;exact MA<|Ms ha hb I h λv u s2 x y H2 I2 rx ry q=>hr a b XI s2 σ H2 x y v u Q I2 rx ry q<|hs _ _
def DZ(K:Qa):R2:=λx y H Q=>∃p xs i v,x=.ref p/\y=.int i/\aA K H p xs/\gR xs i=some v/\Q v H
def QD7(K:Qa):R2:=λx y H Q=>∃p xs i v,x=.ref p/\y=.int i/\aP K H p xs/\gR xs i=some v/\Q v H
def Yn:jd X (DZ X.K):=by
 intro value slice XI s σ H x y v u Q I rx ry h hs;obtain⟨p,xs,i,z,rfl,rfl,hq,he,q⟩:=h;cases rx;obtain⟨t,rfl⟩:=ry;obtain⟨its,r,pl,hz⟩:=I.list hq;obtain⟨j,h1,h2,h3,h4,h5⟩:=IM he;obtain⟨w,ew,g8⟩:=r.get h2;have hl:=r.length;have hn:=vP;have fin:EP X XI σ Q w s:=⟨z,H,I,g8,q⟩;by_cases h0:0<=i
 ·have hj:i.toNat=j:=by
   rw[BF h0 h5] at h1;exact QF h1
  exact item_listR pl.isList h0 (by omega) (by rw[hj];simpa using ew) fin hs
 ·have hj:(i+its.toArray.size).toNat=j:=by
   rw[B8 (by omega) h4] at h1;rw[Qk,<- hl];exact QF h1
  exact R1 pl.isList.typeIs QB8.lookup
   (R4 pl.isList (by omega) (by rw[Qk]<;>omega) (by omega) (by rw[hj];simpa using ew) ⟨rfl,fin⟩) hs
def tP:jd X (QD7 X.K):=by
 intro value slice XI s σ H x y v u Q I rx ry h hs;obtain⟨p,xs,i,z,rfl,rfl,hq,he,q⟩:=h;cases rx;obtain⟨t,rfl⟩:=ry;obtain⟨its,r,pl,hz⟩:=I.tuple hq;obtain⟨j,h1,h2,h3,h4,h5⟩:=IM he;obtain⟨w,ew,g8⟩:=r.get h2;have hl:=r.length;have hn:=vP;have fin:EP X XI σ Q w s:=⟨z,H,I,g8,q⟩;exact R1 pl.typeIs slot_tuple_getitem.lookup
  (getItem_tuple pl (by omega) (by omega) (by rw[Qk,<- hl];exact h1) (by simpa using ew) ⟨rfl,fin⟩) hs
def QlR(its:List Xc)(n j:Nat)(u:Xc):ZO (·.setIfInBounds j u) { cls:=.type "list",data:=.seq its.toArray n }={ cls:=.type "list",data:=.seq (its.set j u).toArray n }:=by
 simp[ZO]
def Inv.lst(I:Inv X XI σ H s)(h:H p=some (.lst xs)) :
  ∃(its:List Xc)(n:Nat),ah xs its/\s.heap.get? p=some { cls:=.type "list",data:=.seq its.toArray n }/\xs.length<=Xj:=by
 obtain⟨z,its,n,r,e⟩:=I.au p _ h;exact⟨its,n,r,e,z⟩
def Inv.r_{its:List Xc}(I:Inv X XI σ H s)(h:H p=some (.lst xs))
  (ho:s.heap.get? p=some { cls:=.type "list",data:=.seq its.toArray n })(hf:f { cls:=.type "list",data:=.seq its.toArray n }={ cls:=.type "list",data:=.seq fI.toArray n' })(r:ah ys fI)(hz:ys.length<=Xj)(t:Nat) :
  Inv X XI σ (upd H p<|.lst ys) { s with heap:=s.heap.update p f,toks:=t }:=by
 have e:(s.heap.update p f).get? p=some { cls:=.type "list",data:=.seq fI.toArray n' }:=by
  rw[J7 f ho (by rw[hf]<;>rfl),hf]
 refine I.write (by rw[h];trivial) (.inl rfl) (λb u hb q=>(Zh _ _<|ir hb).trans q) ⟨_,e⟩ ?_
 exact⟨hz,fI,n',r,e⟩
def Hk:V->V->V->Hp->(Hp->Prop)->Prop:=λo i v H Q=>∃p xs k j,o=.ref p/\i=.int k/\H p=some (.lst xs)/\jq xs.length k=some j/\Q (upd H p<|.lst<|xs.set j v)
def CF:Mp X Hk:=by
 intro XI s σ H o i v ov iv u Q I ro ri rv h;obtain⟨p,xs,k,j,rfl,rfl,hp,hj,q⟩:=h;cases ro;obtain⟨t,rfl⟩:=ri;obtain⟨its,n,r,ho,hz⟩:=I.lst hp;obtain⟨h1,h2,h3,h4⟩:=Tw hj;have hl:=r.length;have hn:=vP;have I':=
  I.r_ hp ho (QlR its n j u) (r.set rv j) (by rw[ZJ];exact hz) s.toks
 by_cases h0:0<=k
 ·have hk:k.toNat=j:=by
   rw[BF h0 h4] at h1;exact QF h1
  exact PySem.W.ki_setAt ho h0 (by omega) (by rw[Qk,<- hl];exact h4) (by rw[hk];exact⟨_,I',q⟩)
 ·have hk:(k+its.toArray.size).toNat=j:=by
   rw[B8 (by omega) h3] at h1;rw[Qk,<- hl];exact QF h1
  exact PySem.W.ki_setBack ho (by omega) (by rw[Qk,<- hl];exact h3) (by omega) (by rw[hk];exact⟨_,I',q⟩)
def QhY(lo hi:Option Int)(n:Nat):(sliceBounds lo hi none n).1=((HT.aX n 0 lo:Nat):Int)/\(sliceBounds lo hi none n).2.1=((HT.aX n n hi:Nat):Int)/\(sliceBounds lo hi none n).2.2=1:=by
 refine⟨?_,?_,rfl⟩
 ·cases lo with
  |none=>simp[sliceBounds,HT.aX]
  |some i=>
   simp only[sliceBounds,HT.aX,Ti,show 1 > 0 by decide];by_cases h:i<0
   ·simp only[h,if_true]<;>omega
   ·simp only[h,if_false]<;>omega
 ·cases hi with
  |none=>simp[sliceBounds,HT.aX]
  |some i=>
   simp only[sliceBounds,HT.aX,Ti,show 1 > 0 by decide];by_cases h:i<0
   ·simp only[h,if_true]<;>omega
   ·simp only[h,if_false]<;>omega
def QgS(its:List Xc)(lo hi:Option Int):slicePick its.toArray lo hi none=((its.drop<|HT.aX its.length 0 lo).take<|HT.aX its.length its.length hi - HT.aX its.length 0 lo).toArray:=by
 obtain⟨h1,h2,h3⟩:=QhY lo hi its.toArray.size;unfold slicePick;rw[h1,h2,h3];simp only[sliceRange_one,pick_run]<;>rfl
def QEN(K:Qa):V->Option Int->Option Int->Hp->VK->Prop:=λx lo hi H Q=>∃a xs,x=.ref a/\aA K H a xs/\∀p,H p=none->Q (.ref p) (upd H p<|.lst<|kz xs lo hi)
def Qvx:mY X (QEN X.K):=by
 intro XI s σ H x v vl vu lo hi sl Q I rx hs pl pu h;obtain⟨a,xs,rfl,hx,q⟩:=h;cases rx;obtain⟨its,r,ht,hz⟩:=I.list hx;have hlen:=r.length;refine⟨"list",_,QB8.lookup,ht.isList.typeIs,(wpAny_getItem_list_slice ht.isList hs pl pu .none (by simp) ?_ (by rw[Qk]<;>omega))⟩;rw[QgS,<- hlen];refine⟨.ref s.heap.objs.size,_,I.laid (λb ob q=>Qe _ q) (Qf _) ?_,rfl,q _<|I.au.fresh<|Qf _⟩;exact⟨QQ (Qfz xs lo hi) hz,_,0,(r.drop<|HT.aX xs.length 0 lo).take<|HT.aX xs.length xs.length hi - HT.aX xs.length 0 lo,Qo _ rfl⟩
def o5:V->Bool
 |.aL=>true
 |.bl _=>true
 |.int _=>true
 |.str _=>true
 |_=>false
def qw:V->V->Bool
 |.aL,.aL=>true
 |.bl a,.bl b=>a == b
 |.bl a,.int b=>(if a then 1 else 0) == b
 |.int a,.bl b=>a == (if b then 1 else 0)
 |.int a,.int b=>a == b
 |.str a,.str b=>a == b
 |_,_=>false
def QAT(ry:RelV y u)(rx:RelV x v)(fy:o5 y=true)(fx:o5 x=true):Hv A s u v (qw y x):=by
 cases y with
 |aL=>
  cases ry;cases x with
  |aL=>cases rx;exact SeqAt.EqAt.same _
  |bl b=>cases rx;exact SeqAt.EqAt.none_bool b
  |int b=>obtain⟨t,rfl⟩:=rx;exact SeqAt.EqAt.none_int b t
  |str b=>obtain⟨t,rfl⟩:=rx;exact SeqAt.EqAt.none_str b t
  |_=>exact X5 (fx) Qx
 |bl a=>
  cases ry;cases x with
  |aL=>cases rx;exact SeqAt.EqAt.bool_none a
  |bl b=>cases rx;exact LU a b
  |int b=>obtain⟨t,rfl⟩:=rx;exact SeqAt.EqAt.bool_int a b t
  |str b=>obtain⟨t,rfl⟩:=rx;exact SeqAt.EqAt.bool_str a b t
  |_=>exact X5 (fx) Qx
 |int a=>
  obtain⟨t',rfl⟩:=ry;cases x with
  |aL=>cases rx;exact SeqAt.EqAt.int_none a t'
  |bl b=>cases rx;exact SeqAt.EqAt.int_bool a t' b
  |int b=>obtain⟨t,rfl⟩:=rx;exact SeqAt.EqAt.int_int a t' b t
  |str b=>obtain⟨t,rfl⟩:=rx;exact WJ a t' b t
  |_=>exact X5 (fx) Qx
 |str a=>
  obtain⟨t',rfl⟩:=ry;cases x with
  |aL=>cases rx;exact SeqAt.EqAt.str_none a t'
  |bl b=>cases rx;exact SeqAt.EqAt.str_bool a t' b
  |int b=>obtain⟨t,rfl⟩:=rx;exact WK a t' b t
  |str b=>obtain⟨t,rfl⟩:=rx;exact SeqAt.EqAt.str_str a t' b t
  |_=>exact X5 (fx) Qx
 |_=>exact X5 (fy) Qx
def iW(x:V)(u:Xc):Bool:=match u with
 |.none=>qw .aL x
 |.bool b=>qw (.bl b) x
 |.int i _=>qw (.int i) x
 |.str z _=>qw (.str z) x
 |_=>false
def RA(r:RelV y u)(f:o5 y=true):iW x u=qw y x:=by
 cases y with
 |aL=>cases r;rfl
 |bl b=>cases r;rfl
 |int i=>obtain⟨t,rfl⟩:=r;rfl
 |str z=>obtain⟨t,rfl⟩:=r;rfl
 |_=>exact X5 (f) Qx
def zo:∀{xs:List V}{us:List Xc},ah xs us->xs.all o5=true->us.any (iW x)=xs.any λy=>qw y x
 |_,_,.nil,_=>rfl
 |y::xs,u::us,.cons r t,f=>by
  rw[zJ,Jp] at f;rw[wN,wN,RA r f.1,zo t f.2]
def zH(rx:RelV x v)(fx:o5 x=true):∀{xs:List V}{us:List Xc},ah xs us->xs.all o5=true->∀u∈us,Hv A s u v (iW x u)
 |_,_,.nil,_=>λu hu=>by cases hu
 |y::xs,u::us,.cons r t,f=>λu' hu=>by
  rw[zJ,Jp] at f;rcases Qv.mp hu with rfl | hu
  ·rw[RA r f.1];exact QAT r rx f.1 fx
  ·exact zH rx fx t f.2 u' hu
def qd(x:V)(xs:List V):Bool:=xs.any λy=>qw y x
def xy(K:Qa)(neg:Bool):R2:=λx y H Q=>∃p xs,y=.ref p/\(aA K H p xs∨aP K H p xs)/\o5 x=true/\xs.all o5=true/\Q (.bl<|if neg then !qd x xs else qd x xs) H
def Wn:aK X (Xm .In) (xy X.K false):=by
 intro XI s σ H x y v u Q I rx ry h;obtain⟨p,xs,rfl,hq,fx,fs,q⟩:=h;cases ry;rcases hq with hq | hq
 ·obtain⟨its,r,pl,hz⟩:=I.list hq;refine RJ (iW x) pl.isList (λw hw=>zH rx fx r fs w<|by simpa using hw) ⟨.bl _,H,I,rfl,?_⟩;rw[show its.toArray.any (iW x)=its.any (iW x) by simp,zo r fs];exact q
 ·obtain⟨its,r,pl,hz⟩:=I.tuple hq;refine RZ (iW x) pl (λw hw=>zH rx fx r fs w<|by simpa using hw) ⟨.bl _,H,I,rfl,?_⟩;rw[show its.toArray.any (iW x)=its.any (iW x) by simp,zo r fs];exact q
def Qie:aK X (Xm .NotIn) (xy X.K true):=by
 intro XI s σ H x y v u Q I rx ry h;obtain⟨p,xs,rfl,hq,fx,fs,q⟩:=h;cases ry;rcases hq with hq | hq
 ·obtain⟨its,r,pl,hz⟩:=I.list hq;refine SY (iW x) pl.isList (λw hw=>zH rx fx r fs w<|by simpa using hw) ⟨.bl _,H,I,rfl,?_⟩;rw[show its.toArray.any (iW x)=its.any (iW x) by simp,zo r fs];exact q
 ·obtain⟨its,r,pl,hz⟩:=I.tuple hq;refine UE (iW x) pl (λw hw=>zH rx fx r fs w<|by simpa using hw) ⟨.bl _,H,I,rfl,?_⟩;rw[show its.toArray.any (iW x)=its.any (iW x) by simp,zo r fs];exact q
def Zx:aF X (.builtin "len") (λxs H Q=>∃p ys,xs=[.ref p]/\(aA X.K H p ys∨aP X.K H p ys)/\Q (.int ys.length) H):=by
 intro XI s σ H xs us Q I r h;obtain⟨p,ys,rfl,hq,q⟩:=h;obtain⟨u,rfl,rx⟩:=vals1 r;cases rx;have hn:=vP;rcases hq with hq | hq
 ·obtain⟨its,r',pl,hz⟩:=I.list hq;have hlen:=r'.length;exact Calls.call_len_list pl.isList (by simp only[Qk]<;>omega) ⟨.int ys.length,H,I.tok _,⟨s.toks+1,by rw[Qk,hlen]⟩,q⟩
 ·obtain⟨its,r',pl,hz⟩:=I.tuple hq;have hlen:=r'.length;exact len_tuple pl (by simp only[Qk]<;>omega) ⟨.int ys.length,H,I.tok _,⟨s.toks+1,by rw[Qk,hlen]⟩,q⟩
def QiF:aF X (.type "list") (λxs H Q=>∃p ys,xs=[.ref p]/\(aA X.K H p ys∨aP X.K H p ys)/\∀l,H l=none->Q (.ref l) (upd H l<|.lst ys)):=by
 intro XI s σ H xs us Q I r h;obtain⟨p,ys,rfl,hq,q⟩:=h;obtain⟨u,rfl,rx⟩:=vals1 r;cases rx;have fin:∀(its:List Xc),ah ys its->ys.length<=Xj->∀(h':Xl)(c':Nat),(∀b o',s.heap.get? b=some o'->h'.get? b=some o') ->
   h'.get? s.heap.objs.size=some { cls:=.type "list",dict:=none,data:=.seq its.toArray c',slots:=#[] }->EP X XI σ Q (.ref s.heap.objs.size) { s with heap:=h' }:=λits r' hz h' c' kp e=>
  ⟨.ref s.heap.objs.size,_,I.laid kp (Qf _)<|show aO X.prog X.w _ h' _ (.lst ys) from⟨hz,its,c',r',e⟩,rfl,q _<|I.au.fresh<|Qf _⟩
 rcases hq with hq | hq
 ·obtain⟨its,r',pl,hz⟩:=I.list hq;have hlen:=r'.length;obtain⟨o,ho,hc,n,hd⟩:=pl.isList;exact call_list_seq p (.inl rfl) ho hc hd (λh' c' kp e=>fin its r' hz h' c' kp e) (by simp only[Qk]<;>omega)
 ·obtain⟨its,r',pl,hz⟩:=I.tuple hq;have hlen:=r'.length;obtain⟨o,ho,hc,n,hd⟩:=pl;exact call_list_seq p (.inr rfl) ho hc hd (λh' c' kp e=>fin its r' hz h' c' kp e) (by simp only[Qk]<;>omega)
def L8:aF X (.type "tuple") (λxs H Q=>∃p ys,xs=[.ref p]/\((aA X.K H p ys/\∀l,H l=none->Q (.ref l) (upd H l<|.tup ys))∨(aP X.K H p ys/\Q (.ref p) H))):=by
 intro XI s σ H xs us Q I r h;obtain⟨p,ys,rfl,h⟩:=h;obtain⟨u,rfl,rx⟩:=vals1 r;cases rx;rcases h with⟨hq,q⟩ | ⟨hq,q⟩
 ·obtain⟨its,r',pl,hz⟩:=I.list hq;have hlen:=r'.length;refine call_tuple_list pl.isList (λh' kp=>?_) (by simp only[Qk]<;>omega);have I1:=I.kept (t':=s.toks) kp;have I2:=
   I1.laid (t':=s.toks) (λb o e=>Qe _ e) (Qf _) (show aO X.prog X.w _ _ _ (.tup ys) from⟨hz,its,r',dQ.new _ _⟩)
  exact⟨.ref h'.objs.size,_,I2,rfl,q _<|I1.au.fresh<|Qf _⟩
 ·obtain⟨its,r',pl,hz⟩:=I.tuple hq;exact call_tuple_same pl ⟨.ref p,H,I,rfl,q⟩
def Ej(K:Qa)(T:String)(x:V)(H:Hp):Prop:=match x with
 |.str _=>T = "str"
 |.int _=>T = "int"
 |.ref p=>(T = "list" /\ ∃xs,aA K H p xs)∨(T = "tuple" /\ ∃o,K.lookup p=some o/\o.cls=.type "tuple" /\ o.dict=none) ∨
   (T = "dict" /\ ((∃kvs,H p=some (.dK kvs))∨∃kvs,H p=some (.dT kvs)))∨(T = "set" /\ ∃S n,H p=some (.set S n))
 |_=>False
def RS(I:Inv X XI σ H s)(r:RelV x v)(ty:Ej X.K T x H) :
  s.TypeIs v T/\∀a,v=.ref a->∃ob,s.heap.get? a=some ob/\ob.dict=none:=by
 cases x with
 |str z=>
  obtain⟨t,rfl⟩:=r;cases(ty);exact⟨By s z t,λ_ e=>nomatch e⟩
 |int i=>
  obtain⟨t,rfl⟩:=r;cases(ty);exact⟨MK s i t,λ_ e=>nomatch e⟩
 |ref p=>
  cases r;rcases ty with⟨rfl,xs,hq⟩ | ⟨rfl,o,hk,hc,hd⟩ | ⟨rfl,hk⟩ | ⟨rfl,S,n,hk⟩
  ·obtain⟨its,_,pl,_⟩:=I.list hq;refine⟨pl.isList.typeIs,λa e=>?_⟩;cases e;obtain⟨o,n,e,c,hd,_⟩:=pl;exact⟨o,e,hd⟩
  ·refine⟨⟨o,I.bP p o hk,hc⟩,λa e=>?_⟩;cases e;exact⟨o,I.bP _ o hk,hd⟩
  ·have z:∃o,s.heap.get? p=some o/\o.ExactDict:=by
    rcases hk with⟨kvs,hk⟩ | ⟨kvs,hk⟩
    ·obtain⟨_,_,_,_,o,_,_,e,ex,_⟩:=I.au p _ hk;exact⟨o,e,ex⟩
    ·obtain⟨_,_,_,_,o,_,_,e,ex,_⟩:=I.au p _ hk;exact⟨o,e,ex⟩
   obtain⟨o,e,ex⟩:=z;refine⟨⟨o,e,ex.1⟩,λa e2=>?_⟩;cases e2;exact⟨o,e,ex.2.1⟩
  ·obtain⟨o,_,_,_,e,ex,_⟩:=I.au p _ hk;refine⟨⟨o,e,ex.1⟩,λa e2=>?_⟩;cases e2;exact⟨o,e,ex.2.1⟩
 |_=>exact Q9 ty
def QEJ(K:Qa)(T:String)(r:V->List V->Hp->VK->Prop)(to:TE):TE:=λσ H Q=>to σ H λx H1=>Ej K T x H1/\r x [] H1 Q
def Ew(K:Qa)(T:String)(r:V->List V->Hp->VK->Prop)(to:TE)(t:TA):TE:=λσ H Q=>to σ H λx H1=>Ej K T x H1/\t σ H1 λxs H2=>r x xs H2 Q
variable{o e:JO}{es:List JO}{to:TE}{t:TA}{name:Str}{apos XJ:Pos}{T id:String}{r:V->List V->Hp->VK->Prop}
def HN(pa:PlainAttrs T)(slot:Slot T name id)(FD:typeOf (.builtin id)=pure (.type "method_descriptor"))(hm:w4 X id r)(ho:PE X o to)
  (fg:attributeBase o name X.env (eval o X.env)=eval o X.env:=by rfl)(fe:(apos.endLine == XJ.line)=true:=by rfl):PE X (.Call (.Attribute o name apos) [] [] XJ) (QEJ X.K T r to):=by
 intro XI s σ H Q I h;refine wpAny_Call_method0_late fg fe<|ax (ho XI s σ H _ I h) λv s1 ⟨x,H1,I1,r1,ty,q1⟩=>?_;obtain⟨h1,h2⟩:=RS I1 r1 ty;exact⟨T,id,pa,slot,FD,h1,h2,V9 rfl<|PySem.evalArgs_none<|hm XI s1 σ H1 x [] v [] Q I1 r1 .nil q1⟩
def i6(pa:PlainAttrs T)(slot:Slot T name id)(FD:typeOf (.builtin id)=pure (.type "method_descriptor"))(hm:w4 X id r)(ho:PE X o to)(ha:PA X (e::es) t)
  (fg:attributeBase o name X.env (eval o X.env)=eval o X.env:=by rfl)
  (lj:((Xq XJ<|Xi (e::es) X.env).all (λx => !x.1)&&(Xz XJ<|Xy [] X.env).all (λx=>x.1.isSome)
   && decide ((e::es).length+([]:List tz).length+(if([]:List tz).isEmpty then 0 else 1)<30))=true:=by rfl)
  (fe:(apos.endLine == XJ.line)=true:=by rfl) (hs:Xi (e::es) X.env=(false,eval e X.env)::Xi es X.env:=by rfl) (sr:(Xq XJ<|Xi es X.env).any (·.1)=false:=by rfl) :
  PE X (.Call (.Attribute o name apos) (e::es) [] XJ) (Ew X.K T r to t):=by
 intro XI s σ H Q I h;refine wpAny_Call_method_late fg lj fe rfl<|ax (ho XI s σ H _ I h) λv s1 ⟨x,H1,I1,r1,ty,q1⟩=>?_;obtain⟨h1,h2⟩:=RS I1 r1 ty;refine⟨T,id,pa,slot,FD,h1,h2,?_⟩;have hA:=ha XJ XI s1 σ H1 _ I1 q1;rw[hs] at hA ⊢;refine V9 (by show(false||(Xq XJ<|Xi es X.env).any (·.1))=false;rw[sr]<;>rfl)<|UJ ?_;exact ax hA λus s2 ⟨vs,H2,I2,r2,q2⟩=>hm XI s2 σ H2 x vs v us Q I2 r1 r2 q2
end
end L2


namespace L2
def MM(X:Cx)(id:String)(r:V->List V->Hp->VK->Prop):Prop:=
 ∀(XI:List (Xb×Xp))(s:Xe)(σ:St)(H:Hp)(x:V)(xs:List V)(v:Xc)(us:List Xc)(Q:VK),Inv X XI σ H s->RelV x v->ah xs us->r x xs H Q ->
  Xh (Xg X.prog X.w) X.A (call (.builtin id) (v::us)) (EP X XI σ Q) X.xe s
def ah.one(h:ah [x] us):∃u,us=[u]/\RelV x u:=vals1 h
def ah.zero:∀{us:List Xc},ah [] us->us=[]
 |_,.nil=>rfl
def ah.dropLast(h:ah xs us):ah xs.dropLast us.dropLast:=by
 induction h with
 |nil=>exact .nil
 |cons r t ih=>
  cases t with
  |nil=>exact .nil
  |cons q t'=>exact .cons r ih
def ah.rep(h:ah xs us):∀k:Nat,ah (Q8 k xs).flatten (Q8 k us).flatten
 |0=>.nil
 |k+1=>by
  exact ah.append h<|ah.rep h k
def Ql0(l:List α):l.eraseIdx (l.length - 1)=l.dropLast:=by
 induction l with
 |nil=>rfl
 |cons a r ih=>
  cases r with
  |nil=>rfl
  |cons b r=>
   have e:(a::b::r).length - 1=((b::r).length - 1)+1:=by
    have h1:(a::b::r).length=r.length+2:=rfl;have h2:(b::r).length=r.length+1:=rfl;omega
   rw[e,List.eraseIdx_cons_succ,ih]
   all_goals rfl
def foldl_rep(its:List Xc):∀(k:Nat)(acc:List Xc),
  List.foldl (λx1 x2=>x1++x2) acc.toArray (Q8 k its.toArray)=(acc++(Q8 k its).flatten).toArray
 |0,acc=>by simp
 |k+1,acc=>by
  have e:acc.toArray++its.toArray=(acc++its).toArray:=by simp
  have e2:(acc++its)++(Q8 k its).flatten=acc++(Q8 (k+1) its).flatten:=by
   rw[Yb,Ll,Lk]
  rw[<- e2,<- foldl_rep its k (acc++its),<- e,Yb,O9]
section
variable{X:Cx}{XI:List (Xb×Xp)}{σ:St}{H:Hp}{s:Xe}{l b:Xb}{xs ys zs:List V}
def Inv.sf{its:List Xc}(I:Inv X XI σ H s)(hH:H l=some (.lst xs))
  (e:s.heap.get? l=some { cls:=.type "list",data:=.seq its.toArray n })(hf:f its.toArray=fI.toArray)(hv:ah ys fI)(hz:ys.length<=Xj) :
  Inv X XI σ (upd H l<|.lst ys) { s with heap:=s.heap.update l<|ZO f,toks:=t' }:=by
 have q:=PySem.IsL.update e f;rw[hf] at q;refine I.write (by rw[hH];exact trivial) (.inl rfl) (λb' u hb hu=>(Zh s.heap (ZO f)<|ir hb).trans hu) ⟨_,q⟩ ?_
 exact⟨hz,fI,_,hv,q⟩
def Inv.jP(I:Inv X XI σ H s)(hv:ah ys its)(hz:ys.length<=Xj) :
  Inv X XI σ (upd H s.heap.objs.size<|.lst ys) { s with heap:=s.heap.push { cls:=.type "list",data:=.seq its.toArray },toks:=t' }:=
 I.laid (λ_ _ q=>Qe _ q) (Qf _) ⟨hz,its,0,hv,Qo _ rfl⟩
def Inv.fresh(I:Inv X XI σ H s):H s.heap.objs.size=none:=I.au.fresh<|Qf _
def Inv.bF(I:Inv X XI σ H s)(hH:H l=some (.lst xs)):xs.length<=Xj/\∃(its:List Xc)(n:Nat),ah xs its/\xs.length=its.length/\s.heap.get? l=some { cls:=.type "list",data:=.seq its.toArray n }:=by
 obtain⟨z,its,n,r,e⟩:=I.au l _ hH;exact⟨z,its,n,r,r.length,e⟩
def Qsm(h:n<=Xj):QeV n=false:=by
 exact X0 (by omega)
end
section
variable{X:Cx}
def Uc:V->List V->Hp->VK->Prop:=λx vs H Q=>∃l xs y,x=.ref l/\vs=[y]/\H l=some (.lst xs)/\xs.length<Xj/\Q .aL (upd H l<|.lst<|xs++[y])
def C3:MM X "list.append" Uc:=by
 intro XI s σ H x vs v us Q I rx rv h;obtain⟨l,xs,y,rfl,rfl,hH,hz,q⟩:=h;cases rx;obtain⟨u,rfl,ru⟩:=rv.one;obtain⟨z,its,n,r,hl,e⟩:=I.bF hH;refine nP F.slot_list_append ⟨_,e,rfl⟩ F.entry_list_append (F.args_list_append_2 _ _) (PySem.list_append l its.toArray n u (by rw[Qk];omega)) ⟨e,?_⟩;refine⟨.aL,_,I.sf hH e (by simp) (r.append<|.cons ru .nil) ?_,rfl,q⟩;rw[Qg,List.length_singleton];omega
def QEP:V->List V->Hp->VK->Prop:=λx vs H Q=>∃l xs y,x=.ref l/\vs=[]/\H l=some (.lst xs)/\xs[xs.length - 1]? = some y/\Q y (upd H l<|.lst xs.dropLast)
def HD:MM X "list.pop" QEP:=by
 intro XI s σ H x vs v us Q I rx rv h;obtain⟨l,xs,y,rfl,rfl,hH,hy,q⟩:=h;cases rx;have hus:=rv.zero;subst hus;obtain⟨z,its,n,r,hl,e⟩:=I.bF hH;obtain⟨u,hu,ru⟩:=r.get hy;have hy':its.toArray[its.toArray.size - 1]? = some u:=by
  show its.toArray[its.length - 1]? = some u;rw[<- Dz,<- hl];exact hu
 refine nP F.slot_list_pop ⟨_,e,rfl⟩ F.entry_list_pop (F.args_list_pop_1 _) (MeetsSeq.list_pop_last l its.toArray n u hy' (by rw[Qk];omega)) ⟨e,?_⟩;refine⟨y,_,I.sf hH e ?_ r.dropLast ?_,ru,q⟩
 ·rw[Qk,List.eraseIdxIfInBounds_toArray,Ql0]
 ·rw[Uy];omega
def QEc:R2:=λx y H Q=>∃l b xs zs,x=.ref l/\y=.ref b/\H l=some (.lst xs)/\H b=some (.lst zs)/\xs.length+zs.length<=Xj/\∀p,H p=none->Q (.ref p) (upd H p<|.lst<|xs++zs)
def P0:aK X (Xr .Add) QEc:=by
 intro XI s σ H x y v u Q I rx ry h;obtain⟨l,b,xs,zs,rfl,rfl,hH,hB,hz,q⟩:=h;cases rx;cases ry;obtain⟨z,its,n,r,hl,e⟩:=I.bF hH;obtain⟨z2,hV,n2,r2,vp,e2⟩:=I.bF hB;refine PySem.P.add_list e e2 ?_ (by rw[Qk,Qk];omega)
 have ea:its.toArray++hV.toArray=(its++hV).toArray:=by simp
 rw[ea];exact⟨.ref _,_,I.jP (r.append r2) (by rw[Qg];omega),rfl,q _ I.fresh⟩
def QD4:R2:=λx y H Q=>∃l k xs,x=.ref l/\y=.int k/\H l=some (.lst xs) /\ -(2^63)<=k/\k<2^63/\xs.length*k.toNat<=Xj /\
 ∀p,H p=none->Q (.ref p) (upd H p<|.lst (Q8 k.toNat xs).flatten)
def Qxm(xs:List α)(k:Nat):(Q8 k xs).flatten.length=k*xs.length:=by
 induction k with
 |zero=>simp
 |succ k ih=>rw[Yb,Ll,Qg,ih,Cp,Nat.add_comm]
def Qz2:aK X (Xr .Mult) QD4:=by
 intro XI s σ H x y v u Q I rx ry h;obtain⟨l,k,xs,rfl,rfl,hH,h1,h2,hz,q⟩:=h;cases rx;obtain⟨t,rfl⟩:=ry;obtain⟨z,its,n,r,hl,e⟩:=I.bF hH;have hlen:its.toArray.size*k.toNat<=Xj:=by rw[Qk,<- hl];exact hz
 have F0:¬its.toArray.size*k.toNat > (2^63 - 1) / 8:=by
  have:Xj<=(2^63 - 1) / 8:=by decide
  omega
 have FT:¬(!Builtin.List.listFitsIndex k)=true:=by
  rw[fitsIndex_both h1 h2];exact Qx
 have ye:¬QeV (its.toArray.size*k.toNat)=true:=by
  rw[Qsm hlen];exact Qx
 have FK:List.foldl (λx1 x2=>x1++x2) #[] (Q8 (if its.toArray.isEmpty=true then 0 else k.toNat) its.toArray)=(Q8 k.toNat its).flatten.toArray:=by
  have f0:=λm=>by
   have:=foldl_rep its m [];rw[List.nil_append] at this;exact this
  rw[f0];cases its with
  |nil=>simp
  |cons a r'=>rw[XY<|by simp]
 refine wpAny_binaryOp_repeat_ref (by decide) ⟨_,e,rfl⟩ (λs'=>MK s' k t) noFill_list_mul F.fills_int_mul QCp repeat_list F.slot_int_index.lookup
  (nP QCp (MK s k t) F.entry_int_rmul (F.args_int_rmul_2 _ _) (int___rmul___int_list k t l its.toArray n)
   ⟨e,rfl,⟨_,e,rfl⟩,nP F.slot_list_mul ⟨_,e,rfl⟩ F.entry_list_mul (F.args_list_mul_2 _ _) (AutoListH.list___mul___list_int_3 l its.toArray n k t FT F0 ye) ⟨e,?_⟩⟩)
 rw[FK];exact⟨.ref _,_,I.jP (r.rep k.toNat) (by rw[Qxm,Nat.mul_comm];exact hz),rfl,q _ I.fresh⟩
end
end L2
namespace Att
open PySem.W PySem.Calls
def Qfp:∀(ns:List Int)(vs:List Xc),WellAll P h vs (ns.map WData.int)->nC vs ns:=by
 intro ns;induction ns with
 |nil=>
  intro vs w;cases w;exact .nil
 |cons n ns ih=>
  intro vs w;cases w with
  |cons a b=>
   cases a;exact .cons _ _<|ih _ b
def Qna{l:OpenLaw}(hn:l.most=some n) 
  (oq:l.row.toRowW.claim.pre args=true)(FA:WellAll P h vals args) :
  ∃a vs ns,vals=[JM a]/\args=[WData.list<|ns.map WData.int]/\h.get? a=some { cls:=.type "list",data:=.seq vs.toArray }/\nC vs ns/\ns.length<=n:=by
 have hsh:=(pre_splitW oq).1;have hc:l.pre.holds [] { args:=args }=true:=(pre_splitW oq).2;obtain⟨d,r,rfl,h1,h2⟩:=hasAllW_cons hsh;obtain rfl:=hasAllW_nil h2;obtain⟨xs,rfl,h3⟩:=hasW_list h1;obtain⟨ns,rfl⟩:=items_int h3;have hlen:ns.length<=n:=by
  have h4:(WTm.not<|.lt (.lit<|.int n)<|.len<|.arg 0).holds [] { args:=[.list<|ns.map .int] }=true:=by
   have h4:=(holds_andW hc).1;rw[hn] at h4;exact h4
  have h5:=condW_of h4<|w_not<|w_lt w_lit<|w_len_list<|w_arg rfl;refine Nat.le_of_not_lt λq=>?_
  have q':n<(ns.length:Int):=by omega
  first
   |(rw[X1 q'] at h5;exact X5 h5<|by decide)
   |(simp at h5;omega)
 cases FA with
 |cons w1 w2=>
  cases w2;cases w1 with
  |list ho ls=>exact⟨_,_,ns,rfl,rfl,ho,Qfp ns _ ls,hlen⟩
def QnA(l:OpenLaw)(args:List WData):l.row.toRowW.claim.post args (.bool true) args=true:=
 postW_of
  (by first | rfl | decide | simp[WShape.arms])
  (w_eq_bool (w_res rfl) w_lit) rfl
def QjT{l:OpenLaw} 
  (hn:l.most=some n)(yj:d.params.defaults=[])
  (call:∀(w:Jf)(s₀ s₁:Xe)(mg mb:Str->Option Xc)(fa:Xb)(o:Xp)(pm cd doc:Xc)(a:Xb)(vs:List Xc)(ns:List Int),
   Ground q loose [] XP w s₀ mg mb s₁.heap->YP w s₁.heap ->
   s₁.heap.get? fa=some o->o.data=.func (docDef d.name d.params d.body d.scope pm cd doc)->s₁.heap.CodeRec cd d.name->mg d.name=some (.ref fa) ->
   s₁.heap.get? a=some { cls:=.type "list",data:=.seq vs.toArray }->nC vs ns->ns.length<=n->s₁.gens=#[] ->
   Xs (Xg l.prog w) callerA (.call (.ref fa) ⟨[.ref a],[]⟩) (λr s'=>r=.ok (.ret<|.bool true)/\OldK s₁.heap s'.heap/\s'.os=s₁.os/\nz s'.gens) s₁) :
  WalkO q loose XP YP l.row.toRowW d [] (λf vs=>Hu f vs):=by
 intro w s₀ s₁ mg mb G Y fa o pm cd doc dV kV ho hd bQ hD ya hg args vals as oq hlay hrd FA hlo;obtain rfl:dV=.none:=Dflts.none hD yj;obtain rfl:kV=.none:=Dflts.noKw hD;obtain⟨a,vs,ns,rfl,rfl,su,hints,hlen⟩:=Qna hn oq FA;refine enter_call<|YN (call w s₀ s₁ mg mb fa o pm cd doc a vs ns G Y ho (fd_plain hd) bQ ya su hints hlen hg) λr s' hq=>?_;obtain⟨rfl,h2,h3,h4⟩:=hq;exact⟨.inl ⟨.bool true,.bool true,[],rfl,λ_=>rfl,.bool true,QnA l _,λ_=>⟨QCm,λ_ hm=>(nomatch hm)⟩⟩,h2,h3,h4⟩
end Att
namespace L2
def WT:∀{vs:List Xc}{ns:List Int},nC vs ns->ah (ns.map V.int) vs
 |_,_,.nil=>.nil
 |_,_,.cons n t h=>.cons ⟨t,rfl⟩<|WT h
def Mm(H:Hp):Prop:=∀b,H b=none∨∃o xs,H b=some (.jt o<|.lst xs)
def QsB{K:Qa} 
  (KX:K.In s₁.heap)(AS:s₁.heap.Ns Xf mg)(hb:s₁.heap.Ns builtinsNs mb)(yo:∀x:Str,x ≠ "__name__" -> mb x=Xn x)(FO:s₁.heap.NoLimit)(hg:s₁.gens=#[])
  (ha:s₁.heap.get? a=some { cls:=.type "list",data:=.seq vs.toArray })(hi:nC vs ns)(hl:ns.length<=Xj)(hr:ao k callerA)
  (F:∀base:Xl,K.In base->base.Ns Xf mg->aI P w K mg base CX k fa fd [x] sp)(ym:∀(s:Xe)(u:Xc),o7 s fd ⟨[u],[]⟩ [(x,u)])
  (a8:∀H:Hp,Mm H->aA K H a (ns.map V.int)->sp [.ref a] H (λv _=>v=.bl true) λ_ _ _=>False)
  (F7:∀H e s',CX [] H s₁ (λ_ _ _=>False) e s'->False) :
  Xs (Xg P w) callerA (.call (.ref fa) ⟨[.ref a],[]⟩) (λr s'=>r=.ok (.ret<|.bool true)/\OldK s₁.heap s'.heap/\s'.os=s₁.os/\nz s'.gens) s₁:=by
 have rv:=WT hi;have Fs:=hi.length;have core:∀H:Hp,Mm H->aA K H a (ns.map V.int)->cz P w H s₁.heap->(∀b,H b≠none->b=a)->(H a≠none->K.lookup a=none) ->
   Xs (Xg P w) callerA (.call (.ref fa) ⟨[.ref a],[]⟩) (λr s'=>r=.ok (.ret<|.bool true)/\OldK s₁.heap s'.heap/\s'.os=s₁.os/\nz s'.gens) s₁:=by
  intro H hO hS au hA hK;have jA:∀{b:Xb}{o:Xp},s₁.heap.get? b=some o->H b=none->(qF s₁.heap H).get? b=some o:=λe n=>QsI e n
  have xG:∀{b:Xb}{o:Xp}{es:Array XH}{ep:Nat},s₁.heap.get? b=some o->o.data=.dict es ep->H b=none:=λ{b o es ep} e d=>by
   cases q:H b with
   |none=>rfl
   |some u=>
    have e':=hA b (by rw[q];simp);subst e';rw[ha] at e;cases e;have d':=d;cases d'
  have AI:∀{b:Xb}{m:Str->Option Xc},s₁.heap.Ns b m->(qF s₁.heap H).Ns b m:=λ{b m} ⟨o,es,ep,e,d,r⟩=>⟨o,es,ep,jA e<|xG e d,d,r⟩
  have N_:=λb o e=>jA (KX b o e) (by
   cases q:H b with
   |none=>rfl
   |some u=>
    have e':=hA b (by rw[q];simp);subst e';rw[hK (by rw[q];simp)] at e;cases e)
  have hM:Mod K mg (qF s₁.heap H):=⟨N_,AI AS,⟨mb,AI hb,yo⟩,let ⟨mc,h1,h2⟩:=FO;⟨mc,AI h1,h2⟩⟩;have e0:dE P w K mg (qF s₁.heap H) callerA [] s₁ H:=⟨rfl,hM,λb o e=>Qw1 e,zD<|Qov _ _,trivial,λb hb=>X5 (show b∈([]:List Xb) from hb)<|by simp,au,.of_eq hg⟩;refine YN ((F _ N_<|AI AS).run callerA [] s₁ H ⟨[.ref a],[]⟩ [.ref a] [.ref a] _ _ hr e0 (ym s₁<|.ref a) (.cons rfl .nil)<|a8 H hO hS) λr s' h=>?_
  cases r with
  |error e=>exact(F7 H e s' h).elim
  |ok fl=>
   cases fl with
   |next=>exact Q9 h
   |brk=>exact Q9 h
   |cont=>exact Q9 h
   |ret u=>
    obtain⟨v,H',os,bare,un,FI,r',q⟩:=h;have q':=q;subst q';obtain rfl:u=uu true:=r';refine⟨rfl,OldK.of_keep λb o e=>?_,os,bare⟩;cases q:H b with
    |none=>exact un.keep b o e q (by intro z;exact X5 (show b∈([]:List Xb) from z)<|by simp) (by simp)
    |some u=>
     rcases hO b with z | ⟨ob,xs,z⟩
     ·rw[q] at z;cases z
     ·have z2:=un.dz b ob _ z;obtain⟨e1,_⟩:=au b _ z;obtain⟨e2,_⟩:=FI b _ z2;rw[e] at e1;cases e1;exact e2
 cases hk:K.lookup a with
 |some o=>
  have e:=KX a o hk;rw[ha] at e;cases e;refine core (λ_=>none) (λ_=>.inl rfl) (.inr ⟨_,vs.toArray,_,hk,rfl,rfl,rfl,by rw[Qk,Fs];exact hl,by simpa using rv⟩) (λb u z=>by have z':=z;cases z') (λb z=>X5 rfl z) λz=>X5 rfl z
 |none=>
  refine core (λb=>if b=a then some (.jt { cls:=.type "list",data:=.seq vs.toArray } (.lst<|ns.map V.int)) else none) (λb=>?_) (.inl<|.inr ⟨{ cls:=.type "list",data:=.seq vs.toArray },XZ rfl⟩) (λb u z=>?_) (λb z=>?_) λ_=>hk
  ·by_cases hb:b=a
   ·exact .inr ⟨_,_,XZ hb⟩
   ·exact .inl<|XY hb
  ·by_cases hb:b=a
   ·have z':=(XZ hb).symm.trans z;cases z';subst hb;exact⟨ha,by rw[Qd];exact hl,vs,_,rv,ha⟩
   ·have z':=(XY hb).symm.trans z;cases z'
  ·by_cases hb:b=a
   ·exact hb
   ·exact X5 (XY hb) z
end L2


namespace L2
def Qvj{l:Lh}{K:Params->Qa}{CX:Jf->jg}{sp:Jf->Sp} 
  (hn:l.most=some n)(iV:n<=Xj)(yj:d.params.defaults=[])(hr:ao k callerA)
  (hY:∀(w:Jf)(h:Xl),YP w h->(K w.params).In h)
  (F:∀(w:Jf)(mg:Str->Option Xc)(fa:Xb)(h:Xl),(K w.params).In h->h.Ns Xf mg->mg d.name=some (.ref fa) ->
   ∃fd:Zs,(∀(s:Xe)(u:Xc),o7 s fd ⟨[u],[]⟩ [(x,u)]) /\
    ∀base:Xl,(K w.params).In base->base.Ns Xf mg->aI l.prog w (K w.params) mg base (CX w) k fa fd [x] (sp w))
  (a8:∀(w:Jf)(H:Hp)(a:Xb)(ns:List Int),ns.length<=n->Mm H->aA (K w.params) H a (ns.map V.int)->sp w [.ref a] H (λv _=>v=.bl true) λ_ _ _=>False)
  (F7:∀(w:Jf)(H:Hp)(s:Xe)(e:Xc)(s':Xe),CX w [] H s (λ_ _ _=>False) e s'->False) :
  RI q loose XP YP l.row.toRowW d [] (λf vs=>Hu f vs):=by
 refine Att.QjT hn yj λw s₀ s₁ mg mb fa o pm cd doc a vs ns G Y ho hd bQ ya su hints hlen hg=>?_
 have KX:=hY w _ Y;obtain⟨fd,hb,hF⟩:=F w mg fa _ KX G.T.g ya;exact QsB KX G.T.g G.T.b G.T.builtins G.T.nolimit hg su hints (QQ hlen iV) hr hF hb (λH hO hS=>a8 w H a ns hlen hO hS) λH e s'=>F7 w H s₁ e s'
def Y4(s:Ze)(j:Nat):Ze:=match s with
 |.ClassDef _ _ _ body _ _ _ _ _ _ _=>body.getD j<|.Pass ⟨0,0,0,0⟩
 |_=>.Pass ⟨0,0,0,0⟩
def uh(s:Ze):Arguments:=match s with
 |.FunctionDef _ a _ _ _ _ _ _ _ _=>a
 |_=>{ posonlyargs:=[],args:=[],vararg:=none,kwonlyargs:=[],kw_defaults:=[],kwarg:=none,defaults:=[] }
def ZS(s:Ze):List Ze:=match s with
 |.FunctionDef _ _ b _ _ _ _ _ _ _=>b
 |_=>[]
def QL(s:Ze):gW:=match s with
 |.FunctionDef _ _ _ _ _ _ sc _ _ _=>sc
 |_=>{ kind:=.function,names:=[],isGenerator:=false,isCoroutine:=false }
abbrev aq:jg:=λ_ _ _ _ _ _=>False
abbrev E0:XK:=λ_ _ _=>False
def dZ:Y6 aq X E0:=λ_ _ _ _ _ _ _ h=>h.elim
structure iz (K:Qa) (x qual:Str) (st:Ze) (f:Xb) (fd:Zs):Prop where
 ex:∃(oc:Xc)(od:Option Xb)(kV doc pm:Xc)(an:Option Xb)(aj ct:Xc)(n_:Array<|Option Xc),
  fd=Yp x qual (uh st) (ZS st) (QL st) .none kV doc pm an aj ct/\K.lookup f=some ⟨oc,od,.func fd,n_⟩/\zR K aj qual=true
 kp:Q7 K (.ref f)=true
section
variable{P:QB}{w:Jf}{K:Qa}{mg:Str->Option Xc}{base:Xl}
def iz.ok{st:Ze}(F:iz K x qual st f fd)(S:Ya N ps<|QL st)(len:∀vs H Q E,sp vs H Q E->vs.length=ps.length)
  (XL:∀(aj:Xc)(A:JF)(outer:List Env)(s:Xe)(H:Hp)(vs:List V)(Q:VK)(E:XK),ao k (A.deeper<|envOfC qual (QL st) s.heap.objs.size f aj)->sp vs H Q E ->
   ∃t,aV (bS aq P w K mg base N qual (QL st) f aj A outer s H E).jm (ZS st) t/\t { nx:=λ_ H'=>Q .aL H',rt:=Q } (start N vs) H):aI P w K mg base aq (k+1) f fd ps sp:=by
 obtain⟨oc,od,kV,doc,pm,an,aj,ct,n_,rfl,lk,bQ⟩:=F.ex;refine QAN lk bQ S len λA outer s H vs Q E hr a8=>?_
 obtain⟨t,h,q⟩:=XL aj A outer s H vs Q E hr a8;exact⟨t,h.jm,q⟩
def iz.binds{st:Ze}(F:iz K x qual st f fd)
  (h:∀(kV doc pm:Xc)(an:Option Xb)(aj ct:Xc)(us:List Xc),us.length=ps.length->bindArgs (Yp x qual (uh st) (ZS st) (QL st) .none kV doc pm an aj ct) ⟨us,[]⟩=pure (ps.zip us)):Binds K fd ps []:=by
 obtain⟨oc,od,kV,doc,pm,an,aj,ct,n_,rfl,lk,bQ⟩:=F.ex;exact .all<|h kV doc pm an aj ct
def RE{st:Ze}{kV:Xc}(l:K.lookup f=some ⟨oc,od,.func<|Yp x qual (uh st) (ZS st) (QL st) .none kV doc pm an aj ct,n_⟩)
  (c:zR K aj qual=true)(k:Q7 K (.ref f)=true):iz K x qual st f (Yp x qual (uh st) (ZS st) (QL st) .none kV doc pm an aj ct):=⟨⟨oc,od,kV,doc,pm,an,aj,ct,n_,rfl,l,c⟩,k⟩
end
def QAL(hr:ao k A):A.units+1<cLine:=JJ (Th (by decide) _) hr.units
def WN(h:n<=1000):n<Xj:=JJ h (by decide)
section
variable{X:Cx}
def pv(i:Nat)(hN:X.N[i]? = some x:=by rfl)(hv:iY X.env.scope x:=by first | exact QJ rfl | exact QU (QJ rfl) | exact QU<|QU rfl)(hd:(x == ("__debug__" : Str))=false:=by decide)
  (bQ:(x == ("__classdict__" : Str))=false:=by decide):PE X (.Name x pos) (bV i):=P6 hN hv hd bQ
end
def a9{B:Prop}(h:B):if false=true then A else B:=by
 exact h
def bI{B:Prop}(h:A):if true=true then A else B:=by
 exact h
def QEg{B:Prop}[Decidable c](h1:c->A)(h2:¬c->B):if c then A else B:=by
 by_cases h:c
 ·rw[XZ h];exact h1 h
 ·rw[XY h];exact h2 h
def QDp{B:Prop}[Decidable c](hc:c)(h:B):if(!decide c)=true then A else B:=by
 rw[X1 hc];exact a9 h
def ag(H H':Hp):Prop:=∀b o,H b=some o->H' b=some o
def ag.refl(H:Hp):ag H H:=λ_ _ h=>h
def ag.trans(a:ag H H1)(b:ag H1 H2):ag H H2:=λc o h=>b c o<|a c o h
def ag.seq{K:Qa}(e:ag H H')(h:aA K H a xs):aA K H' a xs:=by
 rcases h with(h | ⟨o,h⟩) | h
 ·exact .inl<|.inl<|e _ _ h
 ·exact .inl<|.inr ⟨o,e _ _ h⟩
 ·exact .inr h
def bG(X:Cx)(M:List Str)(scope:gW)(cl:List (Str×Xb))(ex:List Xb)(s3:Xe)(H3:Hp)(C:Xb):Cx where
 prog:=X.prog
 w:=X.w
 K:=X.K
 mg:=X.mg
 base:=X.base
 A:=X.A
 N:=M
 s₀:=s3
 H₀:=H3
 env:=compEnvC scope cl C X.env
 outer:=X.stack
 stack:=X.stack
 ex:=ex
 fn:=λ_=>false
 calm:=X.calm
 pn:=[]
 xe:=λ_ _=>False
def bU(env:Env):List (Str×lZ)->List (Str×Xb)->List (Str×Xb)
 |[],acc=>acc
 |(n,k)::r,acc=>bU env r (if k=.free then(n,(env.cells.lookup n).getD 0)::acc else acc)
def IT:∀(l:List (Str×lZ))(acc:List (Str×Xb)),(∀x∈l,x.2=.free->∃c,env.cells.lookup x.1=some c) ->
  (forIn (m:=Sem) l acc λx cs=>(if(x.2 == Jm)=true then do let a <- cellOf env x.1;pure (YZ ((x.1,a)::cs)) else pure<|YZ cs))=pure (bU env l acc)
 |[],acc,_=>rfl
 |(n,k)::r,acc,h=>by
  rw[List.forIn_cons];by_cases hk:k=.free
  ·subst hk;obtain⟨c,hc⟩:=h (n,.free) Q1 rfl;have e1:cellOf env n=pure c:=by unfold cellOf;rw[hc]
   have e2:bU env ((n,.free)::r) acc=bU env r ((n,c)::acc):=by
    show bU env r (if Jm=.free then(n,(env.cells.lookup n).getD 0)::acc else acc)=_;rw[hc];rfl
   rw[e2];show((if(Jm == Jm)=true then do let a <- cellOf env n;pure (YZ ((n,a)::acc)) else pure<|YZ acc) >>= _)=_;rw[XZ<|by decide,e1];exact IT r _ λx hx=>h x<|QN _ hx
  ·have hb:(k == Jm)=false:=by simpa using hk
   have e2:bU env ((n,k)::r) acc=bU env r acc:=by
    show bU env r (if k=.free then(n,(env.cells.lookup n).getD 0)::acc else acc)=_;rw[XY hk]
   rw[e2];rw[hb];exact IT r _ λx hx=>h x<|QN _ hx
def Ca(h:∀x∈scope.names,x.2=.free->∃c,env.cells.lookup x.1=some c):closureFor scope env=pure (bU env scope.names []):=by
 have e:=IT scope.names [] h;have e':=e
 first
  |(rw[e'];rfl)
  |(refine Eq.trans (X6 (λt=>t >>= _) e') ?_;rfl)
def IS:∀(l:List (Str×lZ))(acc:List (Str×Xb)),(∀x∈l,x.2=.free->∃c,env.cells.lookup x.1=some c)->(∀x c,acc.lookup x=some c->env.cells.lookup x=some c) ->
  (∀x c,(bU env l acc).lookup x=some c->env.cells.lookup x=some c)/\(∀x c,acc.lookup x=some c->(bU env l acc).lookup x=some c)/\∀x,(x,Jm)∈l->∃c,(bU env l acc).lookup x=some c
 |[],acc,_,ha=>⟨ha,λ_ _ h=>h,λ_ h=>nomatch h⟩
 |(n,k)::r,acc,h,ha=>by
  have hr:=λx hx=>h x<|QN _ hx
  by_cases hk:k=.free
  ·subst hk;obtain⟨c,hc⟩:=h (n,.free) Q1 rfl;have e2:bU env ((n,.free)::r) acc=bU env r ((n,c)::acc):=by
    show bU env r (if Jm=.free then(n,(env.cells.lookup n).getD 0)::acc else acc)=_;rw[hc];rfl
   rw[e2];have F4:∀x c',((n,c)::acc).lookup x=some c'->env.cells.lookup x=some c':=λx c' q=>by
    rw[Jd] at q;cases hx:x == n with
    |true=>
     rw[hx] at q;have z:=QF q;have y:x=n:=by simpa using hx
     rw[y,<- z];exact hc
    |false=>rw[hx] at q;exact ha x c' q
   obtain⟨i1,i2,i3⟩:=IS r ((n,c)::acc) hr F4;refine⟨i1,λx c' q=>?_,λx hx=>?_⟩
   ·refine i2 x c' ?_
    rw[Jd];cases hx:x == n with
    |true=>
     have y:x=n:=by simpa using hx
     have:=ha x c' q;rw[y,hc] at this;exact this
    |false=>exact q
   ·rcases Qv.mp hx with z | z
    ·cases z;exact⟨c,i2 n c<|by rw[Jd,X8]⟩
    ·exact i3 x z
  ·have e2:bU env ((n,k)::r) acc=bU env r acc:=by
    show bU env r (if k=.free then(n,(env.cells.lookup n).getD 0)::acc else acc)=_;rw[XY hk]
   rw[e2];obtain⟨i1,i2,i3⟩:=IS r acc hr ha;refine⟨i1,i2,λx hx=>?_⟩;rcases Qv.mp hx with z | z
   ·cases z;exact X5 rfl hk
   ·exact i3 x z
def C6{l:List (Str×lZ)}(h:l.lookup x=some k):(x,k)∈l:=by
 induction l with
 |nil=>cases h
 |cons p r ih=>
  obtain⟨n,q⟩:=p;rw[Jd] at h;cases hx:x == n with
  |true=>
   rw[hx] at h;have y:x=n:=by simpa using hx
   have z:=QF h;subst y z;exact Q1
  |false=>rw[hx] at h;exact QN _<|ih h
def L4{env:Env}:∀{names:List (Str×lZ)}{x:Str}{k:lZ},(names.map λ(n,k)=>if(k == Jm&&env.scope.kind == .function&&env.kindOf n == some .cell) then(n,Y7) else(n,k)).lookup x=some k ->
  names.lookup x=some k∨(k=.cell/\names.lookup x=some .free)
 |[],x,k,h=>by cases h
 |(n,q)::r,x,k,h=>by
  have ih:=@L4 env r x k;have h':Yd x ((if(q == Jm&&env.scope.kind == .function&&env.kindOf n == some .cell)=true then(n,Y7) else(n,q))::_)=some k:=h;cases hx:x == n with
  |true=>
   by_cases hc:(q == Jm&&env.scope.kind == .function&&env.kindOf n == some .cell)=true
   ·rw[XZ hc,Jd,hx] at h';have z:=QF h';have y:q=.free:=by simp at hc;exact hc.1.1
    refine .inr ⟨z.symm,?_⟩;rw[Jd,hx,y]
   ·rw[XY hc,Jd,hx] at h';refine .inl ?_
    rw[Jd,hx];exact h'
  |false=>
   have h2:Yd x (r.map λ(n,k)=>if(k == Jm&&env.scope.kind == .function&&env.kindOf n == some .cell) then(n,Y7) else(n,k))=some k:=by
    by_cases hc:(q == Jm&&env.scope.kind == .function&&env.kindOf n == some .cell)=true
    ·rw[XZ hc,Jd,hx] at h';exact h'
    ·rw[XY hc,Jd,hx] at h';exact h'
   rw[Jd,hx];exact ih h2
def c_{env:Env}:∀{names:List (Str×lZ)}{x:Str},names.lookup x=some .free->(names.map λ(n,k)=>if(k == Jm&&env.scope.kind == .function&&env.kindOf n == some .cell) then(n,Y7) else(n,k)).lookup x=some .cell ∨
   (names.map λ(n,k)=>if(k == Jm&&env.scope.kind == .function&&env.kindOf n == some .cell) then(n,Y7) else(n,k)).lookup x=some .free
 |[],x,h=>by cases h
 |(n,q)::r,x,h=>by
  have ih:=@c_ env r x;show Yd x ((if(q == Jm&&env.scope.kind == .function&&env.kindOf n == some .cell)=true then(n,Y7) else(n,q))::_)=some .cell∨Yd x ((if(q == Jm&&env.scope.kind == .function&&env.kindOf n == some .cell)=true then(n,Y7) else(n,q))::_)=some .free;cases hx:x == n with
  |true=>
   rw[Jd,hx] at h;have z:=QF h;subst z;by_cases hc:(Jm == Jm&&env.scope.kind == .function&&env.kindOf n == some .cell)=true
   ·rw[XZ hc,Jd,hx];exact .inl rfl
   ·rw[XY hc,Jd,hx];exact .inr rfl
  |false=>
   rw[Jd,hx] at h;by_cases hc:(q == Jm&&env.scope.kind == .function&&env.kindOf n == some .cell)=true
   ·rw[XZ hc,Jd,hx];exact ih h
   ·rw[XY hc,Jd,hx];exact ih h
def ny(N:List Str)(sc:gW)(M:List Str)(scope:gW)(cap:List<|Option Nat):Bool:=
 cap.length == M.length&&(M.zip cap).all (λ(x,o)=>match o with
  |none=>scope.names.lookup x == some .local
  |some j=>N[j]? == some x&&(scope.names.lookup x == some .free&&(sc.names.lookup x == some .cell||sc.names.lookup x == some .free))) &&
 (scope.kind == .function&&scope.names.all λy=>y.2 != .cell&&((y.2 != .free||(sc.names.lookup y.1 == some .cell||sc.names.lookup y.1 == some .free))&&(y.2 != .local||scope.names.lookup y.1 == some .local)))
def dj(cap:List<|Option Nat)(σ:St):St:=cap.map λo=>match o with
 |none=>none
 |some j=>(σ[j]?).getD none
structure dI (N:List Str) (sc:gW) (M:List Str) (scope:gW) (cap:List<|Option Nat):Prop where
 len:cap.length=M.length
 own:∀(i j:Nat)(x:Str),M[i]? = some x->cap[i]? = some (some j)->N[j]? = some x/\scope.names.lookup x=some .free/\(sc.names.lookup x=some .cell∨sc.names.lookup x=some .free)
 kind:scope.kind=.function
 cell:∀y∈scope.names,y.2≠.cell
 free:∀y∈scope.names,y.2=.free->sc.names.lookup y.1=some .cell∨sc.names.lookup y.1=some .free
 loc:∀y∈scope.names,y.2=.local->scope.names.lookup y.1=some .local
def dI.of(h:ny N sc M scope cap=true):dI N sc M scope cap:=by
 unfold ny at h;simp only[Jp,JZ,X7] at h;obtain⟨⟨h1,h2⟩,h3,h4⟩:=h;refine⟨h1,λi j x e1 e2=>?_,h3,λy hy z=>?_,λy hy z=>?_,λy hy z=>?_⟩
 ·have hm:(x,some j)∈M.zip cap:=by
   have:(M.zip cap)[i]? = some (x,some j):=by rw[List.getElem?_zip_eq_some];exact⟨e1,e2⟩
   exact Je this
  have:=h2 _ hm;simp only[Jp,X7,Kh] at this;exact this
 ·have:=(h4 y hy).1;simp[z] at this
 ·have:=(h4 y hy).2.1
  simpa [z] using this
 ·have:=(h4 y hy).2.2
  simpa [z] using this
section
variable{X:Cx}{XI:List (Xb×Xp)}{σ:St}{H H3:Hp}{s3:Xe}{M:List Str}{scope:gW}{cap:List (Option Nat)}{fp:List Xb}{h4:Xl}{t4:Nat}
def Cx.Ok.cells(ok:X.Ok){N:List Str}(c:dI N X.env.scope M scope cap):∀y∈scope.names,y.2=.free->∃d,X.env.cells.lookup y.1=some d:=λy hy z=>ok.has y.1<|c.free y hy z
def CY(I:Inv X XI σ H3 s3)(c:dI X.N X.env.scope M scope cap)(hf:∀b∈fp,aR X XI H3 b)(hb:∀b∈fp,b<s3.heap.objs.size)
  (hn:h4.Ns s3.heap.objs.size λ_=>none)(hk:∀b o,s3.heap.get? b=some o->h4.get? b=some o) :
  Inv (bG X M scope (bU X.env scope.names []) fp s3 H3 s3.heap.objs.size) [] (dj cap σ) H3 { s3 with heap:=h4,toks:=t4 }:=by
 obtain⟨c1,c2,c3⟩:=IS scope.names [] (I.ok.cells c) (λx d q=>by cases q);refine⟨⟨I.ok.mod,c.kind,I.ok.glob,I.ok.blt,Qf _,λx y d e1 e2=>I.ok.inj x y d (c1 x d e1)<|c1 y d e2,λx hx=>?_,(λx d z=>nomatch z),I.ok.hd,I.ok.frames,.inl rfl,λb dP=>?_,I.bs,
  QQ I.ok.jX I.sz,λb o e z=>?_,λb dP z=>?_,I.stack,I.gn⟩,rfl,I.bare,Un.kept hk,⟨_,hn,λi x v e1 e2 e3=>?_⟩,λx d e=>?_,I.au.fresh<|Qf _,λx d e=>I.be x d<|c1 x d e,λp hp=>(nomatch hp),I.au.kept hk,?_⟩
 ·have iG:=hx;rcases iG with q | q
  ·rcases L4 q with z | ⟨_,z⟩
   ·exact X5 rfl<|c.cell _<|C6 z
   ·exact c3 x<|C6 z
  ·rcases L4 q with z | ⟨z,_⟩
   ·exact c3 x<|C6 z
   ·cases z
 ·obtain⟨f0,f1,f2,f3,f4,f5⟩:=hf b dP;exact⟨Qy<|hb b dP,λx d e=>f4 x d<|c1 x d e⟩
 ·obtain⟨f0,f1,f2,f3,f4,f5⟩:=hf b z;rcases f3 with q | q
  ·exact I.ok.iR b o e q
  ·exact X5 (QM (Ql e)<|QQ I.ok.jX q)<|Yg _
 ·obtain⟨f0,f1,f2,f3,f4,f5⟩:=hf b dP;rcases Qv.mp (I.iO b z) with q | q
  ·exact f1 q
  ·exact f2 q
 ·have vz:(cap.map λo=>match o with | none=>none | some j=>(σ[j]?).getD none)[i]? = some (some v):=e2;rw[Qt] at vz;cases q:cap[i]? with
  |none=>rw[q] at vz;cases vz
  |some o=>
   rw[q] at vz;cases o with
   |none=>cases vz
   |some j=>
    have e4:(σ[j]?).getD none=some v:=QF vz;have e5:σ[j]? = some (some v):=by
     cases r:σ[j]? with
     |none=>rw[r] at e4;cases e4
     |some o=>rw[r] at e4;exact X6 some e4
    obtain⟨n1,n2,n3⟩:=c.own i j x e1 q;obtain⟨m,hm,hl⟩:=I.loc;obtain⟨u,ru,lk⟩:=hl j x v n1 e5<|n3.elim (λz=>.inr<|.inl z) λz=>.inr<|.inr z;refine⟨u,ru,.inr ?_⟩;rcases lk with⟨k1,_⟩ | ⟨_,d,k2,k3⟩
    ·have NO:X.env.scope.names.lookup x=some .local:=k1;rcases n3 with z | z<;>(rw[z] at NO;cases NO)
    ·obtain⟨d',fA⟩:=c3 x<|C6 n2;have ed:d'=d:=by
      have:=c1 x d' fA;rw[k2] at this;exact(QF this).symm
     subst ed;exact⟨(c_ n2:(relabel scope X.env).names.lookup x=some .cell∨(relabel scope X.env).names.lookup x=some .free),d',fA,k3.keeps hk⟩
 ·obtain⟨v,q⟩:=I.cell x d<|c1 x d e;exact⟨v,q.keeps hk⟩
 ·show(cap.map _).length=M.length;rw[Qd];exact c.len
def Ta(I:Inv X XI σ H3 s3)(hf:∀b∈fp,aR X XI H3 b)(J:Inv (bG X M scope (bU X.env scope.names []) fp s3 H3 s3.heap.objs.size) [] σ' H s')(hs:Yy s3.heap.objs.size s'.heap h') :
  Inv X XI σ H { s' with heap:=h' }:=by
 have u:=J.base;have ne:∀b o,s3.heap.get? b=some o->b≠s3.heap.objs.size:=λb o e=>Qy<|Ql e
 have hC:H s3.heap.objs.size=none:=J.free;refine I.lJ J.os ⟨λb o e n hb hx=>(hs.2 b<|ne b o e).trans<|u.keep b o e n hb hx,λb o e n hb hx=>?_,u.free,λb o e hx=>?_,u.cU,u.dz,u.dN⟩ (λb o e=>?_) J.bare λb hb=>?_
 ·obtain⟨sl,q⟩:=u.slot b o e n hb hx;exact⟨sl,(hs.2 b<|ne b o e).trans q⟩
 ·obtain⟨o',q⟩:=u.there b o e hx;exact⟨o',(hs.2 b<|ne b o e).trans q⟩
 ·refine(J.au b o e).eU (λc v hc q=>(hs.2 c ?_).trans q) (λ_ q=>q) λ_ _ q=>q
  rintro rfl;rcases hc with z | z
  ·rw[<- z,hC] at e;cases e
  ·rw[hC] at z;cases z
 ·obtain⟨f0,f1,f2,f3,f4,f5⟩:=hf b hb;exact⟨f3,f1,f4,f5⟩
end
def Wk:St->St->Prop
 |[],[]=>True
 |none::a,_::b=>Wk a b
 |some v::a,some u::b=>v=u/\Wk a b
 |_,_=>False
def Wk.len:∀{a b:St},Wk a b->a.length=b.length
 |[],[],_=>rfl
 |none::a,_::b,h=>X6 (·+1)<|Wk.len h
 |some v::a,some u::b,h=>X6 (·+1)<|Wk.len h.2
 |[],_::_,h=>h.elim
 |some _::_,[],h=>h.elim
 |none::_,[],h=>h.elim
 |some _::_,none::_,h=>h.elim
def Wk.get:∀{a b:St},Wk a b->∀(i:Nat) v,a[i]? = some (some v)->b[i]? = some (some v)
 |[],[],_,i,v,h=>by simp at h
 |none::a,x::b,h,0,v,e=>by simp at e
 |none::a,x::b,h,i+1,v,e=>by
  exact Wk.get (b:=b) h i v e
 |some q::a,some u::b,h,0,v,e=>by
  rw[<- h.1];exact e
 |some q::a,some u::b,h,i+1,v,e=>by
  exact Wk.get h.2 i v e
 |[],_::_,h,_,_,_=>h.elim
 |some _::_,[],h,_,_,_=>h.elim
 |none::_,[],h,_,_,_=>h.elim
 |some _::_,none::_,h,_,_,_=>h.elim
def Inv.wk(I:Inv X XI σ H s)(h:Wk σ' σ):Inv X XI σ' H s:=I.weak h.len h.get
def kC(J:It)(body:V->Hp->(Hp->Prop)->Prop)(Qn:Hp->Prop)(H:Hp):Prop:=
 ∃W:Nat->Nat->Hp->Prop,(∃m,W 0 m H)/\∀i m H2,W i m H2->(J.stop i H2/\Qn H2)∨(J.go i H2/\∀x H3,J.nU i H2 x H3->body x H3 λH6=>∃m',m'<m/\W (i+1) m' H6)
abbrev Act:=(Xe->Prop)->Xe->Prop
def BodyOk(Y:Cx)(σ:St)(act:Act)(b:Hp->(Hp->Prop)->Prop):Prop:=
 ∀(XI:List (Xb×Xp))(s:Xe)(H:Hp)(k:Hp->Prop)(Q:Xe->Prop),Inv Y XI σ H s->b H k->(∀s' H',Inv Y XI σ H' s'->k H'->Q s')->act Q s
def C1{act:Xc->Act}
  (hc:Y.calm=true)(T:Turn Y.prog Y.w Y.K tg J fp it tn)(st:tn 0 s.heap)(hf:∀b∈fp,aR Y XI H b)
  (lg:∀(Q:rz->Xe->Prop)(E:Xc->Xe->Prop)(s:Xe),Xh (Xg Y.prog Y.w) Y.A (pyNext<|.ref it) (λr s1=>match r with
   |none=>Q (.done .next) s1
   |some v=>Xh (Xg Y.prog Y.w) Y.A (letOwnedTupleGo tg (.ref it) v) (λ_ s2=>act v (λs3=>Q (.again<|.compLoop (.ListComp elt gens scope XJ) d (.ref it) (.ref D) Y.env) s3) s2) E s1) E s ->
   Xh (Xg Y.prog Y.w) Y.A (compTurn (.ListComp elt gens scope XJ) d (.ref it) (.ref D) Y.env) Q E s)
  (sE:∀(x:V)(u:Xc),RelV x u->BodyOk Y σ (act u) (body x))
  (I:Inv Y XI σ H s)(h:kC J body Qn H)(hR:∀s' H',Inv Y XI σ H' s'->Qn H'->R (.ok .next) s') :
  Xs (Xg Y.prog Y.w) Y.A (.compLoop (.ListComp elt gens scope XJ) d (.ref it) (.ref D) Y.env) R s:=by
 obtain⟨W,⟨m0,w0⟩,turn⟩:=h;have eW:∀{H':Hp},(∀b∈fp,H' b=none)->∀b∈fp,aR Y XI H' b:=λhn b hb=>⟨hn b hb,(hf b hb).2⟩
 refine codeAny_loop rfl (λn s'=>∃i H',Inv Y XI σ H' s'/\tn i s'.heap/\(∀b∈fp,H' b=none)/\W i n H') (λn s3 hI=>?_) m0 ⟨0,H,I,st,λb hb=>(hf b hb).1,w0⟩;refine wpAny_noted<|lg _ _ _ ?_;obtain⟨i,H3,I3,mH,qm,w3⟩:=hI;rcases turn i n H3 w3 with⟨stop,qn⟩ | ⟨go,step⟩
 ·refine ax (T.done Y rfl rfl rfl hc i XI s3 σ H3 _ I3 (eW qm) mH stop) λr s4 ⟨hr,I4⟩=>?_
  subst hr;exact hR s4 H3 I4 qn
 ·refine ax (T.item Y rfl rfl rfl hc i XI s3 σ H3 _ I3 (eW qm) mH go) λr s4 ⟨u,hr,h4⟩=>?_
  subst hr;refine ax h4 λ_ s5 ⟨x,H5,I5,r5,y5,iE,yv⟩=>?_
  have Ai:=I5.pinned (eW yv)<|T.obj _ _ iE;refine sE x u r5 _ s5 H5 _ _ Ai (step x H5 y5) λs7 H7 I7 ⟨m',hm,w7⟩=>⟨rfl,m',hm,i+1,H7,I7.br,T.keep _ _ _ iE λb hb o e=>(I7.pin (b,o)<|Qs _<|Qs _<|Z8 hb e).1,λb hb=>?_,w7⟩
  obtain⟨o,e,dd⟩:=T.obj _ _ iE b hb;exact(I7.pin (b,o)<|Qs _<|Qs _<|Z8 hb e).2.1
abbrev Ka (ifs:List JO) (env:Env):Sem Bool:=forIn ifs true λc r=>if r=true then do let ok <- isTrue c env (eval c env);pure (YZ ok) else pure<|YZ r
def iu(Y:Cx)(ifs:List JO)(t:TT):Prop:=
 ∀(XI:List (Xb×Xp))(s:Xe)(σ:St)(H:Hp)(Q:Bool->Hp->Prop),Inv Y XI σ H s->t σ H Q->Xh (Xg Y.prog Y.w) Y.A (Ka ifs Y.env) (TP Y XI σ Q) Y.xe s
def YF:TT:=λ_ H Q=>Q true H
def j8:iu Y [] YF:=λXI s σ H Q I h=>wpAny_tests_nil ⟨H,I,h⟩
def IF(h:PT Y c t):iu Y [c] t:=λXI s σ H Q I q=>wpAny_tests_one<|h XI s σ H Q I q
def yJ(Y:Cx)(tg:JO)(ifs:List JO)(inner:Act):Xc->Act:=λu Q s=>
 Xh (Xg Y.prog Y.w) Y.A (assign tg Y.env u) (λ_ s4=>Xh (Xg Y.prog Y.w) Y.A (Ka ifs Y.env) (λok s5=>if ok=true then inner Q s5 else Q s5) (λ_ _=>False) s4) (λ_ _=>False) s
def ku(σ:St)(g:TG)(tc:TT)(inner:St->Hp->(Hp->Prop)->Prop):V->Hp->(Hp->Prop)->Prop:=λx H k=>g x σ H λσ4 H4=>Wk σ σ4/\tc σ4 H4 λb H5=>
 if b=true then inner σ4 H5 k else k H5
def zp(hx:Y.xe=λ_ _=>False)(hg:PG Y tg g)(ht:iu Y ifs tc)(he:∀σ4,BodyOk Y σ4 inner<|ri σ4)(x:V)(u:Xc)(r:RelV x u) :
  BodyOk Y σ (yJ Y tg ifs inner u) (ku σ g tc ri x):=by
 intro XI s H k Q I h hQ;have iG:∀(v:Xc)(s':Xe),Y.xe v s'->False:=λv s' z=>by rw[hx] at z;exact z
 refine Xk (hg XI s σ H x u _ I r h) (λ_ s4 ⟨σ4,H4,I4,wk,q4⟩=>(Xk (ht XI s4 σ4 H4 _ I4 q4) (λb s5 ⟨H5,I5,q5⟩=>?_) iG)) iG;cases b with
 |false=>
  exact hQ s5 H5 (I5.wk wk) q5
 |true=>
  exact he σ4 XI s5 H5 k Q I5 q5 λs' H' I' k'=>hQ s' H' (I'.wk wk) k'
def Hq(Y:Cx)(elt:JO)(D:Xb):Act:=λQ s=>Xh (Xg Y.prog Y.w) Y.A (eval elt Y.env) (λv s6=>Xh (Xg Y.prog Y.w) Y.A (call (.builtin "list.append") [.ref D,v]) (λ_ s7=>Q s7) (λ_ _=>False) s6) (λ_ _=>False) s
def oR(p:Xb)(te:TE):St->Hp->(Hp->Prop)->Prop:=λσ H k=>te σ H λv H6=>∃ys,H6 p=some (.lst ys)/\ys.length<Xj/\k (upd H6 p<|.lst<|ys++[v])
def Kl(hx:Y.xe=λ_ _=>False)(he:PE Y elt te):BodyOk Y σ (Hq Y elt D) (oR D te σ):=by
 intro XI s H k Q I h hQ;have iG:∀(v:Xc)(s':Xe),Y.xe v s'->False:=λv s' z=>by rw[hx] at z;exact z
 refine Xk (he XI s σ H _ I h) (λv s6 ⟨y,H6,I6,r6,ys,e,hz,q⟩=>?_) iG;exact Xk (C3 XI s6 σ H6 (.ref D) [y] (.ref D) [v] (λ_ H'=>k H') I6 rfl (.cons r6 .nil) ⟨D,ys,y,rfl,rfl,e,hz,q⟩) (λ_ s7 ⟨_,H7,I7,_,q7⟩=>hQ s7 H7 I7 q7) iG
def V4(Q:rz->Xe->Prop)(E:Xc->Xe->Prop)(s:Xe)
  (h:Xh (Xg Y.prog Y.w) Y.A (pyNext<|.ref it) (λr s1=>match r with
   |none=>Q (.done .next) s1
   |some v=>Xh (Xg Y.prog Y.w) Y.A (letOwnedTupleGo tg (.ref it) v) (λ_ s2=>yJ Y tg ifs (Hq Y elt D) v (λs3=>Q (.again<|.compLoop (.ListComp elt [⟨tg,iter,ifs,0⟩] scope XJ) 0 (.ref it) (.ref D) Y.env) s3) s2) E s1) E s) :
  Xh (Xg Y.prog Y.w) Y.A (compTurn (.ListComp elt [⟨tg,iter,ifs,0⟩] scope XJ) 0 (.ref it) (.ref D) Y.env) Q E s:=by
 refine Xa<|wpAny_standAt<|Xa<|ax h λr s1 h1=>?_;cases r with
 |none=>exact wpAny_pure h1
 |some v=>
  refine Xa<|ax h1 λ_ s2 h2=>(Xa<|Xk h2 (λ_ s4 h4=>Xa<|Xk h4 (λok s5 h5=>?_) λ_ _ f=>f.elim) λ_ _ f=>f.elim);cases ok with
  |false=>exact wpAny_pure h5
  |true=>exact Xa<|Xa<|Xk h5 (λx s6 h6=>Xa<|Xk h6 (λ_ s7 h7=>wpAny_pure<|wpAny_pure h7) λ_ _ f=>f.elim) λ_ _ f=>f.elim
def kQ(cap:List<|Option Nat)(wi:TI)(g:TG)(tc:TT)(te:TE):TE:=λσ H Q=>wi σ H λJ H1=>∀p,H1 p=none->kC J (ku (dj cap σ) g tc<|oR p te) (Q<|.ref p) (upd H1 p<|.lst [])
def aR.upd(h:aR X XI H b)(cO:b≠a):aR X XI (upd H a o) b:=⟨by rw[QH cO];exact h.1,h.2⟩
def YC(hc:X.calm=true)(ok:ny X.N X.env.scope M scope cap=true)
  (hi:PI X tg iter wi)(hb:∀cl ex s3 H3 C,PG (bG X M scope cl ex s3 H3 C) tg g/\iu (bG X M scope cl ex s3 H3 C) ifs tc/\PE (bG X M scope cl ex s3 H3 C) elt te)
  (hs:∀x,Xo iter X.env x=pure x:=by intro _;rfl):PE X (.ListComp elt [⟨tg,iter,ifs,0⟩] scope pos) (kQ cap wi g tc te):=by
 intro XI s σ H Q I h;have c:=dI.of ok;refine Dv rfl hs (Ca<|I.ok.cells c) c.kind c.loc ?_
 refine ax (hi XI s σ H _ I h) λv s1 h1=>ax h1 λk8 s2 h2=>?_
 obtain⟨it,fp,tn,J,H2,e,I2,T,eY,f2,hW⟩:=h2;subst e;refine Jt (Dj c.cell (by intro y hy;simp at hy) (λh₁ iU iT=>?_) c.kind);have I3:=I2.jP (t':=s2.toks) .nil<|Q6 _;have kY:∀b∈fp,b<s2.heap.objs.size:=λb hb=>by obtain⟨o,e,_⟩:=T.obj _ _ eY b hb;exact Ql e
 have f3:∀b∈fp,aR X XI (upd H2 s2.heap.objs.size<|.lst []) b:=λb hb=>(f2 b hb).upd<|Qy<|kY b hb
 generalize sk:({ s2 with heap:=s2.heap.push { cls:=.type "list",data:=.seq ([]:List Xc).toArray } }:Xe)=s3 at I3;have e3:s3.heap=s2.heap.push { cls:=.type "list",data:=.seq ([]:List Xc).toArray }:=by rw[<- sk]
 have z3:s3.heap.objs.size=s2.heap.objs.size+1:=by rw[e3,Ym]
 have hk:=λb o e=>iT.extBut b o (by
  have:=Ql e;rw[e3] at this;exact Qy this)<|Qe _<|e3 ▸ e
 have sv:h₁.Ns s3.heap.objs.size λ_=>none:=by rw[e3];exact iU
 have B:=CY (t4:=s3.toks+([]:List (Str×Xc)).length) I3 c f3 (λb hb=>by rw[z3];exact YE<|kY b hb) sv hk;have iP:=T.keep _ _ _ eY λb hb o e=>hk b o (by rw[e3];exact Qe _ e)
 have sG:∀b∈fp,aR (bG X M scope (bU X.env scope.names []) fp s3 (upd H2 s2.heap.objs.size<|.lst []) s3.heap.objs.size) [] (upd H2 s2.heap.objs.size<|.lst []) b:=λb hb=>by
  refine⟨(f3 b hb).1,(B.ok.ko b hb).1,B.ok.fL b hb,.inl hb,(B.ok.ko b hb).2,λp hp=>(nomatch hp)⟩
 obtain⟨hg,ht,he⟩:=hb (bU X.env scope.names []) fp s3 (upd H2 s2.heap.objs.size<|.lst []) s3.heap.objs.size;have loop:Xs (Xg X.prog X.w) X.A (.compLoop (.ListComp elt [⟨tg,iter,ifs,0⟩] scope pos) 0 (.ref it) (.ref s2.heap.objs.size)<|compEnvC scope (bU X.env scope.names []) s3.heap.objs.size X.env)
   (compPost (Xg X.prog X.w) X.A X.xe none (EP X XI σ Q) (.ref s2.heap.objs.size) s3.heap.objs.size) { s3 with heap:=h₁,toks:=s3.toks+([]:List (Str×Xc)).length }:=by
  refine C1 (Y:=bG X M scope (bU X.env scope.names []) fp s3 (upd H2 s2.heap.objs.size<|.lst []) s3.heap.objs.size) hc T iP sG
   (λQ E s h=>V4 Q E s h) (λx u r=>zp rfl hg ht (λσ4=>Kl rfl he) x u r) B (hW _<|I2.au.fresh<|Qf _) λs' H' I' q=>?_
  obtain⟨m,hn,_⟩:=I'.loc;exact⟨m,hn,λh' vm=>⟨.ref s2.heap.objs.size,H',Ta I3 f3 I' vm,rfl,q⟩⟩
 exact LM loop<|T.self _ 0 _ _ _ iP loop
end L2


namespace L2
section
variable{X:Cx}
def QjR:aF X (.builtin "isinstance") (λxs H Q=>∃x t T b,xs=[x,.ty T]/\dg X.K H x t/\Zj X.K t (.type T)=some b/\Q (.bl b) H):=by
 intro XI s σ H xs us Q I r h;obtain⟨x,t,T,b,rfl,ty,e,q⟩:=h;obtain⟨u,v,rfl,ru,rv⟩:=vals2 r;cases(rv);exact Qoq I ru ty e λtk=>⟨.bl b,H,I.tok tk,rfl,q⟩
def U_:∀{us:List Xc},ah (bs.map V.bl) us->LSm.BoolsAre us bs:=by
 induction bs with
 |nil=>intro us r;cases r;exact .nil
 |cons b bs ih=>
  intro us r;cases r with
  |cons r t=>
   cases(r);exact .cons b<|ih t
def Km:aF X (.builtin "all") (λxs H Q=>∃(p:Xb)(bs:List Bool),xs=[.ref p]/\aA X.K H p (bs.map V.bl)/\X.calm=true/\Q (.bl<|bs.all id) H):=by
 intro XI s σ H xs us Q I r h;obtain⟨p,bs,rfl,hp,hc,q⟩:=h;obtain⟨u,rfl,ru⟩:=vals1 r;cases ru;obtain⟨its,rv,pl,hz⟩:=I.list hp;have hl:=pl.isList;have hb:=U_ rv;have df:p<s.heap.objs.size:=by obtain⟨_,e,_⟩:=hl;exact Ql e
 refine call_all_walk<|C_ hl ?_;refine⟨s.heap.objs.size,[s.heap.objs.size,p],[s.heap.objs.size],its.toArray.size,_,_,λi=>(bs[i]?).getD true,rfl,Walks.list (A:=X.A.in1) (I.ok.hd hc) _ p (Qy df) its.toArray,
  ⟨⟨_,Qo _ rfl,rfl,rfl⟩,hl.push _⟩,λi v s' Q' E' hP hQ=>?_,λh' tk hk=>?_⟩
 ·obtain⟨b,e,rfl⟩:=hb.get i v (by simpa using hP);simp only[e] at hQ;exact JT hQ
 ·have e:((QD its.toArray.size).all λi=>(bs[i]?).getD true)=bs.all id:=by
   rw[Qk,hb.length];exact LSm.range_all bs
  rw[e];exact⟨.bl _,H,I.kept<|QCn hk,rfl,q⟩
def QEO:V->Option Int->Option Int->Hp->VK->Prop:=λx lo hi H Q=>∃a xs,x=.ref a/\H a=some (.tup xs)/\∀p H',ag H H'->H' p=some (.tup<|kz xs lo hi)->Q (.ref p) H'
def Jl(h:H p=none):ag H (upd H p o):=λb u e=>by rw[QH<|QK e h];exact e
def Qc5{lo:Option Int}(ht:IsTup s.heap t items)(hs:s.heap.IsSliceOf sl vl vu .none)(pl:nu vl lo)(pu:nu vu hi)
  (h1:HT.aX items.size 0 lo=0)(h2:HT.aX items.size items.size hi=items.size)(h:Q (.ref t) s):Xh (Xg prog w) A (XA (.ref t)<|.ref sl) Q E s:=by
 obtain⟨os,fX,AU,bC⟩:=id hs;have F5:s.TypeIs (.ref sl) "slice" := ⟨os,fX,AU⟩;unfold XA
 try with_reducible refine Jx ?_
 first | refine Xa (wpAny_pure ?_) | skip
 refine Xa (QB3 ht.typeIs (by decide) ?_);refine Xa (DH ht.typeIs JL
  (Zk JL ht.typeIs O4 ?_<|QBE _ _))
 show Xh _ _ (Qef (.ref t) >>= _) _ _ s;refine Xa<|tupleItemsOf_ ht<|Xa<|zq F5 ?_;refine Xa<|HT.QbR hs pl pu ?_;show Xh _ _ (if(((HT.aX items.size 0 lo:Nat):Int) == 0&&1 == 1&&(HT.aX items.size items.size hi - HT.aX items.size 0 lo) == items.size)=true then _ else _) _ _ s;rw[XZ (by rw[h1,h2];simp)];refine Xa<|Xa<|zq ht.typeIs<|wpAny_pure ?_;exact Xa<|wpAny_rule<|wpAny_pure ⟨_,rfl,wpAny_pure h⟩
def Qy4:mY X QEO:=by
 intro XI s σ H x v vl vu lo hi sl Q I rx hs pl pu h;obtain⟨a,xs,rfl,hx,q⟩:=h;by_cases hw:HT.aX xs.length 0 lo=0/\HT.aX xs.length xs.length hi=xs.length
 ·cases rx;obtain⟨its,r,ht,hz⟩:=I.tuple<|aP.of hx;have hlen:its.toArray.size=xs.length:=by rw[Qk];exact r.length.symm
  refine⟨"tuple",_,JL.lookup,ht.typeIs,(Qc5 ht hs pl pu (by rw[hlen];exact hw.1) (by rw[hlen];exact hw.2) ?_)⟩;refine⟨.ref a,H,I,rfl,q a H (ag.refl H) ?_⟩;have e:kz xs lo hi=xs:=by
   unfold kz;rw[hw.1,hw.2];simp
  rw[e];exact hx
 ·exact Qy3 XI s σ H (.ref a) v vl vu lo hi sl Q I rx hs pl pu ⟨a,xs,rfl,aP.of hx,hw,λp hp=>q p _ (Jl hp) QC⟩
def OG:R2:=λx y H Q=>∃a b xs ys,x=.ref a/\y=.ref b/\H a=some (.tup xs)/\H b=some (.tup ys)/\xs.length+ys.length<=Xj/\∀p H',ag H H'->H' p=some (.tup<|xs++ys)->Q (.ref p) H'
def QwA:aK X (Xr .Add) OG:=by
 intro XI s σ H x y v u Q I rx ry h;obtain⟨a,b,xs,ys,rfl,rfl,ha,hb,hz,q⟩:=h;by_cases hx:xs=[]
 ·subst hx;cases rx;cases ry;obtain⟨its,r1,p1,_⟩:=I.tuple<|aP.of ha;obtain⟨hV,r2,p2,_⟩:=I.tuple<|aP.of hb;cases r1;obtain⟨⟨cls,dd,data,sl⟩,ho,hc,n,hd⟩:=id p1;obtain⟨⟨Gi,A8,data2,rQ⟩,lh,km,n2,hd2⟩:=id p2;subst hc hd km hd2;exact Hn ⟨_,ho,rfl⟩ ⟨_,lh,rfl⟩ Kf Hy Mc Mg (L9 _ _)
   (tuple_addW0 a b #[] hV.toArray n n2 dd A8 sl rQ rfl) ⟨ho,lh,⟨.ref b,H,I,rfl,q b H (ag.refl H) hb⟩⟩
 ·exact Qwz XI s σ H _ _ v u Q I rx ry ⟨a,b,xs,ys,rfl,rfl,aP.of ha,aP.of hb,hx,hz,λe=>q a H (ag.refl H) (by rw[e,JW];exact ha),λ_ p hp=>q p _ (Jl hp) QC⟩
def QCG:TE:=λ_ H Q=>∀p,H p=none->Q (.ref p) (upd H p<|.dK [])
def Qv1:PE X (.Dict [] [] pos) QCG:=λXI s σ H Q I h=>by
 refine wpAny_Dict_empty ⟨.ref s.heap.objs.size,_,I.laid (λ_ _ q=>Qe _ q) (Qf _) ?_,rfl,h _<|I.au.fresh<|Qf _⟩;have hb:Xv<s.heap.objs.size:=Nat.lt_trans (by decide) (I.mod.glob.keeps I.bk).lt;exact⟨Q6 _,beq_eq_false_iff_ne.mpr<|ir<|Qy hb,[],.nil,U4 s.heap⟩
end
section
variable{X:Cx}{XI:List (Xb×Xp)}{σ:St}{H:Hp}{s:Xe}{h':Xl}
def Inv.fU{ch:List Xb}(I:Inv X XI σ H s)(gP:∀b∈ch,aR X XI H b)(k:∀b u,b∉ch->s.heap.get? b=some u->h'.get? b=some u)(hp:s.heap.objs.size<=a)
  (new:aO X.prog X.w (upd H a o) h' a o):Inv X XI σ (upd H a o) { s with heap:=h',toks:=t' }:=by
 have hn:=I.au.fresh hp;have kX:∀b u,H b=some u->b∉ch:=λb u e z=>by rw[(gP b z).1] at e;cases e
 refine I.step (λb hb=>?_) (λb u _ _ hc e _=>k b u hc e) (λb u _ _ hc e _=>⟨u.slots,k b u hc e⟩) (λb u hc e n=>?_) (λb u hc e=>⟨u,k b u hc e⟩)
  (λb xs e=>by rw[QH<|QK e hn];exact e) (λb u v e=>by rw[QH<|QK e hn];exact e) (λb ps e=>⟨#[],by rw[QH<|QK e hn,e];simp⟩) (λm hm=>?_) (λb u e=>?_) I.bare
 ·obtain⟨f0,f1,f2,f3,f4,f5⟩:=gP b hb;exact⟨f3,f1,f4,f5⟩
 ·rw[QH<|Qy<|QM (Ql e) hp];exact n
 ·obtain⟨u,es,ep,ho,r⟩:=hm;exact⟨u,es,ep,k _ u (λz=>(gP _ z).2.1 rfl) ho,r⟩
 ·by_cases hb:b=a
  ·subst hb;rw[QC] at e;cases e;exact new
  ·rw[QH hb] at e;refine(I.au b u e).eU (λc v hc q=>k c v ?_ q) (λc q=>by rw[QH<|QK q hn];exact q) λc xs q=>by rw[QH<|QK q hn];exact q
   rcases hc with z | z
   ·rw[z];exact kX b u e
   ·exact kX c _ z
def Inv.fV{ch:List Xb}(I:Inv X XI σ H s)(gP:∀b∈ch,aR X XI H b)(k:∀b u,b∉ch->s.heap.get? b=some u->h'.get? b=some u):Inv X XI σ H { s with heap:=h',toks:=t' }:=by
 have kX:∀b u,H b=some u->b∉ch:=λb u e z=>by rw[(gP b z).1] at e;cases e
 refine I.step (λb hb=>?_) (λb u _ _ hc e _=>k b u hc e) (λb u _ _ hc e _=>⟨u.slots,k b u hc e⟩) (λb u hc e n=>n) (λb u hc e=>⟨u,k b u hc e⟩)
  (λb xs e=>e) (λb u v e=>e) (λb ps e=>⟨#[],by rw[e];simp⟩) (λm hm=>?_) (λb u e=>?_) I.bare
 ·obtain⟨f0,f1,f2,f3,f4,f5⟩:=gP b hb;exact⟨f3,f1,f4,f5⟩
 ·obtain⟨u,es,ep,ho,r⟩:=hm;exact⟨u,es,ep,k _ u (λz=>(gP _ z).2.1 rfl) ho,r⟩
 ·refine(I.au b u e).eU (λc v hc q=>k c v ?_ q) (λc q=>q) λc xs q=>q
  rcases hc with z | z
  ·rw[z];exact kX b u e
  ·exact kX c _ z
end
end L2
namespace Rk
open L2
def KX(p:Xb)(H H':Hp):Prop:=∀b o,b≠p->H b=some o->H' b=some o
def KX.of(h:ag H H'):KX p H H':=λb o _ e=>h b o e
def L6:Xn "isinstance" = some (.builtin "isinstance"):=by decide
def BI:Xn "int" = some (.type "int"):=by decide
def Qx2:Xn "bool" = some (.type "bool"):=by decide
def rg:Xn "tuple" = some (.type "tuple"):=by decide
def IP:Xn "list" = some (.type "list"):=by decide
def kD:Xn "str" = some (.type "str"):=by decide
def HH:Xn "all" = some (.builtin "all"):=by decide
def iK:Xn "len" = some (.builtin "len"):=by decide
def Rc:Xn "max" = some (.builtin "max"):=by decide
def Rf:Xn "min" = some (.builtin "min"):=by decide
end Rk
namespace L2
def q_(n:Nat)(Pv:Nat->Hp->Prop)(h0:Pv 0 H)
  (hs:∀i H2,i<n->Pv i H2->J.go i H2/\∀x H3,J.nU i H2 x H3->∀k:Hp->Prop,(∀H6,Pv (i+1) H6->k H6)->body x H3 k)(hd:∀H2,Pv n H2->J.stop n H2/\Qn H2):kC J body Qn H:=by
 refine⟨λi m H=>m=n - i/\i<=n/\Pv i H,⟨n,by simp,Q6 _,h0⟩,?_⟩;rintro i m H2 ⟨rfl,hi,p⟩;by_cases df:i<n
 ·obtain⟨go,st⟩:=hs i H2 df p;exact .inr ⟨go,λx H3 y=>st x H3 y _ λH6 p6=>⟨n - (i+1),by omega,rfl,df,p6⟩⟩
 ·have e:i=n:=by omega
  subst e;exact .inl<|hd H2 p
end L2
namespace Rk
open L2
def Vn(K:Qa):Sp:=λvs H Q _=>∃a ns k,vs=[.ref a,.int k]/\aA K H a ((ns:List Int).map V.int)/\ns.length<2^20/\0<=k/\∀c,Q (.int c) H
def PD:Sp:=λvs H Q _=>∃c,vs=[.int c]/\∀p n,H p=none->Q (.ref p) (upd H p<|.lst [.int n])
def Cs(p:Xb)(H:Hp):List V->List (Int×Int)->Prop:=Zy λx ij=>∃d,d≠p/\x=.ref d/\H d=some (.tup [.int ij.1,.int ij.2])
def VU(x:Int)(h:0<m):0<=x % m/\x % m<m:=⟨Pn _<|by omega,RX _ h⟩
def notStar:JO->Bool
 |.Starred _ _=>false
 |_=>true
def nN(h:notStar e=true):Xi (e::es) env=(false,eval e env)::Xi es env:=by
 cases e<;>first | rfl | cases h
section
variable{X:Cx}
def a_(ha:PE X e te)(hr:PA X es t)(hs:notStar e=true:=by rfl):PA X (e::es) (dX te t):=Qj ha hr<|nN hs
def Zv(h:n<=1000):n<Xj:=JJ h (by decide)
def Iy(h:PA X e t)(k:∀σ H Q,t' σ H Q->t σ H Q):PA X e t':=λpos XI s σ H Q I q=>h pos XI s σ H Q I<|k σ H Q q
def BA(t:TA):TE:=λσ H Q=>t σ H λxs H1=>xs.length<=1000/\∀a H2,ag H1 H2->H1 a=none->H2 a=some (.tup xs)->Q (.ref a) H2
def QCD(t:TA):TE:=λσ H Q=>t σ H λxs H1=>xs.length<=1000/\∀a H2,ag H1 H2->H1 a=none->H2 a=some (.lst xs)->Q (.ref a) H2
def Y1{x1}(h:PA X es t):PE X (.Tuple es x1 pos) (BA t):=by
 intro XI s σ H Q I hq;refine O5 (ax (h pos XI s σ H _ I hq) λus s1 ⟨xs,H1,I1,r,z,q⟩=>⟨by rw[<- r.length];exact Ja<|Zv z,?_⟩);have hf:=I1.au.fresh<|Qf _;refine⟨.ref s1.heap.objs.size,upd H1 s1.heap.objs.size<|.tup xs,I1.laid (λb u e=>Qe _ e) (Qf _) ?_,rfl,q _ _ (Jl hf) hf QC⟩;exact⟨Ja<|Zv z,us,r,⟨_,Qo _ rfl,rfl,rfl,_,rfl⟩⟩
def Y2(h:PA X es t):PE X (.List es pos) (QCD t):=by
 intro XI s σ H Q I hq;refine QBC (ax (h pos XI s σ H _ I hq) λus s1 ⟨xs,H1,I1,r,z,q⟩=>⟨by rw[<- r.length];exact Ja<|Zv z,?_⟩);have hf:=I1.au.fresh<|Qf _;refine⟨.ref s1.heap.objs.size,upd H1 s1.heap.objs.size<|.lst xs,I1.laid (λb u e=>Qe _ e) (Qf _) ?_,rfl,q _ _ (Jl hf) hf QC⟩;exact⟨Ja<|Zv z,us,0,r,Qo _ rfl⟩
def QCT:R2:=λx y H Q=>∃l b xs zs,x=.ref l/\y=.ref b/\H l=some (.lst xs)/\H b=some (.lst zs)/\xs.length+zs.length<=1000/\∀a H2,ag H H2->H a=none->H2 a=some (.lst<|xs++zs)->Q (.ref a) H2
def wB:aK X (Xr .Add) QCT:=λXI s σ H x y v u Q I rx ry ⟨l,b,xs,zs,e1,e2,h1,h2,hl,k⟩=>
 P0 XI s σ H x y v u Q I rx ry ⟨l,b,xs,zs,e1,e2,h1,h2,Ja<|Zv hl,λa ha=>k a _ (Jl ha) ha QC⟩
end
end Rk


namespace Rx
open PySem.Calls L2 PySem.W Builtin Builtin.ObjectAttr Builtin.Getset_descriptor
def fu(a C:Xb)(h:Xl):Prop:=∃o vs,h.get? a=some o/\o.cls=.ref C/\o.data=.fields vs
def fu.ty(x:fu a C h):Looks M h (typeOf<|.ref a) (.ref C):=by
 obtain⟨o,vs,e,c,_⟩:=x;exact c ▸ (Looks.ld e).andThen .now
structure pF (K:Qa) (C:Xb):Prop where
 ga:findIn K (.ref C) "__getattribute__" = some (some<|.builtin "BaseException.__getattribute__")
 hk:findIn K (.ref C) "__getattr__" = some none
 bas:mroIn K C (.type "BaseException")=some true
 cls:(clsIn K C).isSome=true
 att:findIn K (.ref C) "__class__" = some (some<|.builtin "object.__class__")
 spc:specialIn K (.builtin "object.__class__") "__get__" = some (some<|.builtin "getset_descriptor.__get__")
 cq:takesIn K (.builtin "object.__class__")=some true
 mro:mroIn K C (.type "object")=some true
section
variable{prog:QB}{w:Jf}{A:JF}{E:Xc->Xe->Prop}{s:Xe}{K:Qa}{a C:Xb}
def QxB(X:K.In h)(c:pF K C):Looks M h (find (.ref a) (.ref C) "__class__") (.bind (.builtin "getset_descriptor.__get__")<|.builtin "object.__class__"):=by
 have l1:=looks_findIn (M:=M) X c.att;have l2:=looks_specialIn (M:=M) X c.spc;have l3:=looks_takesIn (M:=M) X c.cq;have l4:Looks M h (dataDescriptor? (some<|.builtin "object.__class__")<|some<|.builtin "getset_descriptor.__get__") (some (.builtin "getset_descriptor.__get__",.builtin "object.__class__")):=l3.andThen .now;exact l1.andThen<|l2.andThen<|l4.andThen<|Looks.tag .now
def QAQ(X:K.In s.heap)(I:fu a C s.heap)(c:pF K C)(h:R (.ok<|.ret<|.ref C) s) :
  Xs (Xg prog w) A (.call (.builtin "getset_descriptor.__get__") ⟨[.builtin "object.__class__",.ref a,tp],[]⟩) R s:=by
 have la:=I.ty (M:=Xg prog w);have lb:=looks_mroIn (M:=Xg prog w) X c.mro;refine LD KF.slot_gs.plain KF.entry_gs<|KF.slot_gs.check _ _ _ _ _ _ _ _ KF.type_class (KF.args_gs _ _ _) ?_;refine Xa<|wpAny_pure ?_;unfold descrGetter;unfold descrCheckInstance;unfold descrNameAndClass;simp only[KF.owner_class]
 repeat lk
 refine⟨Code.quiet_builtin _<|by decide,Yf KF.entry_class ?_⟩
 repeat lk
 exact h
def QsP{M:Model}{xK:Xc}{Q:Unit->Xe->Prop}(X:K.In s.heap)(I:fu a C s.heap)(c:pF K C)(hq:Q () s):Xh M A (checkBuiltinCall "BaseException.__getattribute__" ⟨[.ref a,xK],[]⟩) Q E s:=by
 have hk:builtinKind "BaseException.__getattribute__" = some .slot:=by decide
 have sj:splitId "BaseException.__getattribute__" = some ("BaseException", "__getattribute__"):=by decide
 have la:=I.ty (M:=M);have lb:=looks_mroIn (M:=M) X c.bas;have li:Looks M s.heap (isInstance (.ref a)<|.type "BaseException") true:=la.andThen lb;simp only[checkBuiltinCall,hk,sj];refine Xa<|li.at ?_
 repeat (first | exact hq | wp_step)
def QsO(X:K.In s.heap)(I:fu a C s.heap)(c:pF K C)(h:Q (some<|.ref C) { s with toks:=s.toks+1 }):Xh (Xg prog w) A (getAttr? (.ref a) "__class__") Q E s:=by
 have la:=I.ty (M:=Xg prog w);have lb:=looks_findIn (M:=Xg prog w) X c.ga;have lc:=looks_findIn (M:=Xg prog w) X c.hk;have ld:=QxB (M:=Xg prog w) (a:=a) X c;have f3:=RV.ga.bind<|.ref a;have Fz:(onTheHeap (JM C)&&zY "BaseException.__getattribute__" == zY "object.__getattribute__")=false:=by
  have e:(zY "BaseException.__getattribute__" == zY "object.__getattribute__")=false:=by decide
  rw[e];rfl
 refine Xa<|wpAny_mkText<|Xa<|Cf<|Jx<|Xa<|la.at<|Xa<|lb.at ?_;refine Xa ?_
 refine lc.at<|Xa<|Cf<|Jx ?_;show Xh _ _ (boundAndCalled _ _ _) _ _ _;refine Xa<|wpAny_pure<|rq<|LD RV.ga.plain F.entry_bexc_ga<|QsP X I c ?_;refine Xa<|wpAny_pure<|Xa<|wpAny_pure<|Xa<|la.at<|Xa<|ld.at ?_;refine Xa<|Jx<|rq<|QAQ X I c ?_;exact wpAny_pure<|handed_on rfl<|wpAny_pure h
def Qxq(c:pF K C):KitX K (.ref a) (.ref C) (fu a C) where
 ty:=λ_ _ _ I=>I.ty
 it:=λ_ _ X _=>by
  have q:=c.cls;unfold clsIn at q;split at q
  ·rename_i ho
   intro A' Q' E' s' k z;exact Xa<|HU (k _ _<|X _ _ ho)<|wpAny_pure z
  ·cases q
 ne:=λh tp dd its n sl X htp=>by
  have q:=c.cls;refine Bool.eq_false_iff.mpr λz=>?_
  cases Value.ref.inj (beq_iff_eq.mp z);unfold clsIn at q;split at q
  ·rename_i ho
   cases(X _ _ ho).symm.trans htp
  ·cases q
 ca:=λX I k=>QsO X I c k
end
end Rx
namespace Rx
open PySem.Calls L2
abbrev cD:List Xc:=[.type "ValueError",.type "Exception",.type "BaseException",.type "object"]
def QBA(h:Xl)(C:Xb):Prop:=∃bm N nm q bs hdct sn sub ab col dd k0 k1 k2 k3 k5 mN,
 h.get? C=some (excClassObj nm q C N bs bm hdct sn sub ab col dd k0 k1 k2 k3 k5 "ValueError.__new__")/\h.Ns N mN/\mN "__init__" = none/\OwnTail h cD bm
def Qnm{K:Qa}(X:K.In h)(q:JH K C cD "ValueError.__new__" = true):QBA h C:=by
 unfold JH at q;split at q;next dd cd sl ho=>
  split at q;next C' bm k0 k1 k2 k3 n k5 hm hs=>
   obtain⟨q,e6⟩:=Qz.mp q;obtain⟨q,e5⟩:=Qz.mp q;obtain⟨q,e4⟩:=Qz.mp q;obtain⟨q,e3⟩:=Qz.mp q;obtain⟨e1,e2⟩:=Qz.mp q;cases beq_iff_eq.mp e1;cases beq_iff_eq.mp e2;rcases cd with⟨c1,c2,c3,c4,c5,c6,c7,c8,c9,ca,cb⟩
   rcases sl with⟨sl⟩
   have e7:cb=false:=by
    cases cb with
    |false=>rfl
    |true=>cases e3
   have hm:=hm;have hs:=hs;subst hm hs e7;have hn:h.Ns c4 (h.nsMap c4):=.of_isNs<|PySem.W.isNs_of_in X e5;exact⟨_,_,_,_,_,_,_,_,_,_,_,_,_,_,_,_,_,X _ _ ho,hn,PySem.W.nsMap_none_of_in X e5<|beq_iff_eq.mp e6,PySem.W.tail_of_in X e4⟩
  next=>cases q
 next=>cases q
def Qob(x:aO P w H h a o):∃u,h.get? a=some u:=by
 cases o with
 |lst xs=>obtain⟨_,_,_,_,e⟩:=x;exact⟨_,e⟩
 |tup xs=>obtain⟨_,_,_,p⟩:=x;obtain⟨_,e,_⟩:=p;exact⟨_,e⟩
 |dK kvs=>obtain⟨_,_,_,_,o,_,_,e,_⟩:=x;exact⟨_,e⟩
 |dT kvs=>obtain⟨_,_,_,_,o,_,_,e,_⟩:=x;exact⟨_,e⟩
 |set S n=>obtain⟨o,_,_,_,e,_⟩:=x;exact⟨_,e⟩
 |ins C dx fs=>obtain⟨_,_,_,e,_⟩:=x;exact⟨_,e⟩
 |own y=>exact x
 |xd fs=>obtain⟨_,⟨_,_,_,e,_⟩,_⟩:=x;exact⟨_,e⟩
 |rV lo hi=>obtain⟨_,_,_,e⟩:=x;exact⟨_,e⟩
 |jt ob u=>exact⟨_,x.1⟩
 |pW ps=>exact⟨_,x⟩
 |met f y=>exact⟨_,x⟩
 |ext φ=>exact x.2.1
def Fly(P:QB)(w:Jf)(outer:List Env)(H:Hp)(s:Xe)(C:Xb)(H':Hp)(e:Xc)(s':Xe):Prop:=
 ∃(a t:Xb)(B:Xl),e=.ref a/\s'.os=s.os/\nz s'.gens/\QCo B outer a (.ref C) (.ref t) s'.heap/\s.heap.get? a=none/\H' a=none /\
  ∀h2:Xl,B.StaysIn h2->s'.heap.UpToSlots h2->Un (gQ outer) [] H H' s.heap h2/\cz P w H' h2
def aQ(P:QB)(w:Jf):jg:=λouter H s E e s'=>∃C H',Fly P w outer H s C H' e s'/\E (.ref C) none H'
def RP(E:XK)(C:Xb)(te:TE):TS:=λ_ σ H=>te σ H λ_ H1=>E (.ref C) none H1
section
variable{X:Cx}{E:XK}{C:Xb}{x:Str}{e0:JO}{te:TE}{np XJ pos:Pos}
def QAO(I:Inv X XI σ H s)(dt:X.stack=X.env::X.outer)(mP:X.env.frame=some X.env.locals)(hex:X.ex=[])
  (hx:Heap.MadeExcOf s.heap h1 a (.ref C) vs) :
  Xh M X.A (leaving X.env<|.ref a) (λ_ s2=>Fly X.prog X.w X.outer X.H₀ X.s₀ C H (.ref a) s2) EE { s with heap:=h1 }:=by
 have fr:X.A.frames=some (X.env::X.outer):=by rw[<- dt];exact I.ok.frames
 have ff:s.heap.FunFrames X.base (X.env::X.outer):=by rw[<- dt];exact I.stack
 have sy:∀env∈X.env::X.outer,∀b,env.frame=some b->b∈gQ (X.env::X.outer):=λenv he b hb=>LF.mpr ⟨env,he,hb⟩
 refine wpAny_leaves_madeW fr mP (λb o q=>UP _ q) (PySem.W.funFrames_hide ff sy) hx λh' t x1 x2 x3 x4=>?_
 have xI:∀b:Xb,b∉X.ex:=λb=>by rw[hex];simp
 have yu:X.s₀.heap.get? a=none:=by
  cases q:X.s₀.heap.get? a with
  |none=>rfl
  |some o=>
   obtain⟨o',e⟩:=I.base.there a o q<|xI a;rw[hx.new] at e;cases e
 have yt:H a=none:=by
  cases q:H a with
  |none=>rfl
  |some o=>
   obtain⟨u,e⟩:=Qob<|I.au a o q;rw[hx.new] at e;cases e
 have stf:=λb hb=>I.gn b (by rw[dt];exact hb)
 refine⟨a,t,_,rfl,I.os,I.bare,x1,yu,yt,λh2 st up=>?_⟩;have Az:=((QBJ hx.keeps).trans x4).trans up;have kp:=λb o e n=>st b o<|U6 _ e n
 have own:∀b o,X.s₀.heap.get? b=some o->b≠X.env.locals:=λb o e z=>by
  have h1:=Ql e;have h2:=I.ok.above;rw[z] at h1;exact X5 (QM h1 h2)<|Yg _
 have ND:∀b o,X.s₀.heap.get? b=some o->b∉gQ X.outer->b∉gQ (X.env::X.outer):=λb o e n hb=>by
  unfold gQ at hb n;rw[Y8,mP] at hb;rcases Qv.mp hb with z | z
  ·exact own b o e z
  ·exact n z
 have yl:∀b∈gQ X.outer,∀o,s.heap.get? b=some o->∀vs,o.data≠.fields vs:=λb hb o e=>by
  obtain⟨_,o',gO,hd⟩:=I.cf.mem hb;rw[e] at gO;cases gO;exact hd
 refine⟨⟨λb o e n hb _=>kp b o (I.base.keep b o e n hb<|xI b)<|ND b o e hb,λb o e n hb _=>?_,λb o e n _=>I.base.free b o e n<|xI b,λb o e _=>?_,I.base.cU,I.base.dz,I.base.dN⟩,λb o e=>?_⟩
 ·obtain⟨sl,e1⟩:=I.base.slot b o e n hb<|xI b;obtain⟨rQ,e2⟩:=Az b _ e1<|yl b hb _ e1;exact⟨rQ,e2⟩
 ·obtain⟨o',e1⟩:=I.base.there b o e<|xI b;by_cases hb:b∈gQ X.outer
  ·obtain⟨rQ,e2⟩:=Az b _ e1<|yl b hb _ e1;exact⟨_,e2⟩
  ·exact⟨o',kp b o' e1<|ND b o e hb⟩
 ·refine(I.au b o e).eU (λc u hc q=>kp c u q λhm=>?_) (λ_ q=>q) λ_ _ q=>q
  have z:=stf c hm;rcases hc with r | r
  ·rw[r,e] at z;cases z
  ·rw[r] at z;cases z
def zy(xX:∀e s1,Xh (Xg X.prog X.w) X.A (leaving X.env e) (λ_ s2=>aQ X.prog X.w X.outer X.H₀ X.s₀ E e s2) (λe' s2=>aQ X.prog X.w X.outer X.H₀ X.s₀ E e' s2) s1->X.xe e s1)
  (dt:X.stack=X.env::X.outer)(mP:X.env.frame=some X.env.locals)(hex:X.ex=[])(hc:X.calm=true)(hg:Gl X x)(hm:X.mg x=some (.ref C))(q:JH X.K C cD "ValueError.__new__" = true)
  (ha:PE X e0 te)(he:Xi [e0] X.env=[(false,eval e0 X.env)]:=by rfl)(hd:(x == ("__debug__" : Str))=false:=by decide) :
  PS X (.Raise (some<|.Call (.Name x np) [e0] [] XJ) none pos) (RP E C te):=by
 intro XI s σ H D I h;obtain⟨bm,N,nm,qn,bs,hdct,sn,sub,ab,col,dd,k0,k1,k2,k3,k5,mN,hC,hN,hni,T⟩:=Qnm I.ok.mod.mM q;refine wpAny_Raise_call_subT (k5:=k5) (k3:=k3) (k2:=k2) (k1:=k1) (k0:=k0) (dd:=dd) (col:=col) (ab:=ab) (sub:=sub) (sn:=sn) (hdct:=hdct) (bs:=bs) (N:=N) (q:=qn) (nm:=nm) (C:=C) Qf4 (T.hasType Qf4.hasBase) (I.ok.hd hc) (by rw[he];rfl) hni<|uo I hg hm ?_ hd;refine⟨rfl,?_⟩;rw[he];refine UJ (Dh<|ax (ha XI s σ H _ I h) λu s1 ⟨v,H1,I1,r1,q1⟩=>LB ⟨rfl,by show 1<=Xj;decide,I1.bk _ _ hC,hN.keeps I1.bk,T.keeps I1.bk,λh' e hx=>?_⟩);exact xX _ _<|ax (QAO I1 dt mP hex hx) λ_ s2 z=>⟨C,H1,z,q1⟩
end
def oC(a C:Xb):HO:=.ext<|fu a C
structure u0 (K:Qa) (C R:Xb):Prop where
 ty:KY K (.ref R)=some (.type "type")
 cls:(zT K R).isSome=true
 base:Y9 K R (.type "BaseException")=some true
 sub:Y9 K C (.ref R)=some true
def QlE{K:Qa}(X:K.In h)(c:(zT K R).isSome=true):PySem.W.Looks M h (isType<|.ref R) true:=by
 unfold zT at c;split at c
 ·rename_i ho
  intro A' Q' E' s' k z;exact Xa<|HU (k _ _<|X _ _ ho)<|wpAny_pure z
 ·cases c
def QlQ{K:Qa}(X:K.In s.heap)(I:fu a C s.heap)(c:u0 K C R)(h:Q true s) :
  Xh M A (excMatches (.ref a)<|.ref R) Q E s:=by
 obtain⟨h0,g0,d0,t0,o0⟩:=s;have l1:=PySem.W.looks_typeIn (M:=M) X c.ty;have l2:=QlE (M:=M) X c.cls;have l3:=U7 (M:=M) X c.base;have l4:=U7 (M:=M) X c.sub;have l5:=I.ty (M:=M)
 repeat (first | lk | exact h)
abbrev Fo (X:Cx) (e:Xc):Cx:={ X with A:=X.A.mark<|some e,calm:=false,xe:=λ_ _=>False }
section
variable{X:Cx}{XI:List (Xb×Xp)}{σ:L2.St}{H:Hp}{s:Xe}
def Tv(I:Inv X XI σ H s)(e:Xc):Inv (Fo X e) XI σ H s:=
 ⟨⟨I.ok.mod,I.ok.kind,I.ok.glob,I.ok.blt,I.ok.above,I.ok.inj,I.ok.has,I.ok.sM,nofun,I.ok.frames,I.ok.u7,I.ok.ko,I.ok.bs,I.ok.jX,I.ok.iR,I.ok.fL,I.ok.cf,I.ok.lu⟩,I.os,I.bare,I.base,I.loc,I.cell,I.free,I.be,I.pin,I.au,I.len⟩
def QsE(ok:X.Ok)(I:Inv (Fo X e) XI σ H s):Inv X XI σ H s:=⟨ok,I.os,I.bare,I.base,I.loc,I.cell,I.free,I.be,I.pin,I.au,I.len⟩
def Qor(I:Inv X XI σ H s)(hf:H a=none)(h0:X.s₀.heap.get? a=none)(hp:∀p∈X.pn++XI,p.1≠a)(x:fu a C s.heap):Inv X XI σ (upd H a<|oC a C) s:=by
 obtain⟨o,vs,ho,hcl,hd⟩:=id x;have ne:∀b u,H b=some u->b≠a:=λb u e z=>by rw[z,hf] at e;cases e
 refine⟨I.ok,I.os,I.bare,⟨I.base.keep,I.base.slot,λb u e n hx=>?_,I.base.there,λb xs e=>?_,λb u xs e=>?_,λb ps e=>?_⟩,I.loc,I.cell,?_,λy c e=>?_,λp qf=>?_,λb u e=>?_,I.len⟩
 ·rw[QH (λz=>by rw[z,h0] at e;cases e)];exact I.base.free b u e n hx
 ·have q:=I.base.cU b xs e;rw[QH<|ne b _ q];exact q
 ·have q:=I.base.dz b u xs e;rw[QH<|ne b _ q];exact q
 ·obtain⟨m,q⟩:=I.base.dN b ps e;exact⟨m,by rw[QH<|ne b _ q];exact q⟩
 ·obtain⟨m,⟨oL,es,ep,qi,N5,_⟩,_⟩:=I.loc;rw[QH (λz=>by rw[z,ho] at qi;cases qi;rw[hd] at N5;cases N5)];exact I.free
 ·obtain⟨v,oc,x_,N4⟩:=I.cell y c e;rw[QH (λz=>by rw[z,ho] at x_;cases x_;rw[hd] at N4;cases N4)];exact I.be y c e
 ·obtain⟨e,n,r⟩:=I.pin p qf;exact⟨e,by rw[QH<|hp p qf];exact n,r⟩
 ·by_cases hb:b=a
  ·subst hb;rw[QC] at e;cases e;exact⟨x,⟨o,ho⟩,λh1 h2 y k=>by
    obtain⟨o',vs',e',c',d'⟩:=y;exact⟨o',vs',k _ e',c',d'⟩⟩
  ·rw[QH hb] at e;exact(I.au b u e).eU (λ_ _ _ q=>q) (λc q=>by rw[QH<|ne c _ q];exact q) λc xs q=>by rw[QH<|ne c _ q];exact q
def QsF(I:Inv X XI σ H s)(hN:X.N.Nodup)(hi:X.N[i]? = some n)
  (hm:∀(j:Nat)(x:Str)(u:V),X.N[j]? = some x->σ[j]? = some (some u)->iY X.env.scope x->∃y,RelV u y/\Look X.env s.heap m x y)
  (hn:h'.Ns X.env.locals λx=>if x=n then v else m x)(hs:Yy X.env.locals s.heap h'):Inv X XI (σ.set i none) H { s with heap:=h',toks:=tk }:=by
 have ve:∀b o,X.s₀.heap.get? b=some o->b≠X.env.locals:=λb o e=>Qy<|QM (Ql e) I.ok.above
 have lI:=I.lI;refine⟨I.ok,I.os,I.bare,⟨λb o e z hb hx=>(hs.2 b<|ve b o e).trans<|I.base.keep b o e z hb hx,λb o e z hb hx=>?_,I.base.free,λb o e hx=>?_,I.base.cU,I.base.dz,I.base.dN⟩,⟨_,hn,λj y u e1 e2 e3=>?_⟩,λy c e=>?_,I.free,I.be,λp hp=>?_,λb o e=>?_,?_⟩
 ·obtain⟨sl,e1⟩:=I.base.slot b o e z hb hx;exact⟨sl,(hs.2 b<|ve b o e).trans e1⟩
 ·obtain⟨o',e1⟩:=I.base.there b o e hx;exact⟨o',(hs.2 b<|ve b o e).trans e1⟩
 ·by_cases hj:j=i
  ·subst hj;rw[Lm] at e2;split at e2
   ·split at e2<;>cases e2
   ·exact X5 rfl ‹¬_›
  ·rw[Dm<|ir hj] at e2;obtain⟨u',r',q⟩:=hm j y u e1 e2 e3;refine⟨u',r',?_⟩;rcases q with⟨k,e⟩ | ⟨k,c,e,z⟩
   ·have:y≠n:=λe=>hj<|K4 hN e1<|e ▸ hi
    exact .inl ⟨k,by simp[this,e]⟩
   ·exact .inr ⟨k,c,e,z.sameBut hs<|lI y c e⟩
 ·obtain⟨w',z⟩:=I.cell y c e;exact⟨w',z.sameBut hs<|lI y c e⟩
 ·obtain⟨e,z,ne,nf,d⟩:=I.pin p hp;exact⟨(hs.2 p.1 ne).trans e,z,ne,nf,d⟩
 ·refine(I.au b o e).eU (λc u hc q=>(hs.2 c ?_).trans q) (λ_ q=>q) λ_ _ q=>q
  rintro rfl;have z:=I.free;rcases hc with r | r
  ·rw[r,e] at z;cases z
  ·rw[r] at z;cases z
 ·rw[ZJ];exact I.len
end
def XP(X:Cx)(XI:List (Xb×Xp))(Ex:L2.St->Xb->Hp->Prop)(e:Xc)(s1:Xe):Prop:=
 ∃(σ:L2.St)(C:Xb)(H':Hp)(a t:Xb)(B:Xl),e=.ref a/\QCo B X.stack a (.ref C) (.ref t) s1.heap/\H' a=none/\X.s₀.heap.get? a=none/\(∀p∈X.pn++XI,p.1≠a) /\
  (∀(h2:Xl)(tk:Nat),B.StaysIn h2->s1.heap.UpToSlots h2->Inv X XI σ H' { s1 with heap:=h2,toks:=tk })/\Ex σ C H'
abbrev TX:=L2.St->Hp->VK->(Xb->Hp->Prop)->Prop
def wY(X:Cx)(e:JO)(t:TX):Prop:=∀(XI:List (Xb×Xp))(s:Xe)(σ:L2.St)(H:Hp)(Q:VK)(Ex:Xb->Hp->Prop),Inv X XI σ H s->t σ H Q Ex ->
 Xh (Xg X.prog X.w) X.A (eval e X.env) (EP X XI σ Q) (XP X XI λσ1 C H1=>σ1=σ/\Ex C H1) s
structure yI (k:Nat) (A:JF):Prop where
 dp:A.depth+3*k+5<recursionLimit
 un:A.units+16*k+200<cLine
def ao.m(r:ao k A)(e:Xc):yI k (A.mark<|some e):=⟨r.dp,r.un⟩
structure w5 (P:QB) (w:Jf) (K:Qa) (mg:Str->Option Xc) (base:Xl) (k:Nat) (f:Xb) (fd:Zs) (ps:List Str) (sp:Sp):Prop where
 len:∀vs H Q E,sp vs H Q E->vs.length=ps.length
 run:∀(A:JF)(outer:List Env)(s:Xe)(H:Hp)(args:Args)(us:List Xc)(vs:List V)(Q:VK)(E:XK),yI k A->dE P w K mg base A outer s H->o7 s fd args (ps.zip us)->ah vs us->sp vs H Q E ->
  Xs (Xg P w) A (.call (.ref f) args) (CR aq outer P w H s Q E) s
def Gh(P:QB)(w:Jf)(K:Qa)(mg:Str->Option Xc)(base:Xl)(N:List Str)(qual:Str)(scope:gW)(f:Xb)(cd:Xc)(A:JF)(outer:List Env)(s:Xe)(H:Hp)(E:XK):Cx:=
 { bS aq P w K mg base N qual scope f cd A outer s H E with calm:=false,xe:=λ_ _=>False }
section
variable{P:QB}{w:Jf}{K:Qa}{mg:Str->Option Xc}{base:Xl}
def QlX 
  (S:Ya N ps scope)(e0:dE P w K mg base A outer s H)(hl:vs.length=ps.length)(r:ah vs us)
  (x:InCallC s s.heap.objs.size (bindL (envOfC qual scope s.heap.objs.size f cd).kindOf (ps.zip us) λ_=>none) (cellsFrom (s.heap.objs.size+1) scope.names []) (bindC (envOfC qual scope s.heap.objs.size f cd).kindOf (ps.zip us) λ_=>none) s1) :
  L2.Inv (Gh P w K mg base N qual scope f cd A outer s H E) [] (start N vs) H s1:=by
 have e1:dE P w K mg base { A with handled:=none } outer s H:=⟨e0.frames,e0.mod,e0.bs,e0.jX,e0.cf,e0.lu,e0.au,e0.bare⟩;have I:=Wf (CX:=aq) (E:=E) S rfl e1 hl r x;exact⟨⟨I.ok.mod,I.ok.kind,I.ok.glob,I.ok.blt,I.ok.above,I.ok.inj,I.ok.has,I.ok.sM,nofun,I.ok.frames,I.ok.u7,I.ok.ko,I.ok.bs,I.ok.jX,I.ok.iR,I.ok.fL,I.ok.cf,I.ok.lu⟩,I.os,I.bare,I.base,I.loc,I.cell,I.free,I.be,I.pin,I.au,I.len⟩
def okM{st:Ze}(F:iz K x qual st f fd)(S:Ya N ps<|QL st)(len:∀vs H Q E,sp vs H Q E->vs.length=ps.length)
  (XL:∀(aj:Xc)(A:JF)(outer:List Env)(s:Xe)(H:Hp)(vs:List V)(Q:VK)(E:XK),yI k (A.deeper<|envOfC qual (QL st) s.heap.objs.size f aj)->sp vs H Q E ->
   ∃t,aV (Gh P w K mg base N qual (QL st) f aj A outer s H E) (ZS st) t/\t { nx:=λ_ H'=>Q .aL H',rt:=Q } (start N vs) H):w5 P w K mg base (k+1) f fd ps sp:=by
 obtain⟨oc,od,kV,doc,pm,an,aj,ct,n_,rfl,lk,bQ⟩:=F.ex;refine⟨len,λA outer s H args us vs Q E hr e0 hb r a8=>?_⟩;have hl:=len _ _ _ _ a8;have KX:=e0.mod.mM.keeps λb o e=>(e0.bs b o e).1
 have lim:=e0.mod.nolimit.keeps λb o e=>(e0.bs b o e).1
 have h9:∀y∈ps.zip us,(QL st).names.lookup y.1=some .local∨((QL st).names.lookup y.1=some .cell/\((cellsFrom (s.heap.objs.size+1) (QL st).names []).lookup y.1).isSome=true):=λ⟨n,v⟩ hy=>by
  rcases S.par n (CS hy).1 with q | q
  ·exact .inl q
  ·exact .inr ⟨q,Me _ _ _<|.inl q⟩
 have hdp:A.depth<recursionLimit:=by have:=hr.dp;omega
 refine RL hdp (KX _ _ lk) rfl S.co S.gen rfl (UN KX bQ)<|hb _ _ _ _<|Vc S.kind h9 λenv he s1 x=>?_;subst he;refine⟨lim.keeps x.toInCall.keep,codeAny_func ?_⟩;have hr2:yI k (A.deeper<|envOfC qual (QL st) s.heap.objs.size f aj):=⟨by have:=hr.dp;show A.depth+1+3*k+5<_;omega,by have:=hr.un;show A.units+3+16*k+200<_;omega⟩;obtain⟨t,ht,hq⟩:=XL aj A outer s H vs Q E hr2 a8;have I:=QlX (E:=E) S e0 hl r x;refine Xk (ht [] s1 (start N vs) H _ I hq) (λfl s' hs=>?_) λe s' hs=>Q9 hs
 have fin:∀{σ':L2.St}{H':Hp}{v:V}{u:Xc},L2.Inv (Gh P w K mg base N qual (QL st) f aj A outer s H E) [] σ' H' s'->RelV v u->Q v H'->CE outer P w H s Q u s':=
  λ{σ' H' v u} J rv q=>⟨v,H',J.os,J.bare,J.base,J.au,rv,q⟩
 cases fl with
 |ret u=>
  obtain⟨v,σ',H',J,rv,q⟩:=hs;exact fin J rv q
 |next=>
  obtain⟨σ',H',J,q⟩:=hs;exact fin (v:=V.aL) J rfl q
 |brk=>
  obtain⟨_,_,_,q⟩:=hs;exact Q9 q
 |cont=>
  obtain⟨_,_,_,q⟩:=hs;exact Q9 q
end
section
variable{X:Cx}{k:Nat}{f:Xb}{fd:Zs}{ps:List Str}{sp:Sp}{x:Str}{p pos:Pos}{e:JO}{es:List JO}{t:TA}
def VH(F:w5 X.prog X.w X.K X.mg X.base k f fd ps sp)(hr:yI k X.A)(hg:Gl X x)(hm:X.mg x=some (.ref f))(hk:Q7 X.K (.ref f)=true)(hb:Binds X.K fd ps [])
  (ha:PA X (e::es) t)(bE:(x == ("__debug__" : Str))=false:=by decide)(he:Xi (e::es) X.env=(false,eval e X.env)::Xi es X.env:=by rfl)(hpl:(Xq pos<|Xi es X.env).any (·.1)=false:=by rfl) :
  PE X (.Call (.Name x p) (e::es) [] pos) (λσ H Q=>t σ H λvs H1=>sp vs H1 Q E0):=by
 intro XI s σ H Q I h;refine ZD<|uo I hg hm ?_ bE;refine Yj I.ok.mod.mM hk (ax (ha pos XI s σ H _ I h) λus s1 ⟨vs,H1,I1,r,q⟩=>⟨I1.bP,?_⟩) he hpl;have hl:us.length=ps.length:=by rw[<- r.length];exact F.len _ _ _ _ q
 have yo:o7 s1 fd ⟨us,[]⟩ (ps.zip us):=by
  have z:=hb s1 us I1.bP (by rw[JW];exact hl);rw[JW] at z;exact z
 refine rq<|YN (F.run X.A X.stack s1 H1 ⟨us,[]⟩ us vs Q _ hr I1.lD yo r q) λr s2 hq=>?_;cases r with
 |error e=>exact Q9 hq
 |ok fl=>
  cases fl with
  |ret u=>exact I1.after hq
  |next=>exact Q9 hq
  |brk=>exact Q9 hq
  |cont=>exact Q9 hq
end
section
variable{X:Cx}
def WD:aF X (.builtin "isinstance") (λxs H Q=>∃a C y c b,xs=[.ref a,y]/\H a=some (oC a C)/\pF X.K C/\(∀u,RelV y u->u=c)/\Zj X.K (.ref C) c=some b/\Q (.bl b) H):=by
 intro XI s σ H xs us Q I r h;obtain⟨a,C,y,c,b,rfl,ha,hc,hy,e,q⟩:=h;obtain⟨u,v,rfl,ru,rv⟩:=vals2 r;cases(ru);cases hy v rv;exact JU (Qxq hc) I.bP (I.au a _ ha).1 e nofun λtk=>⟨.bl b,H,I.tok tk,rfl,q⟩
def cj{bs:List Bool}(r:ah (bs.map V.bl) us):us=bs.map uu:=by
 induction bs generalizing us with
 |nil=>cases r;rfl
 |cons b bs ih=>
  cases r with
  |cons r t=>
   cases(r);rw[ih t];rfl
def zi:Xc->Bool
 |.bool b=>b
 |_=>false
def Ql1(bs:List Bool):(bs.map uu).countP zi=bs.countP id:=by
 rw[List.countP_map];exact List.countP_congr λb _=>Iff.rfl
def QvK:V->List V->Hp->VK->Prop:=λx vs H Q=>∃(l:Xb)(bs:List Bool),x=.ref l/\vs=[.bl true]/\H l=some (.lst<|bs.map V.bl)/\Q (.int (bs.countP id:Nat)) H
def Qsu:w4 X "list.count" QvK:=by
 intro XI s σ H x vs v us Q I rx rv h;obtain⟨l,bs,rfl,rfl,hH,q⟩:=h;cases rx;obtain⟨u,rfl,ru⟩:=rv.one;cases(ru);obtain⟨z,its,n,r,hl,e⟩:=I.bF hH;have hi:=cj r;subst hi;refine nP F.slot_list_count ⟨_,e,rfl⟩ F.entry_list_count (F.args_list_count_2 _ _) (SeqAt.list_countAt l (bs.map uu).toArray n none #[] (.bool true) zi) ⟨e,λy hy=>?_,?_⟩
 ·obtain⟨b,_,rfl⟩:=Qq.mp<|Yk.mp hy;have:=LU (A:=X.A.in1) (s:=s) b true;rw[show(b == true)=b by cases b<;>rfl] at this;exact this
 ·have e2:=Ql1 bs;rw[e2];exact⟨.int (bs.countP id:Nat),H,I.tok _,⟨_,rfl⟩,q⟩
def QvI:V->List V->Hp->VK->Prop:=λx vs H Q=>∃(l:Xb)(bs:List Bool)(j:Nat),x=.ref l/\vs=[.bl true]/\H l=some (.lst<|bs.map V.bl)/\bs[j]? = some true/\(∀m,m<j->bs[m]? = some false)/\Q (.int (j:Nat)) H
def Qst:w4 X "list.index" QvI:=by
 intro XI s σ H x vs v us Q I rx rv h;obtain⟨l,bs,j,rfl,rfl,hH,hj,hm,q⟩:=h;cases rx;obtain⟨u,rfl,ru⟩:=rv.one;cases(ru);obtain⟨z,its,n,r,hl,e⟩:=I.bF hH;have hi:=cj r;subst hi;have df:=(QX.mp hj).1;have vi:(bs.map uu).toArray.size=bs.length:=by simp
 rw[Qd] at z;have hbig:bs.length<2^60:=JJ z (by decide);refine nP F.slot_list_index ⟨_,e,rfl⟩ F.entry_list_index (F.args_list_index_2 _ _) (SeqAt.list_indexAt l (bs.map uu).toArray n none #[] (.bool true) zi j (by rw[vi];exact df) (by omega) ?_ ?_) ⟨e,λy hy=>?_,?_⟩
 ·have:=(QX.mp hj).2;simp[zi,this]
 ·intro m hm1 yd;have:=(QX.mp<|hm m yd).2;simp[zi,this]
 ·obtain⟨b,_,rfl⟩:=Qq.mp<|Yk.mp hy;have:=LU (A:=X.A.in1) (s:=s) b true;rw[show(b == true)=b by cases b<;>rfl] at this;exact this
 ·exact⟨.int j,H,I.tok _,⟨_,rfl⟩,q⟩
end
end Rx


namespace Rd
open L2
mutual
inductive Dat (H:Hp):V->Xd->Prop
 |aL:Dat H .aL .none
 |bl (b:Bool):Dat H (.bl b)<|.bool b
 |int (i:Int):Dat H (.int i)<|.int i
 |str (x:Str):Jb (.str x)=true->Dat H (.str x) (.str x)
 |tup {a:Xb} {xs:List V} {ds:List Xd}:H a=some (.tup xs)->aZ H xs ds->Dat H (.ref a) (.tuple ds)
 |lst {a:Xb} {xs:List V} {ds:List Xd}:H a=some (.lst xs)->aZ H xs ds->Dat H (.ref a) (.list ds)
inductive aZ (H:Hp):List V->List Xd->Prop
 |nil:aZ H [] []
 |cons {x:V} {xs:List V} {d:Xd} {ds:List Xd}:Dat H x d->aZ H xs ds->aZ H (x::xs) (d::ds)
end
def aZ.ind{M:V->Xd->Prop}{N:List V->List Xd->Prop}(n0:M .aL .none)(n1:∀b,M (.bl b)<|.bool b)(n2:∀i,M (.int i)<|.int i)(n3:∀x,Jb (.str x)=true->M (.str x) (.str x))(n4:∀{a xs ds},H a=some (.tup xs)->N xs ds->M (.ref a) (.tuple ds))(n5:∀{a xs ds},H a=some (.lst xs)->N xs ds->M (.ref a) (.list ds))(n6:N [] [])(n7:∀{x xs d ds},M x d->N xs ds->N (x::xs) (d::ds)):(∀{x d},Dat H x d->M x d)/\∀{xs ds},aZ H xs ds->N xs ds:=
 ⟨λq=>Dat.rec (motive_1:=λx d _=>M x d) (motive_2:=λx d _=>N x d) n0 n1 n2 n3 (λe _=>n4 e) (λe _=>n5 e) n6 (λ_ _=>n7) q,λq=>aZ.rec (motive_1:=λx d _=>M x d) (motive_2:=λx d _=>N x d) n0 n1 n2 n3 (λe _=>n4 e) (λe _=>n5 e) n6 (λ_ _=>n7) q⟩
def V'(ok:cz P w H h):(∀{x d},Dat H x d->∀v,RelV x v->(∃as,Reads h v d as)/\d.canLay0=true)/\∀{xs ds},aZ H xs ds->∀vs,ah xs vs->(∃as,Eb h vs ds as)/\Z0 ds=true:=by
 refine aZ.ind (λv r=>?_) (λb v r=>?_) (λi v r=>?_) (λz c v r=>?_) (λe q v r=>?_) (λe q v r=>?_) (λvs r=>?_) λq qs vs r=>?_
 ·cases r;exact⟨⟨_,.none⟩,rfl⟩
 ·cases r;exact⟨⟨_,.bool b⟩,rfl⟩
 ·obtain⟨t,rfl⟩:=r;exact⟨⟨_,.int i t⟩,rfl⟩
 ·obtain⟨t,rfl⟩:=r;exact⟨⟨_,.str z t⟩,c⟩
 ·cases r;obtain⟨_,its,rv,o,ho,hc,_,n,hd⟩:=ok _ _ e;obtain⟨⟨as,ra⟩,cl⟩:=q its rv;exact⟨⟨as,.tuple ho hc hd ra⟩,cl⟩
 ·cases r;obtain⟨_,its,n,rv,ho⟩:=ok _ _ e;obtain⟨⟨as,ra⟩,cl⟩:=q its rv;exact⟨⟨_,.list ho rfl rfl ra⟩,cl⟩
 ·cases r;exact⟨⟨_,.nil⟩,rfl⟩
 ·cases r with
  |cons r rs=>
   obtain⟨⟨a1,r1⟩,c1⟩:=q _ r;obtain⟨⟨a2,r2⟩,c2⟩:=qs _ rs;exact⟨⟨_,.cons r1 r2⟩,by simp[Z0,c1,c2]⟩
def rE(ok:cz P w H h)(d:Xd)(x:V)(v:Xc)(q:Dat H x d)(r:RelV x v):(∃as,Reads h v d as)/\d.canLay0=true:=(V' ok).1 q v r
def C4(ok:cz P w H h)(ds:List Xd)(xs:List V)(vs:List Xc)(q:aZ H xs ds)(r:ah xs vs):(∃as,Eb h vs ds as)/\Z0 ds=true:=(V' ok).2 q vs r
def Dat.same(q:Dat H x d)(s:ag H H'):Dat H' x d:=Dat.rec (motive_1:=λx d _=>Dat H' x d) (motive_2:=λxs ds _=>aZ H' xs ds) .aL .bl .int .str (λe _ q=>.tup (s _ _ e) q) (λe _ q=>.lst (s _ _ e) q) .nil (λ_ _ q qs=>.cons q qs) q
def aZ.length{H:Hp}:∀{xs:List V}{ds:List Xd},aZ H xs ds->xs.length=ds.length
 |_,_,.nil=>rfl
 |_,_,.cons _ q=>by rw[Qw,Qw,q.length]
section
variable{X:Cx}
def QET(X:Cx):R2:=λx y H Q=>∃dx dy,Dat H x dx/\Dat H y dy/\X.A.units+min dx.depth dy.depth<cLine/\Q (.bl<|Q3 dx dy) H
def Qz8:aK X (Xm .Eq) (QET X):=by
 intro XI s σ H x y v u Q I rx ry h;obtain⟨dx,dy,qx,qy,hu,q⟩:=h;obtain⟨⟨as,ra⟩,ca⟩:=rE I.au dx x v qx rx;obtain⟨⟨bs,rb⟩,cb⟩:=rE I.au dy y u qy ry;exact SeqAt.compareEq_reads ra rb ca cb hu ⟨.bl _,H,I,rfl,q⟩
open Classical in
noncomputable def ie (h:Xl) (d:Xd) (y:Xc):Bool:=decide (∃e as,Reads h y e as/\e.canLay0=true/\Q3 e d=true)
open Classical in
def QDB(q:∃e as,Reads h y e as/\e.canLay0=true/\Q3 e d=true):ie h d y=true:=by
 exact X1 q
open Classical in
def QDC(q:¬ ∃e as,Reads h y e as/\e.canLay0=true/\Q3 e d=true):ie h d y=false:=by
 exact X0 q
def Rz(r:Reads h y e as)(c:e.canLay0=true):ie h d y=Q3 e d:=by
 cases q:Q3 e d with
 |true=>exact QDB ⟨e,as,r,c,q⟩
 |false=>
  refine QDC λ⟨e',as',r',c',q'⟩=>?_
  rw[<- SeqAt.Reads.unique e e' y as as' c r r',q] at q';cases q'
def zm:∀{vs:List Xc}{ds:List Xd}{as:List Xb},Eb h vs ds as->Z0 ds=true->vs.any (ie h d)=ds.any λe=>Q3 e d
 |_,_,_,.nil,_=>rfl
 |_,_,_,.cons r rs,c=>by
  simp only[Z0,Jp] at c;rw[wN,wN,Rz r c.1,zm rs c.2]
def zj(rv:Reads s.heap v d bs)(cv:d.canLay0=true):∀{vs:List Xc}{ds:List Xd}{as:List Xb},Eb s.heap vs ds as->Z0 ds=true->A.units+d.depth<cLine ->
  ∀u∈vs,Hv A s u v<|ie s.heap d u
 |_,_,_,.nil,_,_=>λu hu=>nomatch hu
 |_,_,_,.cons (d:=e) r rs,c,hu=>λu hm=>by
  simp only[Z0,Jp] at c;rcases Qv.mp hm with z | z
  ·subst z;rw[Rz r c.1];exact SeqAt.eqAt_reads e d A s _ v _ bs r rv c.1 cv<|JJ (Th (Pc _ _) _) hu
  ·exact zj rv cv rs c.2 hu u z
def QD9(X:Cx)(neg:Bool):R2:=λx y H Q=>∃c ps ds d,y=.ref c/\H c=some (.tup ps)/\aZ H ps ds/\Dat H x d/\X.A.in1.units+d.depth<cLine/\Q (.bl<|if neg then !(ds.any λe=>Q3 e d) else ds.any λe=>Q3 e d) H
def Qz7:aK X (Xm .In) (QD9 X false):=by
 intro XI s σ H x y v u Q I rx ry h;obtain⟨c,ps,ds,d,rfl,hc,qs,qx,hu,q⟩:=h;cases ry;obtain⟨⟨as,ra⟩,ca⟩:=rE I.au d x v qx rx;obtain⟨_,its,rv,tp⟩:=I.au c _ hc;have tp:=dQ.tup tp;obtain⟨⟨bs,rb⟩,cb⟩:=C4 I.au ds ps its qs rv;refine RZ (ie s.heap d) tp (λw hw=>zj ra ca rb cb hu w<|Yk.mp hw) ⟨.bl _,H,I,rfl,?_⟩;rw[show its.toArray.any (ie s.heap d)=its.any (ie s.heap d) by simp,zm rb cb];exact q
def QnV:aK X (Xm .NotIn) (QD9 X true):=by
 intro XI s σ H x y v u Q I rx ry h;obtain⟨c,ps,ds,d,rfl,hc,qs,qx,hu,q⟩:=h;cases ry;obtain⟨⟨as,ra⟩,ca⟩:=rE I.au d x v qx rx;obtain⟨_,its,rv,tp⟩:=I.au c _ hc;have tp:=dQ.tup tp;obtain⟨⟨bs,rb⟩,cb⟩:=C4 I.au ds ps its qs rv;refine UE (ie s.heap d) tp (λw hw=>zj ra ca rb cb hu w<|Yk.mp hw) ⟨.bl _,H,I,rfl,?_⟩;rw[show its.toArray.any (ie s.heap d)=its.any (ie s.heap d) by simp,zm rb cb];exact q
end
end Rd
namespace L2
def Ite(l:Xb):It:=
 ⟨λi H=>∃xs x,H l=some (.lst xs)/\xs[i]? = some x,
  λi H v H'=>∃p x,H p=none/\(∀xs,H l=some (.lst xs)->xs[i]? = some x)/\v=.ref p/\H'=upd H p (.tup [.int (i:Nat),x]),
  λi H=>∃xs,H l=some (.lst xs)/\xs.length<=i⟩
def QmI{K:Qa}{x1}(cO:e≠it) :
  Turn P w K (.Tuple elts x1 cV) (Ite l) [e,it] e (λi h=>(∃old,IsEnum h e it (i:Nat) old)/\h.IsListIter it l i) where
 mem:=by simp
 obj:=λi h st b hb=>by
  obtain⟨⟨old,a1⟩,⟨o2,a2,_,d2⟩⟩:=st;simp only[Qv,Jo,or_false] at hb;rcases hb with rfl | rfl
  ·exact⟨_,a1,λv q=>nomatch q⟩
  ·exact⟨_,a2,λv q=>by rw[d2] at q;cases q⟩
 keep:=λi h h' st k=>by
  obtain⟨⟨old,a1⟩,⟨o2,a2,c2⟩⟩:=st;exact⟨⟨old,k e (by simp) _ a1⟩,o2,k it (by simp) _ a2,c2⟩
 item:=by
  intro X hP hw hK hc i XI s σ H E I hf st hg;obtain⟨xs,x,h1,hx⟩:=hg;obtain⟨⟨old,a1⟩,a2⟩:=st;obtain⟨its,r1,p1,_⟩:=I.list<|aA.of h1;obtain⟨u,hu,ru⟩:=r1.get hx;refine wpAny_pyNext_enum_item a1 a2 p1.isList (by simpa using hu) cO λh' o' l' tp sz kp=>?_
  have fr:=I.au.fresh<|Qf _;have n1:=Qy<|Ql a1;have n2:it≠s.heap.objs.size:=by
   obtain⟨o2,a2,_⟩:=a2;exact Qy<|Ql a2
  refine⟨_,rfl,Vb o' λh2 e2 s2=>?_⟩;have I1:Inv X XI σ (upd H s.heap.objs.size<|.tup [.int i,x]) { s with heap:=h2,toks:=s.toks+1 }:=by
   refine I.fU hf (λb v hb q=>?_) (Qf _) ⟨by show 2<=Xj;decide,[.int i s.toks,u],.cons ⟨_,rfl⟩<|.cons ru .nil,?_⟩
   ·simp only[Qv,Jo,or_false,not_or] at hb;exact s2.extBut _ _ hb.1<|kp b v hb.1 hb.2 q
   ·exact⟨_,s2.extBut _ _ n1.symm tp,rfl,rfl,0,rfl⟩
  refine⟨.ref s.heap.objs.size,_,I1,rfl,⟨_,x,fr,λxs' q=>?_,rfl,rfl⟩,⟨⟨u,e2⟩,?_⟩,λb hb=>?_⟩
  ·rw[h1] at q;cases q;exact hx
  ·exact l'.extBut s2.extBut cO.symm
  ·simp only[Qv,Jo,or_false] at hb;rcases hb with rfl | rfl
   ·rw[QH n1];exact(hf _<|by simp).1
   ·rw[QH n2];exact(hf _<|by simp).1
 done:=by
  intro X hP hw hK hc i XI s σ H E I hf st hg;obtain⟨xs,h1,he⟩:=hg;obtain⟨⟨old,a1⟩,a2⟩:=st;obtain⟨its,r1,p1,_⟩:=I.list<|aA.of h1;have l1:=r1.length;refine wpAny_pyNext_enum_end (I.ok.hd hc) a1 a2 p1.isList (by simp;omega) λh' kp=>⟨rfl,I.fV hf λb v hb q=>?_⟩
  simp only[Qv,Jo,or_false,not_or] at hb;exact kp b v hb.2 q
 self:=λ_ _ _ _ _ st h=>by
  obtain⟨⟨old,a1⟩,_⟩:=st;exact C9 a1 h
def QDw(ta:TA):TI:=λσ H R=>ta σ H λvs H1=>∃l xs,vs=[.ref l]/\H1 l=some (.lst xs)/\R (Ite l) H1
def WC:Xn "enumerate" = some (.type "enumerate"):=by decide
section
variable{X:Cx}
def Ur{x1}(hg:Gl X "enumerate")(hm:X.mg "enumerate" = none)(ha:PA X [a] ta)(hs:Xi [a] X.env=[(false,eval a X.env)]:=by rfl) :
  PI X (.Tuple elts x1 cV) (.Call (.Name "enumerate" p) [a] [] pos) (QDw ta):=by
 intro XI s σ H R I h;refine Call_<|ph I hg hm WC<|J4 (ax (ha pos XI s σ H _ I h) λus s1 ⟨vs,H1,I1,r1,q1⟩=>?_) hs rfl;obtain⟨l,xs,e,h1,q⟩:=q1;subst e;obtain⟨u,rfl,ru⟩:=vals1 r1;cases(ru);obtain⟨its,w1,p1,_⟩:=I1.list<|aA.of h1;refine call_enumerate_list p1.isList λh' e1 i1 sz kp=>?_
 refine C9 e1 ?_
 refine⟨s1.heap.objs.size+1,_,_,_,H1,rfl,I1.kept kp,QmI (by show ¬(s1.heap.objs.size+1=s1.heap.objs.size);omega),⟨⟨_,e1⟩,i1⟩,λb hb=>?_,q⟩;have dP:s1.heap.objs.size<=b:=by
  simp only[Qv,Jo,or_false] at hb;rcases hb with rfl | rfl<;>omega
 exact I1.ib dP<|I1.au.fresh dP
end
section
variable{prog:QB}{w:Jf}{A:JF}{R:wX->Xe->Prop}{s:Xe}
def QhU 
  (h0:Xs (Xg prog w) A (.compLoop (.ListComp elt [g0,⟨tg,iter,ifs,0⟩] scope pos) 1 it acc env) R s)
  (h:Xh (Xg prog w) A (pyIter it) (λxU s'=>Xs (Xg prog w) A (.compLoop (.ListComp elt [g0,⟨tg,iter,ifs,0⟩] scope pos) 1 xU acc env) R s') (notedBy (Xg prog w) A env λx s'=>R (.error x) s') s) :
  Xs (Xg prog w) A (.compStart (.ListComp elt [g0,⟨tg,iter,ifs,0⟩] scope pos) 1 it acc env) R s:=by
 refine Ik ?_
 refine wpAny_notedAt ?_
 refine Xa<|ZY<|wpAny_ite ?_;split
 ·first
   |exact Xa<|wpAny_pure<|wpAny_pure ⟨rfl,h0⟩
   |exact wpAny_pure ⟨rfl,h0⟩
 ·first
   |exact Xa<|wpAny_rule<|Xa<|wpAny_standAt<|Xa<|Xk h (λxU s' h'=>wpAny_pure ⟨rfl,h'⟩) λ_ _ x=>x
   |exact Xa<|wpAny_rule<|Xa<|wpAny_standAt<|Xa<|Xk h (λxU s' h'=>wpAny_pure<|wpAny_pure ⟨rfl,h'⟩) λ_ _ x=>x
end
def QmG(Q:rz->Xe->Prop)(E:Xc->Xe->Prop)(s:Xe)
  (h:Xh (Xg Y.prog Y.w) Y.A (pyNext<|.ref it) (λr s1=>match r with
   |none=>Q (.done .next) s1
   |some v=>Xh (Xg Y.prog Y.w) Y.A (letOwnedTupleGo tg (.ref it) v) (λ_ s2=>yJ Y tg ifs (Hq Y elt D) v (λs3=>Q (.again<|.compLoop (.ListComp elt [g0,⟨tg,iter,ifs,0⟩] scope XJ) 1 (.ref it) (.ref D) Y.env) s3) s2) E s1) E s) :
  Xh (Xg Y.prog Y.w) Y.A (compTurn (.ListComp elt [g0,⟨tg,iter,ifs,0⟩] scope XJ) 1 (.ref it) (.ref D) Y.env) Q E s:=by
 have e:compTurn (.ListComp elt [g0,⟨tg,iter,ifs,0⟩] scope XJ) 1 (.ref it) (.ref D) Y.env=(do
   Xu iter.pos
   match <- pyNext (.ref it) with
   |none=>pure<|.done .next
   |some v=>
    letOwnedTupleGo tg (.ref it) v
    assign tg Y.env v
    let mut ok:=true
    for c in ifs do
     if ok then ok <- isTrue c Y.env (eval c Y.env)
    if ok then
     (do let _ <- call (.builtin "list.append") [.ref D,<- eval elt Y.env])
    again (.compLoop (.ListComp elt [g0,⟨tg,iter,ifs,0⟩] scope XJ) 1 (.ref it) (.ref D) Y.env)):=by rfl
 refine Xa<|wpAny_standAt<|Xa<|ax h λr s1 h1=>?_;cases r with
 |none=>exact wpAny_pure h1
 |some v=>
  refine Xa<|ax h1 λ_ s2 h2=>(Xa<|Xk h2 (λ_ s4 h4=>Xa<|Xk h4 (λok s5 h5=>?_) λ_ _ f=>f.elim) λ_ _ f=>f.elim);cases ok with
  |false=>exact wpAny_pure h5
  |true=>exact Xa<|Xa<|Xk h5 (λx s6 h6=>Xa<|Xk h6 (λ_ s7 h7=>wpAny_pure<|wpAny_pure h7) λ_ _ f=>f.elim) λ_ _ f=>f.elim
def S4(Y:Cx)(e:JO)(iter:JO)(D:Xb):Act:=λQ s=>Xh (Xg Y.prog Y.w) Y.A (eval iter Y.env) (λx s1=>Xh (Xg Y.prog Y.w) Y.A (pyIter x)
 (λk8 s2=>Xs (Xg Y.prog Y.w) Y.A (.compStart e 1 k8 (.ref D) Y.env) (λr s3=>match r with | .ok _=>Q s3 | .error _=>False) s2) (λ_ _=>False) s1) (λ_ _=>False) s
def G6(wi:TI)(g:TG)(tc:TT)(p:Xb)(te:TE):St->Hp->(Hp->Prop)->Prop:=λσ H k=>wi σ H λJ H1=>kC J (ku σ g tc<|oR p te) k H1
def Qpb(hx:Y.xe=λ_ _=>False)(hc:Y.calm=true)
  (hi:PI Y tg iter wi)(hg:PG Y tg g)(ht:iu Y ifs tc)(he:PE Y elt te):BodyOk Y σ (S4 Y (.ListComp elt [g0,⟨tg,iter,ifs,0⟩] scope XJ) iter D) (G6 wi g tc D te σ):=by
 intro XI s H k Q I h hQ;have iG:∀(v:Xc)(s':Xe),Y.xe v s'->False:=λv s' z=>by rw[hx] at z;exact z
 refine Xk (hi XI s σ H _ I h) (λv s1 h1=>Xk h1 (λk8 s2 h2=>?_) iG) iG;obtain⟨it,fp,tn,J,H2,e,I2,T,eY,f2,hW⟩:=h2;subst e;have loop:Xs (Xg Y.prog Y.w) Y.A (.compLoop (.ListComp elt [g0,⟨tg,iter,ifs,0⟩] scope XJ) 1 (.ref it) (.ref D) Y.env) (λr s3=>match r with | .ok _=>Q s3 | .error _=>False) s2:=
  C1 hc T eY f2 (λQ E s h=>QmG Q E s h) (λx u r=>zp hx hg ht (λσ4=>Kl hx he) x u r) I2 hW λs' H' I' q=>hQ s' H' I' q
 exact QhU loop<|T.self _ 0 _ _ _ eY loop
def Qlx(hs:∀x,Xo aY Y.env x=pure x)(Q:rz->Xe->Prop)(E:Xc->Xe->Prop)(s:Xe)
  (h:Xh (Xg Y.prog Y.w) Y.A (pyNext<|.ref it) (λr s1=>match r with
   |none=>Q (.done .next) s1
   |some v=>Xh (Xg Y.prog Y.w) Y.A (letOwnedTupleGo tg (.ref it) v) (λ_ s2=>yJ Y tg ifs (S4 Y (.ListComp elt [⟨tg,iter,ifs,0⟩,⟨jh,aY,dO,0⟩] scope XJ) aY D) v (λs3=>Q (.again<|.compLoop (.ListComp elt [⟨tg,iter,ifs,0⟩,⟨jh,aY,dO,0⟩] scope XJ) 0 (.ref it) (.ref D) Y.env) s3) s2) E s1) E s) :
  Xh (Xg Y.prog Y.w) Y.A (compTurn (.ListComp elt [⟨tg,iter,ifs,0⟩,⟨jh,aY,dO,0⟩] scope XJ) 0 (.ref it) (.ref D) Y.env) Q E s:=by
 have e:compTurn (.ListComp elt [⟨tg,iter,ifs,0⟩,⟨jh,aY,dO,0⟩] scope XJ) 0 (.ref it) (.ref D) Y.env=(do
   Xu iter.pos
   match <- pyNext (.ref it) with
   |none=>pure<|.done .next
   |some v=>
    letOwnedTupleGo tg (.ref it) v
    assign tg Y.env v
    let mut ok:=true
    for c in ifs do
     if ok then ok <- isTrue c Y.env (eval c Y.env)
    if ok then
     let x <- eval aY Y.env
     Xu aY.pos
     let x <- Xo aY Y.env x
     let _ <- runOwn (.compStart (.ListComp elt [⟨tg,iter,ifs,0⟩,⟨jh,aY,dO,0⟩] scope XJ) 1 (<- Xt [x] (pyIter x)) (.ref D) Y.env) Y.env
    again (.compLoop (.ListComp elt [⟨tg,iter,ifs,0⟩,⟨jh,aY,dO,0⟩] scope XJ) 0 (.ref it) (.ref D) Y.env)):=by rfl
 refine Xa<|wpAny_standAt<|Xa<|ax h λr s1 h1=>?_;cases r with
 |none=>exact wpAny_pure h1
 |some v=>
  refine Xa<|ax h1 λ_ s2 h2=>(Xa<|Xk h2 (λ_ s4 h4=>Xa<|Xk h4 (λok s5 h5=>?_) λ_ _ f=>f.elim) λ_ _ f=>f.elim);cases ok with
  |false=>exact wpAny_pure h5
  |true=>
   refine Xa<|Xk h5 (λx s6 h6=>Xa<|wpAny_standAt ?_) λ_ _ f=>f.elim;rw[hs x];refine Xa<|wpAny_pure<|Xa<|Jx<|Xk h6 (λk8 s7 h7=>?_) λ_ _ f=>f.elim;refine Xa<|wpAny_runOwn<|YN h7 λr s8 h8=>?_;cases r with
   |error z=>exact h8.elim
   |ok fl=>exact wpAny_pure h8
def RM(cap:List<|Option Nat)(wi:TI)(g:TG)(tc:TT)(wi2:TI)(g2:TG)(tc2:TT)(te:TE):TE:=λσ H Q=>wi σ H λJ H1=>∀p,H1 p=none->kC J (ku (dj cap σ) g tc<|G6 wi2 g2 tc2 p te) (Q<|.ref p) (upd H1 p<|.lst [])
def Y5(n:Nat)(hn:n<Xj)(F:Nat->Option V)(hp:H1 p=none)
  (hs:∀i H2,i<n->ag H1 H2->J.go i H2/\∀x H3,J.nU i H2 x H3->∀(kn:Hp->Prop)(kv:VK),(F i=none->∀H6,ag H2 H6->kn H6)->(∀v,F i=some v->∀H6,ag H2 H6->kv v H6) ->
   g x σ H3 λσ4 H4=>Wk σ σ4/\tc σ4 H4 λb H5=>if b=true then te σ4 H5 kv else kn H5)
  (gs:∀H2,ag H1 H2->J.stop n H2) (hq:∀H2,ag H1 H2->H2 p=some (.lst<|(QD n).filterMap F)->Qn H2) :
  kC J (ku σ g tc<|oR p te) Qn (upd H1 p<|.lst []):=by
 refine q_ n (λi H2=>ag H1 H2/\H2 p=some (.lst<|(QD i).filterMap F)) ⟨Jl hp,QC⟩ (λi H2 hi ⟨s2,e2⟩=>?_) λH2 ⟨s2,e2⟩=>⟨gs H2 s2,hq H2 s2 e2⟩
 obtain⟨go,st⟩:=hs i H2 hi s2;refine⟨go,λx H3 y k hk=>?_⟩;have er:(QD<|i+1).filterMap F=(QD i).filterMap F++(F i).toList:=by
  rw[CT];cases e:F i<;>simp[e]
 refine st x H3 y k (λv H6=>∃ys,H6 p=some (.lst ys)/\ys.length<Xj/\k (upd H6 p<|.lst<|ys++[v])) (λe H6 s6=>?_) λv e H6 s6=>?_
 ·refine hk _ ⟨s2.trans s6,?_⟩;rw[er,e]
  simpa using s6 p _ e2
 ·have e6:=s6 p _ e2;refine⟨_,e6,?_,hk _ ⟨λb o q=>?_,?_⟩⟩
  ·have:((QD i).filterMap F).length<=i:=by
    have:=Mf F<|QD i
    rwa [QR] at this
   omega
  ·rw[QH<|QK q hp];exact s6 b o<|s2 b o q
  ·rw[QC,er,e];rfl
end L2
namespace Rk
open L2 Rd
def pairD(ij:Int×Int):Xd:=.tuple [.int ij.1,.int ij.2]
def ux(b:Int×Int):YV (pairD b)=1:=by
 unfold pairD;simp[YV,ZZ]
end Rk
namespace L2
def QyS(ta:TA):TE:=λσ H Q=>ta σ H λvs H1=>∃j,vs=[.int j]/\∀r H2,ag H1 H2->H1 r=none->H2 r=some (.rV 0 j)->Q (.ref r) H2
section
variable{X:Cx}
def Qry(hg:Gl X "range")(hm:X.mg "range" = none)(ha:PA X [a] ta)(hs:Xi [a] X.env=[(false,eval a X.env)]:=by rfl):PE X (.Call (.Name "range" p) [a] [] pos) (QyS ta):=by
 intro XI s σ H Q I h;refine ZD<|ph I hg hm boot_range<|J4 (ax (ha pos XI s σ H _ I h) λus s1 ⟨vs,H1,I1,r1,q1⟩=>?_) hs rfl;obtain⟨j,e,q⟩:=q1;subst e;obtain⟨u,rfl,ru⟩:=vals1 r1;obtain⟨t,rfl⟩:=ru;refine call_range_1 ?_
 have hf:=I1.au.fresh<|Qf _;refine⟨.ref s1.heap.objs.size,upd H1 s1.heap.objs.size<|.rV 0 j,I1.laid (λb u e=>Qe _ e) (Qf _) ⟨_,_,_,Qo _ rfl⟩,rfl,q _ _ (Jl hf) hf QC⟩
end
end L2
namespace Rs
open PySem.W
def sp{α:Type}(n:Nat)(c:Nat->Nat->Bool):KasT α->(α->Prop)->Prop
 |.ret a,Q=>Q a
 |.ask i j f,Q=>i<n/\j<n/\sp n c (f<|c i j) Q
def l8{Q':α->Prop}(h:∀a,Q a->Q' a):∀{t:KasT α},sp n c t Q->sp n c t Q'
 |.ret a,q=>h a q
 |.ask i j f,q=>⟨q.1,q.2.1,l8 h q.2.2⟩
def wz:∀{t:KasT α},sp n c t (λa=>sp n c (f a) Q)->sp n c (t.bind f) Q
 |.ret a,q=>q
 |.ask i j g,q=>⟨q.1,q.2.1,wz q.2.2⟩
def V8(hc:∀i j (C:Bool->Xe->Prop),i<n->j<n->C (c i j) s->cmp i j C s) :
  ∀{t:KasT α},sp n c t (λa=>Q a s)->t.kasWp cmp Q s
 |.ret a,q=>q
 |.ask i j f,q=>hc i j _ q.1 q.2.1<|V8 hc q.2.2
section
variable{n:Nat}{K:Nat->Int}
abbrev cK (K:Nat->Int) (i j:Nat):Bool:=decide (K i<K j)
structure Good (n:Nat) (p:Array Nat):Prop where
 perm:p.toList.Perm<|QD n
def Good.size(g:Good n p):p.size=n:=by
 have:=g.perm.length_eq;rw[QR] at this;exact this
def at_(p:Array Nat)(i:Nat):Nat:=p.getD i 0
def yY(h:i<p.size):p[i]? = some (at_ p i):=by
 unfold at_;rw[Yt,ZR h];rfl
def Bh(h:p[i]? = q[j]?):at_ p i=at_ q j:=by
 unfold at_;rw[Yt,Yt,h]
def Good.lt(g:Good n p)(h0:0<n)(i:Nat):at_ p i<n:=by
 by_cases h:i<p.size
 ·have e:=yY h;have m:at_ p i∈p.toList:=by
   have:=Array.mem_of_getElem? e;exact UI.mpr this
  exact Jw.mp<|g.perm.mem_iff.mp m
 ·unfold at_;rw[Yt,ZK<|by omega];exact h0
def Good.inj(g:Good n p)(hi:i<n)(hj:j<n)(e:at_ p i=at_ p j):i=j:=by
 have nd:=g.perm.nodup_iff.mpr List.nodup_range;have hs:=g.size;have FQ:i<p.toList.length:=by rw[Q5];omega
 have yf:j<p.toList.length:=by rw[Q5];omega
 have ei:p.toList[i]=at_ p i:=by
  have:=yY (i:=i) (by omega);rw[ZR<|by omega] at this;exact QF this
 have ej:p.toList[j]=at_ p j:=by
  have:=yY (by omega);rw[ZR<|by omega] at this;exact QF this
 have pw:=ZT.mp nd;rcases Dq i j with h | h | h
 ·exact X5 (ei.trans<|e.trans ej.symm)<|pw i j FQ yf h
 ·exact h
 ·exact X5 (ej.trans<|e.symm.trans ei.symm)<|pw j i yf FQ h
def kk(K:Nat->Int)(p:Array Nat)(i:Nat):Int:=K<|at_ p i
def gK(K:Nat->Int)(p:Array Nat)(m:Nat):Prop:=∀i,i+1<m->kk K p i<=kk K p (i+1)
def Ak(K:Nat->Int)(p:Array Nat)(m:Nat):Prop:=∀i,i+1<m->kk K p (i+1)<kk K p i
def gK.le(h:gK K p m):∀{j:Nat},i<=j->j<m->kk K p i<=kk K p j
 |0,sC,_=>by cases Nat.le_zero.mp sC;exact Hr _
 |j+1,sC,hj=>by
  by_cases e:i=j+1
  ·rw[e];exact Hr _
  ·exact Int.le_trans (h.le (by omega)<|by omega)<|h j hj
def Qrp(g:Good n p)(i j:Nat):Good n (kas_rev p i j):=⟨(WL.mp<|mirror_perm p i j _).trans g.perm⟩
def Sa(hm:m<=p.size)(hk:k<m):at_ (kas_rev p 0 m) k=at_ p (m - 1 - k):=by
 refine Bh ?_
 have:=getElem?_mirror_all (i:=0) hm k
 rw[XZ ⟨Q6 _,hk⟩,Nat.zero_add] at this;exact this
def QvE(hm:m<=p.size)(d:Ak K p m):gK K (kas_rev p 0 m) m:=by
 intro i hi;unfold kk;rw[Sa hm<|by omega,Sa hm hi];have:=d (m - 1 - (i+1)) (by omega);have e:m - 1 - (i+1)+1=m - 1 - i:=by omega
 rw[e] at this;exact Int.le_of_lt this
def Ig(g:Good n p)(h0:0<n):∀(f a:Nat),1<=a->gK K p a ->
  sp n (cK K) (kas_asc p f a) (λm=>a<=m/\m<=a+f/\gK K p m/\(m=a+f∨kk K p m<kk K p (m - 1)))
 |0,a,_,h=>⟨Qf _,Qf _,h,.inl rfl⟩
 |f+1,a,ha,h=>by
  refine⟨g.lt h0 a,g.lt h0<|a - 1,?_⟩;show sp n (cK K) (if decide (kk K p a<kk K p (a - 1))=true then .ret a else kas_asc p f<|a+1) _;by_cases e:kk K p a<kk K p (a - 1)
  ·rw[X1 e];exact⟨Qf _,KW _ _,h,.inr e⟩
  ·rw[X0 e];refine l8 ?_ (Ig g h0 f (a+1) (by omega) ?_)
   ·rintro m ⟨h1,h2,h3,h4⟩;exact⟨by omega,by omega,h3,h4.imp (λq=>by omega) id⟩
   ·intro i hi;by_cases q:i+1<a
    ·exact h i q
    ·have e1:i=a - 1:=by omega
     have e2:i+1=a:=by omega
     rw[e2,e1];exact Int.not_lt.mp e
def GS(inj:∀i j,i<n->j<n->K i=K j->i=j)(g:Good n p)(hi:i<n)(hj:j<n)(h:i≠j):kk K p i≠kk K p j:=
 λe=>h (g.inj hi hj<|inj _ _ (g.lt (by omega) i) (g.lt (by omega) j) e)
def UQ(inj:∀i j,i<n->j<n->K i=K j->i=j)(g:Good n p)(h0:0<n):∀(f a:Nat),1<=a->a+f<=n->Ak K p a ->
  sp n (cK K) (kas_desc f p a 0) (λr=>r.1=p/\r.2.2=0/\a<=r.2.1/\r.2.1<=a+f/\Ak K p r.2.1)
 |0,a,_,_,h=>⟨rfl,rfl,Qf _,Qf _,h⟩
 |f+1,a,ha,haf,h=>by
  refine⟨g.lt h0 a,g.lt h0<|a - 1,?_⟩;show sp n (cK K) (if decide (kk K p a<kk K p (a - 1))=true then(if 0 > 0 then kas_desc f (kas_rev p (a - (0+1)) a) (a+1) 0 else kas_desc f p (a+1) 0) else _) _;by_cases e:kk K p a<kk K p (a - 1)
  ·rw[X1 e,XZ rfl];refine l8 ?_ (UQ inj g h0 f (a+1) (by omega) (by omega) ?_)
   ·rintro r ⟨h1,h2,h3,h4,h5⟩;exact⟨h1,h2,by omega,by omega,h5⟩
   ·intro i hi;by_cases q:i+1<a
    ·exact h i q
    ·have e1:i=a - 1:=by omega
     have e2:i+1=a:=by omega
     rw[e2,e1];exact e
  ·rw[X0 e];refine⟨g.lt h0<|a - 1,g.lt h0 a,?_⟩;show sp n (cK K) (if decide (kk K p (a - 1)<kk K p a)=true then .ret (p,a,0) else _) _;have ne:=GS inj g (i:=a - 1) (j:=a) (by omega) (by omega) (by omega);rw[X1<|by omega];exact⟨rfl,rfl,Qf _,KW _ _,h⟩
def Run(K:Nat->Int)(n:Nat)(r:Nat×Array Nat):Prop:=Good n r.2/\1<=r.1/\r.1<=n/\gK K r.2 r.1
def Qrg(g:Good n p)(h1:1<=m)(hm:m<=n)(d:Ak K p m):sp n (cK K) (kas_tail3 m n p) (Run K n):=by
 refine wz ?_
 have hs:=g.size;have g':=Qrp g 0 m;refine l8 ?_ (Ig g' (by omega) (n - m) m h1<|QvE (by omega) d)
 rintro k ⟨a,b,c,_⟩;exact⟨g',by omega,by omega,c⟩
def Qjd(inj:∀i j,i<n->j<n->K i=K j->i=j)(g:Good n p)(hm:m+1<=n)(d:Ak K p<|m+1):sp n (cK K) (kas_descPart m n p) (Run K n):=by
 refine wz (l8 ?_<|UQ inj g (by omega) (n - (m+1)) (m+1) (by omega) (by omega) d);rintro⟨p',k,q⟩ ⟨e1,e2,h3,h4,h5⟩;have e1:=e1;have e2:=e2;subst e1 e2;exact Qrg g (by omega) (by omega) h5
def Qrh(inj:∀i j,i<n->j<n->K i=K j->i=j)(g:Good n p)(h0:0<n):sp n (cK K) (kas_count n p) (Run K n):=by
 refine wz (l8 ?_<|Ig g h0 (n - 1) 1 (Qf _) λi hi=>by omega);rintro m ⟨h1,h2,h3,h4⟩;by_cases e:m=n
 ·rw[XZ<|beq_iff_eq.mpr e];exact⟨g,h1,by omega,h3⟩
 ·rw[XY λq=>e<|beq_iff_eq.mp q];by_cases e2:m > 1
  ·rw[XZ e2];refine⟨g.lt h0 0,g.lt h0<|m - 1,?_⟩;show sp n (cK K) (if decide (kk K p 0<kk K p (m - 1))=true then .ret (m,p) else _) _;have le:=h3.le (i:=0) (j:=m - 1) (by omega) (by omega);have ne:=GS inj g (j:=m - 1) (by omega) (by omega) (by omega);rw[X1<|by omega];exact⟨g,h1,by omega,h3⟩
  ·rw[XY e2];have em:m=1:=by omega
   subst em;refine Qjd inj g (by omega) λi hi=>?_
   have ei:i=0:=by omega
   subst ei;rcases h4 with q | q
   ·omega
   ·exact q
def KJ(g:Good n p)(h0:0<n)(A:gK K p k):∀(f l r:Nat),l<=r->r<=k->r - l<=f->(∀i,i<l->kk K p i<=kk K p k)->(∀i,r<=i->i<k->kk K p k<kk K p i) ->
  sp n (cK K) (kas_place p k f l r) (λm=>m<=k/\(∀i,i<m->kk K p i<=kk K p k)/\∀i,m<=i->i<k->kk K p k<kk K p i)
 |0,l,r,h1,h2,h3,a,b=>⟨by omega,a,λi hi hk=>b i (by omega) hk⟩
 |f+1,l,r,h1,h2,h3,a,b=>by
  show sp n (cK K) (if l≥r then .ret l else _) _;by_cases e:l≥r
  ·rw[XZ e];exact⟨by omega,a,λi hi hk=>b i (by omega) hk⟩
  ·rw[XY e];refine⟨g.lt h0 k,g.lt h0<|(l+r) / 2,?_⟩;show sp n (cK K) (if decide (kk K p k<kk K p ((l+r) / 2))=true then kas_place p k f l ((l+r) / 2) else kas_place p k f ((l+r) / 2+1) r) _;by_cases q:kk K p k<kk K p ((l+r) / 2)
   ·rw[X1 q];refine KJ g h0 A f l ((l+r) / 2) (by omega) (by omega) (by omega) a λi hi hk=>?_
    exact Int.lt_of_lt_of_le q<|A.le hi hk
   ·rw[X0 q];refine KJ g h0 A f ((l+r) / 2+1) r (by omega) h2 (by omega) (λi hi=>?_) b;exact Int.le_trans (A.le (by omega)<|by omega)<|Int.not_lt.mp q
def SH(h0:0<n):∀(f k:Nat){p:Array Nat},Good n p->k+f<=n->gK K p k->sp n (cK K) (kas_bin f p k) (λp'=>Good n p'/\gK K p' (k+f))
 |0,k,p,g,_,A=>⟨g,A⟩
 |f+1,k,p,g,hk,A=>by
  refine wz (l8 ?_<|KJ g h0 A k 0 k (Q6 _) (Qf _) (by omega) (λi hi=>by omega) λi hi hk=>by omega);rintro l ⟨hl,lo,hi⟩;have hs:=g.size;have bb:∀j,at_ (bubble p k<|k - l) j=if j=l then at_ p k else if l<j/\j<=k then at_ p (j - 1) else at_ p j:=by
   intro j;have:=getElem?_bubble (xs:=p) (src:=k) (by omega) (k - l) (by omega) j
   have e:k - (k - l)=l:=by omega
   rw[e] at this;split
   ·rename_i q;rw[XZ q] at this;exact Bh this
   ·rename_i q
    rw[XY q] at this;split
    ·rename_i q2;rw[XZ q2] at this;exact Bh this
    ·rename_i q2;rw[XY q2] at this;exact Bh this
  refine l8 ?_ (SH h0 f (k+1) ⟨(WL.mp<|bubble_perm p k<|k - l).trans g.perm⟩ (by omega) ?_)
  ·rintro p' ⟨a,b⟩;exact⟨a,by rw[show k+(f+1)=k+1+f by omega];exact b⟩
  ·intro i hik;unfold kk;rw[bb,bb];by_cases c1:i+1<l
   ·rw[XY<|by omega,XY<|by omega,XY<|by omega,XY<|by omega];exact A i (by omega)
   ·by_cases c2:i+1=l
    ·rw[XY<|by omega,XY<|by omega,XZ c2];exact lo i (by omega)
    ·by_cases c3:i=l
     ·rw[XZ c3,XY<|by omega,XZ ⟨by omega,by omega⟩];exact Int.le_of_lt (hi (i+1 - 1) (by omega)<|by omega)
     ·rw[XY c3,XZ ⟨by omega,by omega⟩,XY<|by omega,XZ ⟨by omega,by omega⟩];have:=A (i - 1) (by omega);rw[show i - 1+1=i+1 - 1 by omega] at this;exact this
def Qvt(inj:∀i j,i<n->j<n->K i=K j->i=j)(h0:0<n):sp n (cK K) (kas_sort n) (λp=>Good n p/\gK K p n):=by
 have g:Good n (Z9<|QD n):=⟨Dc _⟩;refine wz<|l8 ?_<|Qrh inj g h0;rintro⟨m,p⟩ ⟨g',h1,h2,A⟩;have e:max m 1=m:=by have:=h1;omega
 rw[e];by_cases q:m<n
 ·rw[XZ q];refine l8 ?_ (SH h0 (n - m) m g' (by omega) A)
  rintro p' ⟨a,b⟩;exact⟨a,by rw[show m+(n - m)=n by omega] at b;exact b⟩
 ·rw[XY q];have h2:=h2;have e2:m=n:=by omega
  subst e2;exact⟨g',A⟩
end
end Rs


namespace Rs
open PySem.W PySem.Calls
section
variable{prog:QB}{w:Jf}{A:JF}{E:Xc->Xe->Prop}{s:Xe}
def Kept(a:Xb)(h h':Xl):Prop:=∀b x,b≠a->h.get? b=some x->h'.get? b=some x
def KP(f:Xp->Xp):Kept a h (h.update a f):=λb x hb e=>(Heap.get?_update_ne _ _ _ _ hb).trans e
def W_(o:Xp):Kept a h (h.push o):=λb x _ e=>Qe _ e
def Kept.trans(k:Kept a h h1)(k':Kept a h1 h2):Kept a h h2:=λb x hb e=>k' b x hb<|k b x hb e
def Qnk(vs:List Xc):(QD vs.length).map (λi=>vs.getD i Zi)=vs:=by
 apply z6
 intro i;rw[Qt];by_cases h:i<vs.length
 ·rw[JN h];show some (vs.getD i Zi)=_;rw[Qi,Qc h];rfl
 ·rw[Jq<|by simpa using h,Jq<|by omega];rfl
def Qf1{vs:List Xc}(ho:s.heap.get? a=some (seqObj "list" vs.toArray n))(qk:vs.length<64)(K:Nat->Int)(κ:SortKind)
  (inj:∀i j,i<vs.length->j<vs.length->K i=K j->i=j)
  (h9:2<=vs.length->∀h':Xl,Kept a s.heap h'->∀(Q':SortKind->Xe->Prop)(E':Xc->Xe->Prop),Q' κ { s with heap:=h' }->Xh (Xg prog w) A (keyKind' vs.toArray) Q' E' { s with heap:=h' })
  (FY:∀h':Xl,Kept a s.heap h'->∀(i j:Nat)(C:Bool->Xe->Prop),i<vs.length->j<vs.length->C (decide (K i<K j)) { s with heap:=h' }->Xh (Xg prog w) A (keyLt' κ (vs.getD i Zi)<|vs.getD j Zi) C (λ_ _=>False) { s with heap:=h' })
  (h:∀p:Array Nat,Good vs.length p->gK K p vs.length->∀(h':Xl)(e:Nat),Kept a s.heap h'->h'.get? a=some (seqObj "list" (Z9<|p.toList.map λi=>vs.getD i Zi) e)->P (.done<|.ret .none) { s with heap:=h' }) :
  Xh (Xg prog w) A (j7.«list.sort» ⟨[.ref a],[]⟩) P E s:=by
 have ha:=Ql ho;obtain⟨e1,vo⟩:∃e1,(s.heap.update a<|ZO λ_=>(#[]:Array Xc)).get? a=some (seqObj "list" #[] e1):=⟨_,get?_update_seq ho λ_=>#[]⟩
 have K3:Kept a s.heap (((s.heap.update a<|ZO λ_=>(#[]:Array Xc)).push<|seqObj "tuple" vs.toArray 0).push<|seqObj "list" #[] 0):=(KP _).trans<|(W_ _).trans<|W_ _;have vn:(((s.heap.update a<|ZO λ_=>(#[]:Array Xc)).push<|seqObj "tuple" vs.toArray 0).push<|seqObj "list" #[] 0).get? a=some (seqObj "list" #[] e1):=Qe _<|Qe _ vo;rw[list_sort_plain];refine Xa (listItems_at ho rfl<|Xa<|Hw ho rfl ?_ (by rw[Qk,ZE];omega)<|Q6 _);refine Xa (GJ vo rfl<|Xa<|wpAny_newTuple ?_ (by show vs.length<=_;rw[ZE];omega));refine Xa<|Hz (Jx ?_)<|Q6 _
 dsimp only
 generalize (((s.heap.update a<|ZO λ_=>(#[]:Array Xc)).push<|seqObj "tuple" vs.toArray 0).push<|seqObj "list" #[] 0)=h3 at K3 vn ⊢;have fin:∀p:Array Nat,Good vs.length p->gK K p vs.length->∀bH:SortSt,(arrOf bH).map (·.2)=Z9 (p.toList.map λi=>vs.getD i Zi)->failedOf bH=none ->
   ∃e2,(h3.update a<|ZO λ_=>Z9<|p.toList.map λi=>vs.getD i Zi).get? a=some (seqObj "list" (Z9<|p.toList.map λi=>vs.getD i Zi) e2):=λp _ _ _ _ _=>⟨_,get?_update_seq vn λ_=>_⟩
 by_cases h2:vs.toArray.size<2
 ·rw[XZ h2,XZ h2];refine Xa<|wpAny_pure ?_;refine Xa<|wpAny_pure ?_;have gg:Good vs.length (Z9<|QD vs.length):=⟨Dc _⟩;have aa:gK K (Z9<|QD vs.length) vs.length:=λi hi=>by rw[Qk] at h2;omega
  have out:(arrOf<|SortSt.mk' general' (vs.toArray.zip vs.toArray) #[] 7 none).map (·.2)=Z9 ((Z9<|QD vs.length).toList.map λi=>vs.getD i Zi):=by
   rw[Qnk];apply C7.mp
   rw[Lf,Array.toList_zip];exact List.map_snd_zip<|Qf _
  obtain⟨e2,FV⟩:=fin _ gg aa _ out rfl;rw[out];refine Xa (GJ vn rfl<|Xa<|Hw vn rfl ?_ (Q6 _) (by rw[Qk,Qd,Lz,QR,ZE];omega));simp only[bne_self_eq_false];exact wpAny_pure<|h _ gg aa _ e2 (K3.trans<|KP _) FV
 ·rw[XY h2,XY h2];have ql:2<=vs.length:=by rw[Qk] at h2;omega
  refine Xa<|h9 ql h3 K3 _ _ ?_;refine Xa (Xk (kat_run (Q:=λbH s'=>∃p:Array Nat,Good vs.length p/\gK K p vs.length/\arrOf bH=p.map (kas_item<|vs.toArray.zip vs.toArray)/\failedOf bH=none/\s'={ s with heap:=h3 })
   (G:=λp s'=>Good vs.length p/\gK K p vs.length/\s'={ s with heap:=h3 }) rfl ql qk (λp' bH s' a1 a2 a3 a4=>⟨p',a4.1,a4.2.1,a2,a3,a4.2.2⟩)
   (V8 (λi j C hi hj hC=>FY h3 K3 i j C hi hj hC)<|l8 (λp q=>⟨q.1,q.2,rfl⟩)<|Qvt inj<|by omega)) ?_ λ_ _ e=>e)
  rintro⟨⟨⟩,bH⟩ s' ⟨p,gg,aa,har,hf,rfl⟩;have out:=kat_snds rfl har;obtain⟨e2,FV⟩:=fin p gg aa bH out hf;rw[out];refine Xa (GJ vn rfl<|Xa<|Hw vn rfl ?_ (Q6 _) (by rw[Qk,Qd,Q5,gg.size,ZE];omega));rw[hf];simp only[bne_self_eq_false];exact wpAny_pure<|h p gg aa _ e2 (K3.trans<|KP _) FV
def Qei{vs:List Xc}(hT:T = "list" ∨ T = "tuple")(ho:s.heap.get? l=some o)(hc:o.cls=.type T)(hd:o.data=.seq vs.toArray n)(qk:vs.length<64)
  (h:∀h':Xl,(∀b x,s.heap.get? b=some x->h'.get? b=some x)->∀(P:rz->Xe->Prop)(E':Xc->Xe->Prop),(∀s2,Q (.ref h'.objs.size) s2->P (.done<|.ret .none) s2) ->
   Xh (Xg prog w) A.in1.in1 (j7.«list.sort» ⟨[.ref h'.objs.size],[]⟩) P E' { s with heap:=h'.push (seqObj "list" vs.toArray 0) }) :
  Xh (Xg prog w) A (call (.builtin "sorted") [.ref l]) Q E s:=by
 refine WY kind_sorted plain_sorted entry_sorted (args_sorted1 _) ?_
 refine Xa<|wpAny_pure ?_;refine Xa (wpAny_collect_seq l hT ho hc hd (λh' kp=>?_) (by rw[Qk,ZE];omega));refine Xa (Hz ?_ (by rw[Lz,ZE];omega));have qi:(h'.push<|seqObj "list" vs.toArray 0).get? h'.objs.size=some (seqObj "list" vs.toArray 0):=Qo _ rfl;refine Xa<|Jx<|Zk slot_list_sort ⟨_,qi,rfl⟩ entry_list_sort ?body<|args_list_sort _;exact h h' kp _ _ λs2 hq=>⟨_,rfl,wpAny_pure ⟨_,rfl,hq⟩⟩
structure fq (h:Xl) (v:Xc) (ij:Int×Int):Prop where
 it:∃(a:Xb)(o:Xp)(n:Nat)(t u:Tok),v=.ref a/\h.get? a=some o/\o.cls=.type "tuple" /\ o.data=.seq #[.int ij.1 t,.int ij.2 u] n
def fq.keep(q:fq h v ij)(k:∀b x,h.get? b=some x->h'.get? b=some x):fq h' v ij:=by
 obtain⟨a,o,n,t,u,e,g,c,d⟩:=q.it;exact⟨a,o,n,t,u,e,k _ _ g,c,d⟩
inductive aW (h:Xl):List Xc->List (Int×Int)->Prop
 |nil:aW h [] []
 |cons {v:Xc} {vs:List Xc} {ij:Int×Int} {L:List (Int×Int)}:fq h v ij->aW h vs L->aW h (v::vs) (ij::L)
def aW.keep(k:∀b x,h.get? b=some x->h'.get? b=some x):∀{vs:List Xc}{L:List (Int×Int)},aW h vs L->aW h' vs L
 |_,_,.nil=>.nil
 |_,_,.cons q r=>.cons (q.keep k)<|r.keep k
def aW.len:∀{vs:List Xc}{L:List (Int×Int)},aW h vs L->vs.length=L.length
 |_,_,.nil=>rfl
 |_,_,.cons _ r=>by rw[Qw,Qw,r.len]
def aW.at_:∀{vs:List Xc}{L:List (Int×Int)},aW h vs L->∀i,i<vs.length->fq h (vs.getD i Zi) (L.getD i (0,0))
 |_,_,.nil,i,hi=>by simp at hi
 |_,_,.cons q r,0,hi=>q
 |_,_,.cons q r,i+1,hi=>by
  have:=r.at_ i (by simpa using hi)
  simpa using this
def aW.lC:∀{vs:List Xc}{L:List (Int×Int)},aW h vs L->∃fs,KatTups h vs fs/\fs.length=vs.length/\∀v∈fs,∃i t,v=nR i t
 |_,_,.nil=>⟨[],.nil,rfl,λv hv=>nomatch hv⟩
 |_,_,.cons q r=>by
  obtain⟨fs,k,l,f⟩:=r.lC;obtain⟨a,o,n,t,u,e,g,c,d⟩:=q.it;subst e;refine⟨_::fs,KatTups.cons g c d rfl k,by rw[Qw,Qw,l],λv hv=>?_⟩;rcases Qv.mp hv with z | z
  ·exact⟨_,_,z⟩
  ·exact f v z
def code(ij:Int×Int):Int:=64*ij.1+ij.2
def QxS(ha:0<=a.2/\a.2<64)(hb:0<=b.2/\b.2<64):decide (code a<code b)=if a.1=b.1 then(if a.2=b.2 then false else decide (a.2<b.2)) else decide (a.1<b.1):=by
 unfold code;split
 ·split
  ·exact X0 (by omega)
  ·by_cases q:a.2<b.2
   ·rw[X1 q];exact X1 (by omega)
   ·rw[X0 q];exact X0 (by omega)
 ·by_cases q:a.1<b.1
  ·rw[X1 q];exact X1 (by omega)
  ·rw[X0 q];exact X0 (by omega)
def Qws(pa:fq s.heap v a)(pb:fq s.heap v' b)(ha:0<=a.2/\a.2<64)(hb:0<=b.2/\b.2<64)(h:C (decide (code a<code b)) s) :
  Xh (Xg prog w) A (keyLt' (tuples' true) v v') C E s:=by
 obtain⟨x,ox,n,t,u,rfl,gx,cx,dx⟩:=pa.it;obtain⟨y,oy,m,t',u',rfl,gy,cy,dy⟩:=pb.it;rw[QxS ha hb] at h;refine kat_lt gx dx gy dy ?_
 refine kat_cons<|Kg ?_;by_cases e:a.1=b.1
 ·rw[XZ e] at h;rw[beq_iff_eq.mpr e];refine kat_yes<|kat_cons<|Kg ?_;by_cases e2:a.2=b.2
  ·rw[XZ e2] at h;rw[beq_iff_eq.mpr e2];exact kat_yes<|kat_nil h
  ·rw[XY e2] at h;rw[beq_eq_false_iff_ne.mpr e2];exact kat_no<|kat_one _ _<|lt_int h
 ·rw[XY e] at h;rw[beq_eq_false_iff_ne.mpr e];exact kat_no<|oneLt_int h
def QnS(r:aW s.heap vs L)(h2:2<=vs.length)(h:Q (tuples' true) s):Xh (Xg prog w) A (keyKind' vs.toArray) Q E s:=by
 obtain⟨fs,k,l,f⟩:=r.lC;refine kat_kind (T:=.type "int") k (by omega) (λv hv=>?_) (by decide) ?_
 ·obtain⟨i,t,rfl⟩:=f v hv;exact Looks.of_pure rfl
 ·rw[show(uv "int" != uv "tuple")=true by decide];exact h
def Qcj(ho:s.heap.get? a=some (seqObj "list" vs.toArray n))(qk:vs.length<64)(r:∀h',Kept a s.heap h'->aW h' vs L)(nd:L.Nodup)(hb:∀ij∈L,0<=ij.2/\ij.2<64)
  (h:∀p:Array Nat,Good vs.length p->gK (λi=>code<|L.getD i (0,0)) p vs.length->∀(h':Xl)(e:Nat),Kept a s.heap h'->h'.get? a=some (seqObj "list" (Z9<|p.toList.map λi=>vs.getD i Zi) e)->P (.done<|.ret .none) { s with heap:=h' }) :
  Xh (Xg prog w) A (j7.«list.sort» ⟨[.ref a],[]⟩) P E s:=by
 have hl:=(r s.heap λb x _ e=>e).len;have dP:∀i,i<vs.length->0<=(L.getD i (0,0)).2/\(L.getD i (0,0)).2<64:=λi hi=>by
  rw[Qi,Qc<|by omega];exact hb _<|Jz _
 refine Qf1 ho qk (λi=>code<|L.getD i (0,0)) (tuples' true) (λi j hi hj e=>?_) (λh2 h' k Q' E' q=>QnS (r h' k) h2 q) (λh' k i j C hi hj q=>Qws ((r h' k).at_ i hi) ((r h' k).at_ j hj) (dP i hi) (dP j hj) q) h;have bi:=dP i hi;have bj:=dP j hj;have e:=e;unfold code at e;have e':L.getD i (0,0)=L.getD j (0,0):=v9 (by omega) (by omega);rw[Qi,Qi,Qc<|by omega,Qc<|by omega] at e';have pw:=ZT.mp nd;rcases Dq i j with q | q | q
 ·exact X5 e' (pw i j (by omega) (by omega) q)
 ·exact q
 ·exact X5 e'.symm (pw j i (by omega) (by omega) q)
end
def Wd{d:α}(g:Good L.length p):(p.toList.map λi=>L.getD i d).Perm L:=by
 have e:(QD L.length).map (λi=>L.getD i d)=L:=by
  apply z6
  intro i;rw[Qt];by_cases h:i<L.length
  ·rw[JN h];show some (L.getD i d)=_;rw[Qi,Qc h];rfl
  ·rw[Jq<|by simpa using h,Jq<|by omega];rfl
 have:=g.perm.map λi=>L.getD i d
 rwa [e] at this
def We{L:List (Int×Int)}(g:Good L.length p)(ad:gK (λi=>code<|L.getD i (0,0)) p L.length)(inj:∀i j,i<L.length->j<L.length->code (L.getD i (0,0))=code (L.getD j (0,0))->i=j) :
  (p.toList.map λi=>L.getD i (0,0)).Pairwise λa b=>code a<code b:=by
 rw[ZT];intro i j hi hj sC;rw[Qd,Q5] at hi hj;have hs:=g.size;rw[De,De,UH,UH];have ei:p[i]=at_ p i:=by have:=yY (i:=i) (by omega);rw[ZR<|by omega] at this;exact QF this
 have ej:p[j]=at_ p j:=by have:=yY (by omega);rw[ZR<|by omega] at this;exact QF this
 rw[ei,ej];have le:=ad.le (i:=i) (j:=j) (by omega) (by omega);have ne:=GS inj g (i:=i) (j:=j) (by omega) (by omega) (by omega);have le:code (L.getD (at_ p i) (0,0))<=code (L.getD (at_ p j) (0,0)):=le;have ne:code (L.getD (at_ p i) (0,0))≠code (L.getD (at_ p j) (0,0)):=ne;omega
end Rs


namespace L2
open _root_.Rd _root_.Rk _root_.Rs
def boot_sorted:Xn "sorted" = some (.builtin "sorted"):=by decide
section
variable{X:Cx}
def Ld(ok:cz P w H h):∀{xs:List V}{L:List (Int×Int)}{vs:List Xc},aZ H xs (L.map Rk.pairD)->ah xs vs->aW h vs L
 |_,[],vs,.nil,r=>by cases r;exact .nil
 |_,ij::L,vs,.cons q qs,r=>by
  cases r with
  |cons r rs=>
   refine .cons ?_<|Ld ok qs rs
   cases q with
   |@tup a ys ds e q2=>
    cases r;obtain⟨_,its,rv,o,ho,hc,_,n,hd⟩:=ok a _ e;cases q2 with
    |cons q3 q4=>
     cases q4 with
     |cons q5 q6=>
      cases q6;cases q3;cases q5;cases rv with
      |cons r1 r2=>
       cases r2 with
       |cons r3 r4=>
        cases r4;obtain⟨t,rfl⟩:=r1;obtain⟨u,rfl⟩:=r3;exact⟨_,o,n,t,u,rfl,ho,hc,hd⟩
def IV:∀{xs:List V}{L:List (Int×Int)},aZ H xs (L.map Rk.pairD)->∀i,i<xs.length->Dat H (xs.getD i .aL) (Rk.pairD<|L.getD i (0,0))
 |_,[],.nil,i,hi=>by simp at hi
 |_,ij::L,.cons q qs,0,hi=>q
 |_,ij::L,.cons q qs,i+1,hi=>by
  have:=IV qs i (by simpa using hi)
  simpa using this
def Kb:∀{xs:List V}{vs:List Xc},ah xs vs->∀i,i<xs.length->RelV (xs.getD i .aL) (vs.getD i Zi)
 |_,_,.nil,i,hi=>by simp at hi
 |_,_,.cons q qs,0,hi=>q
 |_,_,.cons q qs,i+1,hi=>by
  have:=Kb qs i (by simpa using hi)
  simpa using this
def Kr:∀{is:List Nat},(∀i∈is,Dat H (f i)<|Rk.pairD<|g i)->aZ H (is.map f) ((is.map g).map Rk.pairD)
 |[],_=>.nil
 |i::is,h=>.cons (h i<|.head _)<|Kr λj hj=>h j<|.tail _ hj
def KQ:∀{is:List Nat},(∀i∈is,RelV (f i)<|g i)->ah (is.map f) (is.map g)
 |[],_=>.nil
 |i::is,h=>.cons (h i<|.head _)<|KQ λj hj=>h j<|.tail _ hj
def SW:List V->Hp->VK->Prop:=λxs H Q=>∃(l:Xb)(vs:List V)(L:List (Int×Int)),xs=[.ref l]/\H l=some (.lst vs)/\aZ H vs (L.map Rk.pairD)/\L.Nodup/\L.length<64/\(∀ij∈L,0<=ij.2/\ij.2<64) /\
 ∀(t:Xb)(ys:List V)(M:List (Int×Int))(H2:Hp),ag H H2->H t=none->H2 t=some (.lst ys)->aZ H2 ys (M.map Rk.pairD)->M.Perm L->M.Pairwise (λa b=>Rs.code a<Rs.code b)->Q (.ref t) H2
def XO:aF X (.builtin "sorted") SW:=by
 intro XI s σ H xs us Q I r h;obtain⟨l,vs,L,rfl,hl,ds,nd,qk,hb,q⟩:=h;obtain⟨u,rfl,ru⟩:=vals1 r;cases ru;obtain⟨hz,its,n,rv,ho⟩:=I.au l _ hl;have pv:=Ld I.au ds rv;have lv:=ds.length;have li:=rv.length;have lp:=pv.len;refine Qei (.inl rfl) ho rfl rfl (by omega) λh' kp P E' hP=>?_
 refine Qcj (Qo _ rfl) (by omega) (λh2 k2=>?_) nd hb λp g ad h2 e k2 e2=>hP _ ?_
 ·exact(pv.keep kp).keep λb x e=>k2 b x (Qy<|Ql e)<|Qe _ e
 ·have I1:=I.kept (t':=s.toks) kp;have hf:=I1.au.fresh<|Qf _;have hp:∀i∈p.toList,i<vs.length:=λi hi=>by have:=Jw.mp<|g.perm.mem_iff.mp hi;omega
  have I2:=
   I1.laid (t':=s.toks) (λb x e'=>k2 b x (Qy<|Ql e')<|Qe _ e') (Qf _) (show aO X.prog X.w _ _ _ (.lst _) from⟨by rw[Qd,Q5,g.size];exact Ja<|Rk.Zv<|by omega,_,e,KQ λi hi=>Kb rv i<|hp i hi,e2⟩)
  have g':Good L.length p:=by rw[<- lp];exact g
  have GF:gK (λi=>Rs.code<|L.getD i (0,0)) p L.length:=by rw[<- lp];exact ad
  refine⟨.ref h'.objs.size,_,I2,rfl,q _ _ (p.toList.map λi=>L.getD i (0,0)) _ (Jl hf) hf QC (Kr λi hi=>(IV ds i<|hp i hi).same<|Jl hf) (Wd g')<|We g' GF λi j hi hj e=>?_⟩;have bi:0<=(L.getD i (0,0)).2/\(L.getD i (0,0)).2<64:=by rw[Qi,Qc hi];exact hb _<|Jz _
  have bj:0<=(L.getD j (0,0)).2/\(L.getD j (0,0)).2<64:=by rw[Qi,Qc hj];exact hb _<|Jz _
  unfold Rs.code at e;have e':L.getD i (0,0)=L.getD j (0,0):=v9 (by omega) (by omega);rw[Qi,Qi,Qc hi,Qc hj] at e';have pw:=ZT.mp nd;rcases Dq i j with z | z | z
  ·exact X5 e'<|pw i j hi hj z
  ·exact z
  ·exact X5 e'.symm<|pw j i hj hi z
def U8:∀{ns:List Int}{vs:List Xc},nC vs ns->ah (ns.map V.int) vs
 |_,_,.nil=>.nil
 |_,_,.cons n t r=>.cons ⟨t,rfl⟩<|U8 r
end
end L2
namespace L2
section
variable{X:Cx}{XI:List (Xb×Xp)}{σ:St}{H:Hp}
def L5{Q:Xc->Xe->Prop}
  (I3:Inv X XI σ H3 s3)(f3:∀b∈fp,aR X XI H3 b)(J:Inv (bG X M scope (bU X.env scope.names []) fp s3 H3 s3.heap.objs.size) [] σ' H s')
  (hN:X.N.Nodup)(hi:X.N[i]? = some y)(hl:X.env.scope.names.lookup y=some .local)(hq:∀s2,Inv X XI (σ.set i<|some<|.ref D) H s2->Q .none s2) :
  Xh Mo A (assign (.Name y py) X.env<|.ref D) (λ_ s2=>∃m,s2.heap.Ns s3.heap.objs.size m/\∀h',Yy s3.heap.objs.size s2.heap h'->Q .none { s2 with heap:=h' }) E s':=by
 have J0:=Ta I3 f3 J<|Wt ..;obtain⟨m,hn,_⟩:=J.loc;have hC:=J.free;have lt:=I3.lt;refine QB5<|WQ J0 hN hi (QJ hl) (show RelV (.ref D) (.ref D) from rfl) (λs2 J2 ⟨a,sb,ha⟩=>?_)<|.inr hl;have ea:=ha;have na:s3.heap.objs.size≠a:=by
  rcases ea with z | z
  ·rw[z];exact wO lt
  ·obtain⟨v,o,ho,_⟩:=I3.cell y a z;exact wO<|Ql ho
 refine⟨m,hn.sameBut sb na,λh' hs=>hq _ ?_⟩;refine J2.turned (λb o hb e=>hs.extBut b o hb e) hC (wO lt) (.inr I3.sz) (λx c e z=>?_) λp hp z=>?_
 ·obtain⟨v,o,ho,_⟩:=I3.cell x c e;exact X5 (z ▸ Ql ho)<|Yg _
 ·have e:=(I3.pin p hp).1;exact X5 (z ▸ Ql e)<|Yg _
end
def Qru(hN:X.N.Nodup)(oz:X.N[i]? = some y)(ou:X.env.scope.names.lookup y=some .local)(hc:X.calm=true)(ok:ny X.N X.env.scope M scope cap=true)
  (hi:PI X tg iter wi)(hb:∀cl ex s3 H3 C,PG (bG X M scope cl ex s3 H3 C) tg g/\iu (bG X M scope cl ex s3 H3 C) ifs tc/\PE (bG X M scope cl ex s3 H3 C) elt te)
  (hs:∀x,Xo iter X.env x=pure x:=by intro _;rfl)(jR:Xw (.ListComp elt [⟨tg,iter,ifs,0⟩] scope pos) (some<|.Name y py) b_.line X.env=pure true:=by rfl):PS X (.Assign [.Name y py] (.ListComp elt [⟨tg,iter,ifs,0⟩] scope pos) b_) (nq (kQ cap wi g tc te)<|Yu i):=by
 intro XI s σ H D I h;have c:=dI.of ok;rw[Lw _ _ _ _ jR];refine Xa<|wpAny_standAt<|Xa ?_;refine Xa<|Xk (Dv rfl hs (Ca<|I.ok.cells c) c.kind c.loc ?_) (λ_ s' hq=>wpAny_pure<|wpAny_pure hq) λ_ _ e=>e;refine ax (hi XI s σ H _ I h) λv s1 h1=>ax h1 λk8 s2 h2=>?_
 obtain⟨it,fp,tn,J,H2,e,I2,T,eY,f2,hW⟩:=h2;subst e;refine Jt (Dj c.cell (by intro y hy;simp at hy) (λh₁ iU iT=>?_) c.kind);have I3:=I2.jP (t':=s2.toks) .nil<|Q6 _;have kY:∀b∈fp,b<s2.heap.objs.size:=λb hb=>by obtain⟨o,e,_⟩:=T.obj _ _ eY b hb;exact Ql e
 have f3:∀b∈fp,aR X XI (upd H2 s2.heap.objs.size<|.lst []) b:=λb hb=>(f2 b hb).upd<|Qy<|kY b hb
 generalize sk:({ s2 with heap:=s2.heap.push { cls:=.type "list",data:=.seq ([]:List Xc).toArray } }:Xe)=s3 at I3;have e3:s3.heap=s2.heap.push { cls:=.type "list",data:=.seq ([]:List Xc).toArray }:=by rw[<- sk]
 have z3:s3.heap.objs.size=s2.heap.objs.size+1:=by rw[e3,Ym]
 have hk:=λb o e=>iT.extBut b o (by
  have:=Ql e;rw[e3] at this;exact Qy this)<|Qe _<|e3 ▸ e
 have sv:h₁.Ns s3.heap.objs.size λ_=>none:=by rw[e3];exact iU
 have B:=CY (t4:=s3.toks+([]:List (Str×Xc)).length) I3 c f3 (λb hb=>by rw[z3];exact YE<|kY b hb) sv hk;have iP:=T.keep _ _ _ eY λb hb o e=>hk b o (by rw[e3];exact Qe _ e)
 have sG:∀b∈fp,aR (bG X M scope (bU X.env scope.names []) fp s3 (upd H2 s2.heap.objs.size<|.lst []) s3.heap.objs.size) [] (upd H2 s2.heap.objs.size<|.lst []) b:=λb hb=>by
  refine⟨(f3 b hb).1,(B.ok.ko b hb).1,B.ok.fL b hb,.inl hb,(B.ok.ko b hb).2,λp hp=>(nomatch hp)⟩
 obtain⟨hg,ht,he⟩:=hb (bU X.env scope.names []) fp s3 (upd H2 s2.heap.objs.size<|.lst []) s3.heap.objs.size;have loop:Xs (Xg X.prog X.w) X.A (.compLoop (.ListComp elt [⟨tg,iter,ifs,0⟩] scope pos) 0 (.ref it) (.ref s2.heap.objs.size)<|compEnvC scope (bU X.env scope.names []) s3.heap.objs.size X.env)
   (compPost (Xg X.prog X.w) X.A X.xe (some<|assign (.Name y py) X.env) (λ_ s'=>SP X XI D .next s') (.ref s2.heap.objs.size) s3.heap.objs.size) { s3 with heap:=h₁,toks:=s3.toks+([]:List (Str×Xc)).length }:=by
  refine C1 (Y:=bG X M scope (bU X.env scope.names []) fp s3 (upd H2 s2.heap.objs.size<|.lst []) s3.heap.objs.size) hc T iP sG
   (λQ E s h=>V4 Q E s h) (λx u r=>zp rfl hg ht (λσ4=>Kl rfl he) x u r) B (hW _<|I2.au.fresh<|Qf _) λs' H' I' q=>?_
  exact L5 (Q:=λ_ s'=>SP X XI D .next s') I3 f3 I' hN oz ou λNi J2=>⟨_,H',J2,q⟩
 exact LM loop<|T.self _ 0 _ _ _ iP loop
def W'(hN:X.N.Nodup)(oz:X.N[i]? = some y)(ou:X.env.scope.names.lookup y=some .local)(hc:X.calm=true)(ok:ny X.N X.env.scope M scope cap=true)
  (hi:PI X tg iter wi)(hb:∀cl ex s3 H3 C,PG (bG X M scope cl ex s3 H3 C) tg g/\iu (bG X M scope cl ex s3 H3 C) ifs tc/\PI (bG X M scope cl ex s3 H3 C) jh aY wi2/\PG (bG X M scope cl ex s3 H3 C) jh g2/\iu (bG X M scope cl ex s3 H3 C) dO tc2/\PE (bG X M scope cl ex s3 H3 C) elt te)
  (hs:∀x,Xo iter X.env x=pure x:=by intro _;rfl)(vj:∀env x,Xo aY env x=pure x:=by intro _ _;rfl)(jR:Xw (.ListComp elt [⟨tg,iter,ifs,0⟩,⟨jh,aY,dO,0⟩] scope pos) (some<|.Name y py) b_.line X.env=pure true:=by rfl):PS X (.Assign [.Name y py] (.ListComp elt [⟨tg,iter,ifs,0⟩,⟨jh,aY,dO,0⟩] scope pos) b_) (nq (RM cap wi g tc wi2 g2 tc2 te)<|Yu i):=by
 intro XI s σ H D I h;have c:=dI.of ok;rw[Lw _ _ _ _ jR];refine Xa<|wpAny_standAt<|Xa ?_;refine Xa<|Xk (Dv rfl hs (Ca<|I.ok.cells c) c.kind c.loc ?_) (λ_ s' hq=>wpAny_pure<|wpAny_pure hq) λ_ _ e=>e;refine ax (hi XI s σ H _ I h) λv s1 h1=>ax h1 λk8 s2 h2=>?_
 obtain⟨it,fp,tn,J,H2,e,I2,T,eY,f2,hW⟩:=h2;subst e;refine Jt (Dj c.cell (by intro y hy;simp at hy) (λh₁ iU iT=>?_) c.kind);have I3:=I2.jP (t':=s2.toks) .nil<|Q6 _;have kY:∀b∈fp,b<s2.heap.objs.size:=λb hb=>by obtain⟨o,e,_⟩:=T.obj _ _ eY b hb;exact Ql e
 have f3:∀b∈fp,aR X XI (upd H2 s2.heap.objs.size<|.lst []) b:=λb hb=>(f2 b hb).upd<|Qy<|kY b hb
 generalize sk:({ s2 with heap:=s2.heap.push { cls:=.type "list",data:=.seq ([]:List Xc).toArray } }:Xe)=s3 at I3;have e3:s3.heap=s2.heap.push { cls:=.type "list",data:=.seq ([]:List Xc).toArray }:=by rw[<- sk]
 have z3:s3.heap.objs.size=s2.heap.objs.size+1:=by rw[e3,Ym]
 have hk:=λb o e=>iT.extBut b o (by
  have:=Ql e;rw[e3] at this;exact Qy this)<|Qe _<|e3 ▸ e
 have sv:h₁.Ns s3.heap.objs.size λ_=>none:=by rw[e3];exact iU
 have B:=CY (t4:=s3.toks+([]:List (Str×Xc)).length) I3 c f3 (λb hb=>by rw[z3];exact YE<|kY b hb) sv hk;have iP:=T.keep _ _ _ eY λb hb o e=>hk b o (by rw[e3];exact Qe _ e)
 have sG:∀b∈fp,aR (bG X M scope (bU X.env scope.names []) fp s3 (upd H2 s2.heap.objs.size<|.lst []) s3.heap.objs.size) [] (upd H2 s2.heap.objs.size<|.lst []) b:=λb hb=>by
  refine⟨(f3 b hb).1,(B.ok.ko b hb).1,B.ok.fL b hb,.inl hb,(B.ok.ko b hb).2,λp hp=>(nomatch hp)⟩
 obtain⟨hg,ht,vt,yh,oj,he⟩:=hb (bU X.env scope.names []) fp s3 (upd H2 s2.heap.objs.size<|.lst []) s3.heap.objs.size;have loop:Xs (Xg X.prog X.w) X.A (.compLoop (.ListComp elt [⟨tg,iter,ifs,0⟩,⟨jh,aY,dO,0⟩] scope pos) 0 (.ref it) (.ref s2.heap.objs.size)<|compEnvC scope (bU X.env scope.names []) s3.heap.objs.size X.env)
   (compPost (Xg X.prog X.w) X.A X.xe (some<|assign (.Name y py) X.env) (λ_ s'=>SP X XI D .next s') (.ref s2.heap.objs.size) s3.heap.objs.size) { s3 with heap:=h₁,toks:=s3.toks+([]:List (Str×Xc)).length }:=by
  refine C1 (Y:=bG X M scope (bU X.env scope.names []) fp s3 (upd H2 s2.heap.objs.size<|.lst []) s3.heap.objs.size) hc T iP sG
   (λQ E s h=>Qlx (vj _) Q E s h) (λx u r=>zp rfl hg ht (λσ4=>Qpb rfl hc vt yh oj he) x u r) B (hW _<|I2.au.fresh<|Qf _) λs' H' I' q=>?_
  exact L5 (Q:=λ_ s'=>SP X XI D .next s') I3 f3 I' hN oz ou λNi J2=>⟨_,H',J2,q⟩
 exact LM loop<|T.self _ 0 _ _ _ iP loop
end L2
namespace Rk
open L2 _root_.Rd
section
variable{X:Cx}
def QER(X:Cx):R2:=λx y H Q=>∃dx dy,Dat H x dx/\Dat H y dy/\X.A.units+min dx.depth dy.depth<cLine/\Q (.bl<|!Q3 dx dy) H
def Qz4:aK X (Xm .NotEq) (QER X):=by
 intro XI s σ H x y v u Q I rx ry h;obtain⟨dx,dy,qx,qy,hu,q⟩:=h;obtain⟨⟨as,ra⟩,ca⟩:=rE I.au dx x v qx rx;obtain⟨⟨bs,rb⟩,cb⟩:=rE I.au dy y u qy ry;exact SeqAt.compareNe_reads ra rb ca cb hu ⟨.bl _,H,I,rfl,q⟩
end
end Rk
namespace Rk
open L2
def QDM:Xn "ValueError" = some (.type "ValueError"):=by decide
def HW:List JO->Option (List Str)
 |[]=>some []
 |.Constant (.str x) _ _::es=>(HW es).map (x::·)
 |_::_=>none
def Iz:∀{es:List JO}{ws:List Str},HW es=some ws->PA X es (λ_ H Q=>Q (ws.map V.str) H)
 |[],ws,h=>by cases h;exact Qp
 |e::es,ws,h=>by
  unfold HW at h;split at h
  ·rename_i e2;cases e2
  ·rename_i e2
   cases e2;obtain⟨vs,hv,rfl⟩:=Jk.mp h;exact Iy (a_ JR<|Iz hv) λσ H Q q=>q
  ·cases h
def GP(x:Str):List JO->Option (List Str)
 |[]=>some []
 |.Call (.Name f _) [.Name y _,.Name n _] [] _::es=>if f = "isinstance" /\ y=x then(GP x es).map (n::·) else none
 |_::_=>none
def QEF(K:Qa)(cs:List Xb):TA:=λσ H Q=>∃(a C:Xb)(bs:List Bool),σ[0]? = some (some<|.ref a)/\H a=some (Rx.oC a C)/\Rx.pF K C/\Zy (λc b=>Zj K (.ref C) (.ref c)=some b) cs bs/\Q (bs.map V.bl) H
def vU(hN:X.N[0]? = some x)(hv:iY X.env.scope x)(hd:(x == ("__debug__" : Str))=false)(bQ:(x == ("__classdict__" : Str))=false)(hg:Gl X "isinstance")(hm:X.mg "isinstance" = none) :
  ∀{es:List JO}{ns:List Str}{cs:List Xb},GP x es=some ns->(ns.all λn=>(X.env.kindOf n == some .globalImplicit) && !(n == ("__debug__" : Str)))=true->Zy (λn c=>X.mg n=some (.ref c)) ns cs->PA X es (QEF X.K cs)
 |[],ns,cs,h,_,p=>by
  cases h;cases p;exact Iy Qp λσ H Q ⟨a,C,bs,_,_,_,pb,q⟩=>by cases pb;exact q
 |e::es,ns,cs,h,g,p=>by
  unfold GP at h;split at h
  ·rename_i e2;cases e2
  ·rename_i f pf y py n pn pc es' e2
   cases e2;split at h
   ·rename_i hc
    obtain⟨rfl,rfl⟩:=hc;obtain⟨og,AS,rfl⟩:=Jk.mp h;cases p with
    |@cons _ c _ cs' p1 p2=>
    rw[zJ,Jp,Jp] at g;have g1:=beq_iff_eq.mp g.1.1;have g2:(n == ("__debug__" : Str))=false:=by
     have:=g.1.2;cases q:(n == ("__debug__" : Str)) with
     |false=>rfl
     |true=>rw[q] at this;cases this
    have one:PE X (.Call (.Name "isinstance" pf) [.Name y py,.Name n pn] [] pc) _:=Zc Rx.WD hg hm L6<|a_ (P6 hN hv hd bQ) (a_ (Za (v:=.ref c) g1 p1 rfl g2) Qp rfl) rfl;refine Iy (a_ one (vU hN hv hd bQ hg hm AS g.2 p2) rfl) λσ H Q ⟨a,C,bs,h0,ha,hc,pb,q⟩=>?_
    cases pb with
    |@cons _ b _ A_ q1 q2=>exact⟨_,h0,a,C,.ref c,.ref c,b,rfl,ha,hc,(λu r=>r),q1,a,C,A_,h0,ha,hc,q2,q⟩
   ·cases h
  ·cases h
def v_:List Str:=["text", "order", "lines", "few", "size", "many", "number", "stand", "cell", "square", "hits", "counts", "stairs", "alike", "parting", "place", "double", "deed", "row"]
def qZ(K:Qa)(cs:List Xb):Sp:=λvs H Q _=>∃(a C:Xb)(bs:List Bool)(j:Nat)(wd:Str),vs=[.ref a]/\H a=some (Rx.oC a C)/\Rx.pF K C/\Zy (λc b=>Zj K (.ref C) (.ref c)=some b) cs bs/\Zj K (.ref C) (.type "ValueError")=some true /\
 bs.countP id=1/\bs[j]? = some true/\(∀m,m<j->bs[m]? = some false)/\v_[j]? = some wd/\∀H',ag H H'->Q (.str wd) H'
def JB(h:Zy F (a::l) bs):∃b A_,bs=b::A_/\F a b/\Zy F l A_:=by
 cases h with
 |cons r t=>exact⟨_,_,rfl,r,t⟩
def QlG(h:Zy F [] bs):bs=[]:=by
 cases h;rfl
end Rk
namespace Rx
open PySem.Calls L2
section
variable{X:Cx}{E:XK}
def i5(xX:∀e s1,Xh (Xg X.prog X.w) X.A (leaving X.env e) (λ_ s2=>aQ X.prog X.w X.outer X.H₀ X.s₀ E e s2) (λe' s2=>aQ X.prog X.w X.outer X.H₀ X.s₀ E e' s2) s1->X.xe e s1)
  (dt:X.stack=X.env::X.outer)(mP:X.env.frame=some X.env.locals)(hex:X.ex=[]):Y6 (aQ X.prog X.w) X E:=by
 intro XI σ H s e s' I h;obtain⟨C,H',⟨a,t,B,rfl,os,bare,fl,fa,fH,land⟩,q⟩:=h;refine xX _ _ ?_
 have Og:=fl;rw[dt] at Og;have fr:X.A.frames=some (X.env::X.outer):=by rw[<- dt];exact I.ok.frames
 refine wpAny_leaves_onW fr mP Og λh' fl' up=>⟨C,H',⟨a,t,B,rfl,os.trans I.os,bare,fl',?_,fH,λh2 st Az=>?_⟩,q⟩
 ·cases z:X.s₀.heap.get? a with
  |none=>rfl
  |some o=>
   obtain⟨o',e'⟩:=I.base.there a o z (by rw[hex];simp);rw[fa] at e';cases e'
 ·obtain⟨un,au⟩:=land h2 st<|up.trans Az;have J:=I.lJ (s':={ s' with heap:=h2 }) os un au bare (λb z=>X5 z<|by simp);have hb:=J.base;rw[hex] at hb;exact⟨hb,au⟩
end
end Rx
namespace Rk
open L2 _root_.Rd
structure aB (mg:Str->Option Xc):Prop where
 isinstance:mg "isinstance" = none
 int:mg "int" = none
 bool:mg "bool" = none
 str:mg "str" = none
 tuple:mg "tuple" = none
 list:mg "list" = none
 all:mg "all" = none
 len:mg "len" = none
 zip:mg "zip" = none
 enumerate:mg "enumerate" = none
 range:mg "range" = none
 max:mg "max" = none
 min:mg "min" = none
 sorted:mg "sorted" = none
 sum:mg "sum" = none
 set:mg "set" = none
 any:mg "any" = none
 reversed:mg "reversed" = none
 divmod:mg "divmod" = none
structure md (K:Qa) (cs:List Xb) (R C:Xb) (wd:Str):Prop where
 by_:Rx.u0 K C R
 ex:∃(bs:List Bool)(j:Nat),Rx.pF K C/\Zy (λc b=>Zj K (.ref C) (.ref c)=some b) cs bs/\Zj K (.ref C) (.type "ValueError")=some true/\bs.countP id=1/\bs[j]? = some true/\(∀m,m<j->bs[m]? = some false)/\v_[j]? = some wd
def MD(u:Nat)(neg:Bool):R2:=λx y H Q=>∃c ps ds d,y=.ref c/\H c=some (.tup ps)/\aZ H ps ds/\Dat H x d/\u+d.depth<cLine/\Q (.bl<|if neg then !(ds.any λe=>Q3 e d) else ds.any λe=>Q3 e d) H
def Qz6:aK X (Xm .In) (MD X.A.in1.units false):=Qz7
end Rk
namespace Rx
open PySem.Calls L2
section
variable{P:QB}{w:Jf}{K:Qa}{mg:Str->Option Xc}{base:Xl}
def Fc{st:Ze}(F:iz K x qual st f fd)(S:Ya N ps<|QL st)(len:∀vs H Q E,sp vs H Q E->vs.length=ps.length)
  (XL:∀(aj:Xc)(A:JF)(outer:List Env)(s:Xe)(H:Hp)(vs:List V)(Q:VK)(E:XK),ao k (A.deeper<|envOfC qual (QL st) s.heap.objs.size f aj)->sp vs H Q E ->
   ∃t,aV (bS (aQ P w) P w K mg base N qual (QL st) f aj A outer s H E) (ZS st) t/\t { nx:=λ_ H'=>Q .aL H',rt:=Q } (start N vs) H):aI P w K mg base (aQ P w) (k+1) f fd ps sp:=by
 obtain⟨oc,od,kV,doc,pm,an,aj,ct,n_,rfl,lk,bQ⟩:=F.ex;exact QAN lk bQ S len λA outer s H vs Q E hr a8=>XL aj A outer s H vs Q E hr a8
end
end Rx
namespace Rk
open L2 _root_.Rd
def handled{K:Qa}(o:md K cs R C wd){σ:L2.St}(hi:i < σ.length)(k:∀H',ag H1 H'->Q (.str wd) H') :
  Rx.u0 K C R/\∀a,H1 a=none->(dX (bV i) fj) (σ.set i<|some<|.ref a) (upd H1 a<|Rx.oC a C) λvs H2=>qZ K cs vs H2 Q E0:=by
 refine⟨o.by_,λa ha=>?_⟩;obtain⟨bs,j,hx,pb,eV,hc,hj,hm,hw⟩:=o.ex;exact⟨_,Dt hi,a,C,bs,j,wd,rfl,QC,hx,pb,eV,hc,hj,hm,hw,λH2 s2=>k H2<|(Jl ha).trans s2⟩
end Rk
namespace L2
def OH(K:Qa):List V->Hp->VK->Prop:=λxs H Q=>∃p ys,xs=[.ref p]/\(aA K H p ys∨aP K H p ys)/\Q (.int ys.length) H
def QBi:Xn "sum" = some (.builtin "sum"):=by decide
def Lo:Xn "sorted" = some (.builtin "sorted"):=by decide
def OK(K:Qa):List V->Hp->VK->Prop:=λxs H Q=>∃(p:Xb)(ns:List Int),xs=[.ref p]/\aA K H p (ns.map V.int)/\Q (.int ns.sum) H
def iC(i j:Int):Prop:=∃k:Nat,k<=1000000/\i.natAbs<2^k/\j.natAbs<2^k
def S_(h:i.natAbs<2^k):Zd i<=k:=by
 unfold Zd;split
 ·exact Q6 _
 ·rename_i z
  have hz:i.natAbs≠0:=by
   intro q;apply z
   have:i=0:=by omega
   subst this;rfl
  have:=(Ht hz).mpr h;omega
def iC.ok(h:iC i j):IntMulOk i j:=by
 obtain⟨k,hk,h1,h2⟩:=h;have a:=S_ h1;have b:=S_ h2;have c:QgK (Zd i+Zd j:Nat)=false:=by
  unfold QgK;rw[X0];have:bitsLine=134217728:=by decide
  omega
 intro z;rw[Jp] at z;have z2:=z.2;have e:((Zd i+Zd j:Nat):Int)=(Zd i:Int)+(Zd j:Int):=by omega
 rw[e] at c;rw[c] at z2;cases z2
section
variable{X:Cx}
def Qww:aK X (Xr .Mult) (rI iC λi j=>.int<|i*j):=vb λ_ _ _ _ _ _ _ hc q=>mul_int q hc.ok
def QsL:QEx X (DZ X.K):=by
 intro XI s σ H o i ov iv Q I ro ri h;obtain⟨p,xs,k,z,rfl,rfl,hq,he,q⟩:=h;cases ro;obtain⟨t,rfl⟩:=ri;obtain⟨its,r,pl,hz⟩:=I.list hq;obtain⟨j,h1,h2,h3,h4,h5⟩:=IM he;obtain⟨w,ew,g8⟩:=r.get h2;have hl:=r.length;have hn:=vP;have fin:EP X XI σ Q w s:=⟨z,H,I,g8,q⟩;by_cases h0:0<=k
 ·have hj:k.toNat=j:=by
   rw[BF h0 h5] at h1;exact QF h1
  exact wpAny_getItem_list pl.isList h0 (by omega) (by rw[hj];simpa using ew) fin
 ·have hj:(k+its.toArray.size).toNat=j:=by
   rw[B8 (by omega) h4] at h1;rw[Qk,<- hl];exact QF h1
  exact R4 pl.isList (by omega) (by rw[Qk]<;>omega) (by omega) (by rw[hj];simpa using ew) fin
def Qo3(hc:X.calm=true):aF X (.builtin "sum") (OK X.K):=by
 intro XI s σ H xs us Q I r h;obtain⟨p,ns,rfl,hp,q⟩:=h;obtain⟨u,rfl,ru⟩:=vals1 r;cases ru;obtain⟨its,rv,pl,hz⟩:=I.list hp;have hi:=intsAre_of rv;obtain⟨ys,hx⟩:=hi.allInts.items;have ow:=hx ▸ pl.isList;refine sum_intListG (I.ok.hd hc) ow λh' tk t' hk=>?_
 have e1:ns=ys.toList.map (·.1):=by
  rw[<- nums_intItems,<- hx];exact(hi.numsOf).symm
 have e2:preSum (numAt ys) ys.size=ns.sum:=by
  rw[preSum_eq,U5<|by simp,e1]
 rw[e2];exact⟨.int _,H,I.kept hk,⟨_,rfl⟩,q⟩
end
end L2
namespace Rk
open L2 _root_.Rd
def QD5(u:Nat):R2:=λx y H Q=>∃dx dy,Dat H x dx/\Dat H y dy/\u+min dx.depth dy.depth<cLine/\Q (.bl<|!Q3 dx dy) H
def tV:aK X (Xm .NotEq) (QD5 X.A.units):=Qz4
def QEa(u:Nat):R2:=λx y H Q=>∃dx dy,Dat H x dx/\Dat H y dy/\u+min dx.depth dy.depth<cLine/\Q (.bl<|Q3 dx dy) H
def HR:aK X (Xm .Eq) (QEa X.A.units):=Qz8
def QnU:aK X (Xm .NotIn) (MD X.A.in1.units true):=QnV
end Rk

namespace Rk
open L2 _root_.Rd
def IZ(h:k<n):jq n (k:Nat)=some k:=by
 unfold jq;rw[XZ<|by omega,XZ<|by omega];simp
end Rk
namespace L2
def QCO(K:Qa):V->Option Int->Option Int->Hp->VK->Prop:=λx lo hi H Q=>∃a xs,x=.ref a/\aA K H a xs/\∀p H',ag H H'->H p=none->H' p=some (.lst<|kz xs lo hi)->Q (.ref p) H'
def Vl:mY X (QCO X.K):=by
 intro XI s σ H x v vl vu lo hi sl Q I rx hs pl pu h;obtain⟨a,xs,e,hx,q⟩:=h;exact Qvx XI s σ H x v vl vu lo hi sl Q I rx hs pl pu ⟨a,xs,e,hx,λp hp=>q p _ (Jl hp) hp QC⟩
section
variable{X:Cx}
def Ug(K:Qa):List V->Hp->VK->Prop:=λxs H Q=>∃p ys,xs=[.ref p]/\((aA K H p ys/\∀l H',ag H H'->H l=none->H' l=some (.tup ys)->Q (.ref l) H')∨(aP K H p ys/\Q (.ref p) H))
def YA:aF X (.type "tuple") (Ug X.K):=by
 intro XI s σ H xs us Q I r h;obtain⟨p,ys,e,h⟩:=h;refine L8 XI s σ H xs us Q I r ⟨p,ys,e,?_⟩;rcases h with⟨h1,h2⟩ | h
 ·exact .inl ⟨h1,λl hl=>h2 l _ (Jl hl) hl QC⟩
 ·exact .inr h
def Ud(K:Qa):List V->Hp->VK->Prop:=λxs H Q=>∃p ys,xs=[.ref p]/\(aA K H p ys∨aP K H p ys)/\∀l H',ag H H'->H l=none->H' l=some (.lst ys)->Q (.ref l) H'
def L7:aF X (.type "list") (Ud X.K):=by
 intro XI s σ H xs us Q I r h;obtain⟨p,ys,e,h1,h2⟩:=h;exact QiF XI s σ H xs us Q I r ⟨p,ys,e,h1,λl hl=>h2 l _ (Jl hl) hl QC⟩
end
end L2
namespace Rx
open PySem.Calls L2
abbrev sX:=L2.Ends->L2.St->Hp->(Xb->Hp->Prop)->Prop
def Ee(X:Cx)(st:Ze)(t:sX):Prop:=∀(XI:List (Xb×Xp))(s:Xe)(σ:L2.St)(H:Hp)(D:L2.Ends)(Ex:Xb->Hp->Prop),Inv X XI σ H s->t D σ H Ex ->
 Xh (Xg X.prog X.w) X.A (exec st X.env) (SP X XI D) (XP X XI λσ1 C H1=>σ1=σ/\Ex C H1) s
def Ec(X:Cx)(xj:List Ze)(t:sX):Prop:=∀(XI:List (Xb×Xp))(s:Xe)(σ:L2.St)(H:Hp)(D:L2.Ends)(Ex:Xb->Hp->Prop),Inv X XI σ H s->t D σ H Ex ->
 Xh (Xg X.prog X.w) X.A (execs xj X.env) (SP X XI D) (XP X XI λσ1 C H1=>σ1=σ/\Ex C H1) s
section
variable{X:Cx}{e:JO}{st:Ze}{pos:Pos}{te:TX}{t u:sX}{tc:TT}{c:JO}{a b:List Ze}
def Ye(h1:Ee X st t):Ec X [st] t:=by
 intro XI s σ H D Ex I h;refine CW<|ax (h1 XI s σ H D Ex I h) λf s1 q=>?_;cases f with
 |next=>exact wU q
 |ret v=>exact q
 |brk=>exact q
 |cont=>exact q
end
def QCy(K:Qa)(R:Xb)(i:Nat)(tb:sX)(th:TE):TS:=λD σ H=>tb D σ H λC H1=>u0 K C R/\∀a,H1 a=none->th (σ.set i<|some<|.ref a) (upd H1 a<|oC a C) D.rt
section
variable{X:Cx}{R:Xb}{i:Nat}{n r:Str}{body:List Ze}{hx:JO}{tb:sX}{th:TE}{np hp FG pos:Pos}
def T7(dt:X.stack=X.env::X.outer)(mP:X.env.frame=some X.env.locals)(hc:Ec X body tb)(hN:X.N.Nodup)(hi:X.N[i]? = some n)(hl:X.env.scope.names.lookup n=some .local)
  (hg:Gl X r)(hm:X.mg r=some (.ref R))(hh:∀e,PE (Fo X e) hx th)(hd:(r == ("__debug__" : Str))=false:=by decide) :
  PS X (.Try body [.ExceptHandler (some<|.Name r np) (some n) [.Return (some hx) hp] FG] [] [] pos) (QCy X.K R i tb th):=by
 intro XI s σ H D I h;refine wpAny_Try_except<|Xk (hc XI s σ H D _ I h) (λf s1 q=>?_) λe s1 z=>?_
 ·cases f with
  |next=>exact wU q
  |ret v=>exact q
  |brk=>exact q
  |cont=>exact q
 obtain⟨σ1,C,H1,a,t,B,rfl,fl,fH,f0,fp,land,eσ,bc,q⟩:=z;subst eσ;rw[dt] at fl;have fr:X.A.frames=some (X.env::X.outer):=by rw[<- dt];exact I.ok.frames
 refine wpAny_looks_onW fr mP fl λh4 yi MW=>(wpAny_landsW yi λh5 Ga MV=>?_)
 have I5:=land h5 s1.toks Ga.1<|MW.trans MV;have x5:fu a C h5:=by
  obtain⟨oe,vs,e1,e2,e3,_⟩:=Ga.first
  exact⟨oe,vs,e1,e2,e3⟩
 refine wpAny_handleBy_cons (codeAny_handlers_test<|uo (Tv I5 _) hg hm ?_ hd) nofun;refine QlQ I5.bP x5 bc ?_
 refine codeAny_handlers_suite_as<|lands_againW Ga λh6 Of up6=>?_;have I6:=land h6 s1.toks Of.1<|(MW.trans MV).trans up6;have x6:fu a C h6:=by
  obtain⟨oe,vs,e1,e2,e3,_⟩:=Of.first
  exact⟨oe,vs,e1,e2,e3⟩
 have I7:=Qor I6 fH f0 fp x6;refine wK I7 hN hi (QJ hl) (show RelV (.ref a) (.ref a) from rfl) (λs8 I8=>(CW<|Kz<|Xk (hh (.ref a) XI s8 _ _ _ (Tv I8 _)<|q a fH) (λv s9 ⟨x,H9,I9,r9,q9⟩=>?_) λ_ _ z=>z.elim))<|.inr hl;have J9:=QsE I.ok I9;obtain⟨m,hn,hmm⟩:=id J9.loc;refine wpAny_nameGoes_keeps hl hn (by rw[I.ok.kind];rfl) λh' v' FL vm=>?_
 exact⟨x,_,H9,QsF J9 hN hi hmm FL vm,r9,q9⟩
end
end Rx
namespace L2
def aI.ex{P:QB}{w:Jf}{K:Qa}{mg:Str->Option Xc}{base:Xl}{CX:jg}{k:Nat}{f:Xb}{fd:Zs}{ps:List Str}{sp:Sp}(F:aI P w K mg base aq k f fd ps sp) :
  aI P w K mg base CX k f fd ps sp:=
 ⟨F.len,λA outer s H args us vs Q E hr he hb hv hs=>YN (F.run A outer s H args us vs Q E hr he hb hv hs) λr s' z=>by
  cases r with
  |error e=>exact Q9 z
  |ok fl=>cases fl<;>exact z⟩
end L2
namespace Dl
open L2 _root_.Rd Rk
def AZ(kvs:List (Int×Int)):List (Key×V):=kvs.map λp=>(qV p.1,V.int p.2)
def dkD(kvs:List (Int×Int)):List (Xd×Xd):=kvs.map λp=>(Qr p.1,Qr p.2)
mutual
inductive DA (A:Xb->Prop) (H:Hp):V->Xd->Prop
 |aL:DA A H .aL .none
 |bl (b:Bool):DA A H (.bl b)<|.bool b
 |int (i:Int):DA A H (.int i)<|.int i
 |str (x:Str):Jb (.str x)=true->DA A H (.str x) (.str x)
 |tup {a:Xb} {xs:List V} {ds:List Xd}:¬A a->H a=some (.tup xs)->aG A H xs ds->DA A H (.ref a) (.tuple ds)
 |lst {a:Xb} {xs:List V} {ds:List Xd}:¬A a->H a=some (.lst xs)->aG A H xs ds->DA A H (.ref a) (.list ds)
 |jw {a:Xb} {kvs:List (Int×Int)} {ds:List (Xd×Xd)}:¬A a->H a=some (.dK<|AZ kvs)->ds=dkD kvs->DA A H (.ref a) (.dict ds)
inductive aG (A:Xb->Prop) (H:Hp):List V->List Xd->Prop
 |nil:aG A H [] []
 |cons {x:V} {xs:List V} {d:Xd} {ds:List Xd}:DA A H x d->aG A H xs ds->aG A H (x::xs) (d::ds)
end
def DA.mv(q:DA A H x d)(k:∀a o,¬A a->H a=some o->H' a=some o)(m:∀a,A' a->A a∨H a=none):DA A' H' x d:=
 have f:∀{a o},¬A a->H a=some o->¬A' a:=λn e z=>(m _ z).elim n λz=>by rw[z] at e;cases e
 DA.rec (motive_1:=λx d _=>DA A' H' x d) (motive_2:=λxs ds _=>aG A' H' xs ds) .aL .bl .int .str (λn e _ q=>.tup (f n e) (k _ _ n e) q) (λn e _ q=>.lst (f n e) (k _ _ n e) q) (λn e q=>.jw (f n e) (k _ _ n e) q) .nil (λ_ _ q qs=>.cons q qs) q
def aG.mv(q:aG A H x d)(k:∀a o,¬A a->H a=some o->H' a=some o)(m:∀a,A' a->A a∨H a=none):aG A' H' x d:=
 have f:∀{a o},¬A a->H a=some o->¬A' a:=λn e z=>(m _ z).elim n λz=>by rw[z] at e;cases e
 aG.rec (motive_1:=λx d _=>DA A' H' x d) (motive_2:=λxs ds _=>aG A' H' xs ds) .aL .bl .int .str (λn e _ q=>.tup (f n e) (k _ _ n e) q) (λn e _ q=>.lst (f n e) (k _ _ n e) q) (λn e q=>.jw (f n e) (k _ _ n e) q) .nil (λ_ _ q qs=>.cons q qs) q
def DA.same(q:DA A H x d)(s:ag H H'):DA A H' x d:=q.mv (λa o _ e=>s a o e) λa z=>.inl z
def aG.same(q:aG A H x d)(s:ag H H'):aG A H' x d:=q.mv (λa o _ e=>s a o e) λa z=>.inl z
def aG.length{A:Xb->Prop}{H:Hp}:∀{xs:List V}{ds:List Xd},aG A H xs ds->xs.length=ds.length
 |_,_,.nil=>rfl
 |_,_,.cons _ q=>by rw[Qw,Qw,q.length]
def aG.get{xs:List V}{ds:List Xd}(h:aG A H xs ds)(i:Nat)(d:Xd)(e:ds[i]? = some d):∃x,xs[i]? = some x/\DA A H x d:=by
 induction ds generalizing xs i with
 |nil=>simp at e
 |cons y ds ih=>
  cases h with
  |cons q qs=>
   cases i with
   |zero=>simp at e;subst e;exact⟨_,rfl,q⟩
   |succ i=>exact ih qs i (by simpa using e)
def aG.app:∀{xs ys:List V}{ds es:List Xd},aG A H xs ds->aG A H ys es->aG A H (xs++ys) (ds++es)
 |_,_,_,_,.nil,q=>q
 |_,_,_,_,.cons a b,q=>.cons a<|b.app q
def aG.take{A:Xb->Prop}{H:Hp}{xs:List V}{ds:List Xd}(h:aG A H xs ds)(n:Nat):aG A H (xs.take n) (ds.take n):=by
 induction n generalizing xs ds with
 |zero=>exact .nil
 |succ n ih=>
  cases h with
  |nil=>exact .nil
  |cons a b=>exact .cons a<|ih b
def aG.drop:∀{xs:List V}{ds:List Xd},aG A H xs ds->∀n:Nat,aG A H (xs.drop n) (ds.drop n)
 |_,_,.nil,n=>by rw[QBI,QBI];exact .nil
 |_,_,.cons a b,0=>.cons a b
 |_,_,.cons a b,n+1=>b.drop n
def aG.set(q:DA A H x d):∀{xs:List V}{ds:List Xd},aG A H xs ds->∀n:Nat,aG A H (xs.set n x) (ds.set n d)
 |_,_,.nil,n=>.nil
 |_,_,.cons a b,0=>.cons q b
 |_,_,.cons a b,n+1=>.cons a<|b.set q n
mutual
def nd:Xd->Bool
 |.dict _=>false
 |.tuple ds=>iS ds
 |.list ds=>iS ds
 |_=>true
def iS:List Xd->Bool
 |[]=>true
 |d::ds=>nd d&&iS ds
end
def HF(d:Xd)(x:V)(n:nd d=true)(q:DA A H x d):Dat H x d:=DA.rec (motive_1:=λx d _=>nd d=true->Dat H x d) (motive_2:=λxs ds _=>iS ds=true->aZ H xs ds) (λ_=>.aL) (λb _=>.bl b) (λi _=>.int i) (λz c _=>.str z c) (λ_ e _ q n=>.tup e<|q n) (λ_ e _ q n=>.lst e<|q n) (λ_ _ _ n=>Y0 n) (λ_=>.nil) (λ_ _ q qs n=>.cons (q (Qz.mp n).1)<|qs (Qz.mp n).2) q n
def zG(ds:List Xd)(xs:List V)(n:iS ds=true)(q:aG A H xs ds):aZ H xs ds:=aG.rec (motive_1:=λx d _=>nd d=true->Dat H x d) (motive_2:=λxs ds _=>iS ds=true->aZ H xs ds) (λ_=>.aL) (λb _=>.bl b) (λi _=>.int i) (λz c _=>.str z c) (λ_ e _ q n=>.tup e<|q n) (λ_ e _ q n=>.lst e<|q n) (λ_ _ _ n=>Y0 n) (λ_=>.nil) (λ_ _ q qs n=>.cons (q (Qz.mp n).1)<|qs (Qz.mp n).2) q n
def Iq:iS ds=true↔∀d∈ds,nd d=true:=by
 induction ds with
 |nil=>exact⟨(λ_ _ h=>nomatch h),λ_=>rfl⟩
 |cons d ds ih=>
  rw[show iS (d::ds)=(nd d&&iS ds) from rfl,Qz,ih];constructor
  ·rintro⟨a,b⟩ e he;rcases Qv.mp he with z | z
   ·rw[z];exact a
   ·exact b e z
  ·intro h;exact⟨h d<|by simp,λe he=>h e<|by simp[he]⟩
def DP(A P:Xb->Prop)(H:Hp)(v:V)(d:Xd):Prop:=DA A H v d∨∃l xs ds,v=.ref l/\d=.list ds/\¬P l/\H l=some (.lst xs)/\aG A H xs ds
def DP.dat(h:DP A P H v d)(n:nd d=true):Dat H v d:=by
 rcases h with h | ⟨l,xs,ds,rfl,rfl,_,e,q⟩
 ·exact HF d v n h
 ·exact .lst e<|zG ds xs n q
def DP.list{A P:Xb->Prop}{H:Hp}{v:V}{ds:List Xd}(h:DP A P H v<|.list ds):∃l xs,v=.ref l/\H l=some (.lst xs)/\aG A H xs ds:=by
 rcases h with h | ⟨l,xs,kr,rfl,e,_,h2,q⟩
 ·cases h with | lst n e q=>exact⟨_,_,rfl,e,q⟩
 ·cases e;exact⟨l,xs,rfl,h2,q⟩
def DP.tuple{A P:Xb->Prop}{H:Hp}{v:V}{ds:List Xd}(h:DP A P H v<|.tuple ds):∃l xs,v=.ref l/\H l=some (.tup xs)/\aG A H xs ds:=by
 rcases h with h | ⟨l,xs,kr,rfl,e,_⟩
 ·cases h with | tup n e q=>exact⟨_,_,rfl,e,q⟩
 ·cases e
def DP.int{A P:Xb->Prop}{H:Hp}{v:V}{i:Int}(h:DP A P H v<|.int i):v=.int i:=by
 rcases h with h | ⟨l,xs,kr,rfl,e,_⟩
 ·cases h;rfl
 ·cases e
def DP.bool{A P:Xb->Prop}{H:Hp}{v:V}{i:Bool}(h:DP A P H v<|.bool i):v=.bl i:=by
 rcases h with h | ⟨l,xs,kr,rfl,e,_⟩
 ·cases h;rfl
 ·cases e
def DP.str{A P:Xb->Prop}{H:Hp}{v:V}{x:Str}(h:DP A P H v<|.str x):v=.str x/\Jb (.str x)=true:=by
 rcases h with h | ⟨l,xs,kr,rfl,e,_⟩
 ·cases h with | str _ c=>exact⟨rfl,c⟩
 ·cases e
inductive Sl where
 |no | cZ | nZ
 |v (d:Xd)
 |own (ds:List Xd)
 |pk (ds:List Xd)
abbrev aU:=List Sl
structure Fm where
 H0:Hp
 A0:Xb->Prop
 pt:Xb->Prop
def Mn(σ:L2.St)(δ:aU)(i:Nat)(a:Xb):Prop:=σ[i]? = some (some<|.ref a)/\(δ[i]? = some .cZ∨∃ds,δ[i]? = some (.own ds))
def Av(F:Fm)(σ:L2.St)(δ:aU)(a:Xb):Prop:=F.A0 a∨∃i,Mn σ δ i a
def Yo(σ:L2.St)(δ:aU)(a:Xb):Prop:=∃i:Nat,σ[i]? = some (some<|.ref a)/\δ[i]? = some .cZ
def QEw(K:Qa)(F:Fm)(H:Hp)(A:Xb->Prop)(o:Option V):Sl->Prop
 |.no=>True
 |.v d=>∃v,o=some v/\DA A H v d
 |.own ds=>∃l xs,o=some (.ref l)/\H l=some (.lst xs)/\aG A H xs ds/\F.H0 l=none
 |.pk ds=>∃l xs,o=some (.ref l)/\H l=some (.lst xs)/\aG A H xs ds/\∃ys,F.H0 l=some (.lst ys)/\¬F.pt l
 |.cZ=>∃p n,o=some (.ref p)/\H p=some (.lst [.int n])/\(F.pt p∨F.H0 p=none)
 |.nZ=>∃a ns,o=some (.ref a)/\aA K F.H0 a ((ns:List Int).map V.int)/\¬F.pt a/\ns.length<=63
structure Rel (K:Qa) (F:Fm) (σ:L2.St) (H:Hp) (δ:aU):Prop where
 len:σ.length=δ.length
 iX:∀a,F.A0 a->∃xs,H a=some (.lst xs)
 cI:∀a,F.A0 a->∃xs,F.H0 a=some (.lst xs)
 iF:∀p,F.pt p->F.A0 p/\∃n,H p=some (.lst [.int n])
 kx:∀b o,¬F.pt b->F.H0 b=some o->H b=some o
 sl:∀(i:Nat) o x,σ[i]? = some o->δ[i]? = some x->QEw K F H (Av F σ δ) o x
 inj:∀(i j:Nat) a ds,δ[i]? = some (.own ds)->σ[i]? = some (some<|.ref a)->Mn σ δ j a->i=j
def Kp(σ:L2.St)(δ:aU)(H H':Hp):Prop:=(∀b o,¬Yo σ δ b->H b=some o->H' b=some o)/\∀b,Yo σ δ b->∃n,H' b=some (.lst [.int n])
def bg(F:Fm)(σ:L2.St)(H:Hp)(δ:aU)(σ':L2.St)(H':Hp)(δ':aU):Prop:=(∀b o,¬Av F σ δ b->H b=some o->H' b=some o)/\∀b,Av F σ' δ' b->Av F σ δ b∨H b=none
def Ke(F:Fm)(H':Hp):Prop:=(∀b o,¬F.pt b->F.H0 b=some o->H' b=some o)/\∀p,F.pt p->∃n,H' p=some (.lst [.int n])
def gX(h:Yo σ δ a):Av F σ δ a:=let ⟨i,h1,h2⟩:=h;.inr ⟨i,h1,.inl h2⟩
def Rel.ke{K:Qa}(r:Rel K F σ H δ):Ke F H:=⟨r.kx,λp hp=>(r.iF p hp).2⟩
def Rel.fc{K:Qa}(r:Rel K F σ H δ)(h:Av F σ δ a):∃xs,H a=some (.lst xs):=by
 rcases h with h | ⟨i,h1,h2⟩
 ·exact r.iX a h
 ·rcases h2 with h2 | ⟨ds,h2⟩
  ·obtain⟨p,n,e,h,_⟩:=r.sl i _ _ h1 h2;cases e;exact⟨_,h⟩
  ·obtain⟨l,xs,e,h,_⟩:=r.sl i _ _ h1 h2;cases e;exact⟨_,h⟩
def Kp.refl{K:Qa}(r:Rel K F σ H δ):Kp σ δ H H:=⟨λ_ _ _ e=>e,λb ⟨i,h1,h2⟩=>by
 obtain⟨p,n,e,h,_⟩:=r.sl i _ _ h1 h2;cases e;exact⟨n,h⟩⟩
def Kp.trans(a:Kp σ δ H H1)(b:Kp σ δ H1 H2):Kp σ δ H H2:=⟨λc o n e=>b.1 c o n<|a.1 c o n e,b.2⟩
def Kp.same{K:Qa}(r:Rel K F σ H δ)(s:ag H H'):Kp σ δ H H':=⟨λb o _ e=>s b o e,λb hb=>let ⟨n,h⟩:=(Kp.refl r).2 b hb;⟨n,s _ _ h⟩⟩
def Kp.da(k:Kp σ δ H H')(h:DA (Av F σ δ) H v d):DA (Av F σ δ) H' v d:=h.mv (λa o n e=>k.1 a o (λz=>n<|gX z) e) λa z=>.inl z
def Kp.qA(k:Kp σ δ H H')(h:aG (Av F σ δ) H v d):aG (Av F σ δ) H' v d:=h.mv (λa o n e=>k.1 a o (λz=>n<|gX z) e) λa z=>.inl z
def Kp.dp(k:Kp σ δ H H')(h:DP (Av F σ δ) (Yo σ δ) H v d):DP (Av F σ δ) (Yo σ δ) H' v d:=by
 rcases h with h | ⟨l,xs,ds,e1,e2,n,e,q⟩
 ·exact .inl<|k.da h
 ·exact .inr ⟨l,xs,ds,e1,e2,n,k.1 _ _ n e,k.qA q⟩
def Rel.bo{K:Qa}(r:Rel K F σ H δ){i:Nat}(h:δ[i]? = some (.own ds))(e:σ[i]? = some (some<|.ref l)):¬Yo σ δ l:=by
 rintro⟨j,h1,h2⟩;have:=r.inj i j l _ h e ⟨h1,.inl h2⟩;subst this;rw[h] at h2;cases h2
def Rel.rX{K:Qa}(r:Rel K F σ H δ)(k:Kp σ δ H H')(hp:F.pt p):∃n,H' p=some (.lst [.int n]):=by
 by_cases z:Yo σ δ p
 ·exact k.2 p z
 ·obtain⟨n,e⟩:=(r.iF p hp).2;exact⟨n,k.1 _ _ z e⟩
def Rel.kp{K:Qa}(r:Rel K F σ H δ)(k:Kp σ δ H H'):Rel K F σ H' δ where
 len:=r.len
 iX:=λa ha=>by
  by_cases z:Yo σ δ a
  ·exact⟨_,(k.2 a z).choose_spec⟩
  ·obtain⟨xs,e⟩:=r.iX a ha;exact⟨xs,k.1 _ _ z e⟩
 cI:=r.cI
 iF:=λp hp=>⟨(r.iF p hp).1,r.rX k hp⟩
 kx:=λb o n e=>by
  by_cases z:Yo σ δ b
  ·obtain⟨i,h1,h2⟩:=z;obtain⟨p,m,e1,h,q⟩:=r.sl i _ _ h1 h2;cases e1;rcases q with q | q
   ·exact X5 q n
   ·rw[q] at e;cases e
  ·exact k.1 _ _ z<|r.kx b o n e
 sl:=λi o x h1 h2=>by
  have h:=r.sl i o x h1 h2;cases x with
  |no=>trivial
  |v d=>obtain⟨v,e,q⟩:=h;exact⟨v,e,k.da q⟩
  |own ds=>obtain⟨l,xs,rfl,e,q,f⟩:=h;exact⟨l,xs,rfl,k.1 _ _ (r.bo h2 h1) e,k.qA q,f⟩
  |pk ds=>
   obtain⟨l,xs,rfl,e,q,ys,f,f2⟩:=h;refine⟨l,xs,rfl,k.1 _ _ ?_ e,k.qA q,ys,f,f2⟩;rintro⟨j,j1,j2⟩;obtain⟨p,m,e1,_,w⟩:=r.sl j _ _ j1 j2;cases e1;rcases w with w | w
   ·exact f2 w
   ·rw[w] at f;cases f
  |cZ=>
   obtain⟨p,n,rfl,e,q⟩:=h;obtain⟨m,e'⟩:=k.2 p ⟨i,h1,h2⟩;exact⟨p,m,rfl,e',q⟩
  |nZ=>exact h
 inj:=r.inj
def Rel.same{K:Qa}(r:Rel K F σ H δ)(s:ag H H'):Rel K F σ H' δ:=r.kp<|Kp.same r s
def bg.refl:bg F σ H δ σ H δ:=⟨λ_ _ _ e=>e,λ_ z=>.inl z⟩
def bg.trans(a:bg F σ H δ σ1 H1 δ1)(b:bg F σ1 H1 δ1 σ2 H2 δ2):bg F σ H δ σ2 H2 δ2:=by
 refine⟨λc o n e=>?_,λc z=>?_⟩
 ·refine b.1 c o (λz=>?_)<|a.1 c o n e;rcases a.2 c z with q | q
  ·exact n q
  ·rw[q] at e;cases e
 ·rcases b.2 c z with q | q
  ·exact a.2 c q
  ·by_cases y:Av F σ δ c
   ·exact .inl y
   ·right
    cases e:H c with
    |none=>rfl
    |some o=>rw[a.1 c o y e] at q;cases q
def bg.kp(k:Kp σ δ H H'):bg F σ H δ σ H' δ:=⟨λb o n e=>k.1 b o (λz=>n<|gX z) e,λ_ z=>.inl z⟩
end Dl


namespace Dl
open L2 _root_.Rd Rk
abbrev XP:=Xb->Prop
abbrev DE:=aU->(Xd->Prop)->XP->Prop
abbrev DT:=aU->(Bool->Prop)->XP->Prop
abbrev kf:=aU->(List Xd->Prop)->XP->Prop
abbrev me:=aU->(List Sl->Prop)->XP->Prop
inductive Md where | D | P | F
def kd(H H':Hp)(v:V):Prop:=∀l,v=.ref l->(∃xs,H' l=some (.lst xs))->H l=none
def Be(m:Md)(F:Fm)(σ:L2.St)(δ:aU)(H H':Hp)(v:V)(d:Xd):Prop:=
 match m with
 |.D=>DA (Av F σ δ) H' v d
 |.P=>DP (Av F σ δ) (Yo σ δ) H' v d
 |.F=>DA (Av F σ δ) H' v d/\kd H H' v
def Out(F:Fm)(E:XK)(EX:XP):Prop:=∀C,EX C->∀H',Ke F H'->E (.ref C) none H'
def tX(m:Md)(K:Qa)(E:XK)(w:DE):TE:=λσ H Q=>∃(F:Fm)(δ:aU)(R:Xd->Prop)(EX:XP),Rel K F σ H δ/\w δ R EX/\(∀d,R d->∀v H',Rel K F σ H' δ->Kp σ δ H H'->Be m F σ δ H H' v d->Q v H')/\Out F E EX
def tT(K:Qa)(E:XK)(w:DT):TT:=λσ H Q=>∃(F:Fm)(δ:aU)(R:Bool->Prop)(EX:XP),Rel K F σ H δ/\w δ R EX/\(∀b,R b->∀H',Rel K F σ H' δ->Kp σ δ H H'->Q b H')/\Out F E EX
def VD(m:Md)(A P:Xb->Prop)(H:Hp)(v:V)(d:Xd):Prop:=
 match m with
 |.P=>DP A P H v d
 |_=>DA A H v d
def jj(n:Nat)(m:Md)(K:Qa)(E:XK)(w:kf):TA:=λσ H Q=>∃(F:Fm)(δ:aU)(R:List Xd->Prop)(EX:XP),Rel K F σ H δ/\w δ R EX/\(∀ds,R ds->ds.length=n->∀vs H',Rel K F σ H' δ->Kp σ δ H H'->Zy (VD m (Av F σ δ) (Yo σ δ) H') vs ds->Q vs H')/\Out F E EX
def yH(A pt:Xb->Prop)(H:Hp)(v:V):Sl->Prop
 |.v d=>DA A H v d
 |.cZ=>∃p,v=.ref p/\pt p
 |_=>False
def nX(K:Qa)(E:XK)(w:me):TA:=λσ H Q=>∃(F:Fm)(δ:aU)(R:List Sl->Prop)(EX:XP),Rel K F σ H δ/\w δ R EX/\(∀ds,R ds->∀vs H',Rel K F σ H' δ->Kp σ δ H H'->Zy (yH (Av F σ δ) (Yo σ δ) H') vs ds->Q vs H')/\Out F E EX
def Kp.vd(k:Kp σ δ H H')(h:VD m (Av F σ δ) (Yo σ δ) H v d):VD m (Av F σ δ) (Yo σ δ) H' v d:=by
 cases m
 ·exact k.da h
 ·exact k.dp h
 ·exact k.da h
def i4(H:Hp):Prop:=∀a xs,H a=some (.lst xs)∨H a=some (.tup xs)->xs.length<=Xj
section
variable{X:Cx}{E:XK}
def Inv.jQ(I:Inv X XI σ H s):i4 H:=λa xs h=>by
 rcases h with h | h
 ·exact(I.au a _ h).1
 ·exact(I.au a _ h).1
def PE.imp(h:PE X e t)(i:∀σ H Q,t' σ H Q->t σ H Q):PE X e t':=λXI s σ H Q I q=>h XI s σ H Q I<|i σ H Q q
def PT.imp(h:PT X e t)(i:∀σ H Q,t' σ H Q->t σ H Q):PT X e t':=λXI s σ H Q I q=>h XI s σ H Q I<|i σ H Q q
def PW.imp(h:PW X e t)(i:∀σ H Q,t' σ H Q->t σ H Q):PW X e t':=λwh XI s σ H Q I q=>h wh XI s σ H Q I<|i σ H Q q
def PA.imp(h:PA X e t)(i:∀σ H Q,t' σ H Q->t σ H Q):PA X e t':=λpos XI s σ H Q I q=>h pos XI s σ H Q I<|i σ H Q q
def aK.len(h:aK X f r):aK X f (λx y H Q=>i4 H->r x y H Q):=λXI s σ H x y v u Q I rx ry q=>h XI s σ H x y v u Q I rx ry<|q<|Inv.jQ I
def aF.len(h:aF X f r):aF X f (λxs H Q=>i4 H->r xs H Q):=λXI s σ H xs us Q I rx q=>h XI s σ H xs us Q I rx<|q<|Inv.jQ I
def jd.len(h:jd X r):jd X (λx y H Q=>i4 H->r x y H Q):=λa b XI s σ H x y v u Q I rx ry q hs=>h a b XI s σ H x y v u Q I rx ry (q<|Inv.jQ I) hs
def aK.ki(h:aK X f r)(h':aK X f r'):aK X f (λx y H Q=>r x y H Q∨r' x y H Q):=aK.or h h'
def jd.ki(h:jd X r)(h':jd X r'):jd X (λx y H Q=>r x y H Q∨r' x y H Q):=λa b XI s σ H x y v u Q I rx ry q hs=>q.elim (λq=>h a b XI s σ H x y v u Q I rx ry q hs) λq=>h' a b XI s σ H x y v u Q I rx ry q hs
def mY.ki(h:mY X r)(h':mY X r'):mY X (λx a b H Q=>r x a b H Q∨r' x a b H Q):=λXI s σ H x v vl vu lo hi sl Q I rx hs pl pu q=>q.elim (h XI s σ H x v vl vu lo hi sl Q I rx hs pl pu)<|h' XI s σ H x v vl vu lo hi sl Q I rx hs pl pu
def toD(h:PE X e<|tX .F X.K E w):PE X e (tX .D X.K E w):=PE.imp h λσ H Q ⟨F,δ,R,EX,r,hw,k,o⟩=>⟨F,δ,R,EX,r,hw,λd hd v H' r' kp vk=>k d hd v H' r' kp vk.1,o⟩
def fw{e:JO}{w:DE}(h:PE X e<|tX .D X.K E w):PE X e (tX .P X.K E w):=PE.imp h λσ H Q ⟨F,δ,R,EX,r,hw,k,o⟩=>⟨F,δ,R,EX,r,hw,λd hd v H' r' kp vk=>k d hd v H' r' kp<|.inl vk,o⟩
def QEA(h:PE X e<|tX .F X.K E w):PE X e (tX .P X.K E w):=fw<|toD h
def ni(i:Nat):DE:=λδ Q _=>match δ[i]? with
 |some (.v d)=>Q d
 |_=>False
def gE(i:Nat):DE:=λδ Q _=>match δ[i]? with
 |some (.v d)=>Q d
 |some (.own ds)=>Q<|.list ds
 |some (.pk ds)=>Q<|.list ds
 |_=>False
def dC(d:Xd):DE:=λ_ Q _=>Q d
def Rel.lt{K:Qa}(r:Rel K F σ H δ){i:Nat}(h:δ[i]? = some x):∃o,σ[i]? = some o:=by
 have:=(QX.mp h).1;exact⟨σ[i]'(by rw[r.len];exact this),Qc _⟩
def QzH(h:PE X e<|bV i):PE X e (tX .D X.K E<|ni i):=PE.imp h λσ H Q ⟨F,δ,R,EX,r,hw,k,o⟩=>by
 unfold ni at hw;split at hw
 ·rename_i d hd
  obtain⟨x,hx⟩:=r.lt hd;obtain⟨v,rfl,q⟩:=r.sl i _ _ hx hd;exact⟨v,hx,k d hw v H r (Kp.refl r) q⟩
 ·exact hw.elim
def QC3(h:PE X e<|bV i):PE X e (tX .P X.K E<|gE i):=PE.imp h λσ H Q ⟨F,δ,R,EX,r,hw,k,o⟩=>by
 unfold gE at hw;split at hw
 ·rename_i d hd
  obtain⟨x,hx⟩:=r.lt hd;obtain⟨v,rfl,q⟩:=r.sl i _ _ hx hd;exact⟨v,hx,k d hw v H r (Kp.refl r)<|.inl q⟩
 ·rename_i d hd
  obtain⟨x,hx⟩:=r.lt hd;obtain⟨l,xs,rfl,e,q,_⟩:=r.sl i _ _ hx hd;exact⟨_,hx,k _ hw _ H r (Kp.refl r)<|.inr ⟨l,xs,d,rfl,rfl,r.bo hd hx,e,q⟩⟩
 ·rename_i d hd
  obtain⟨x,hx⟩:=r.lt hd;obtain⟨l,xs,rfl,e,q,ys,f,f2⟩:=r.sl i _ _ hx hd;refine⟨_,hx,k _ hw _ H r (Kp.refl r)<|.inr ⟨l,xs,d,rfl,rfl,?_,e,q⟩⟩;rintro⟨j,j1,j2⟩;obtain⟨p,m,e1,_,w⟩:=r.sl j _ _ j1 j2;cases e1;rcases w with w | w
  ·exact f2 w
  ·rw[w] at f;cases f
 ·exact hw.elim
def yG(h:PE X e<|tC v)(q:∀(A:Xb->Prop)(H:Hp),DA A H v d):PE X e (tX .D X.K E<|dC d):=PE.imp h λσ H Q ⟨F,δ,R,EX,r,hw,k,o⟩=>k d hw v H r (Kp.refl r)<|q _ _
def QzP{j pos}:PE X (.Constant (.int i) j pos) (tX .D X.K E<|dC<|.int i):=yG Jj λ_ _=>.int i
def QC7{j pos}:PE X (.Constant (.bool b) j pos) (tX .D X.K E<|dC<|.bool b):=yG Bw λ_ _=>.bl b
def QzM{j pos}:PE X (.Constant .none j pos) (tX .D X.K E<|dC .none):=yG QzE λ_ _=>.aL
def QzJ{j pos}(h:Jb (.str x)=true:=by decide):PE X (.Constant (.str x) j pos) (tX .D X.K E<|dC<|.str x):=yG JR λ_ _=>.str x h
def jb(r:R2)(rD:Xd->Xd->(Xd->Prop)->Prop):Prop:=∀(A P:Xb->Prop)(H:Hp)(x y:V)(d1 d2:Xd)(R:Xd->Prop)(Q:VK),i4 H->(∀a,A a->∃xs,H a=some (.lst xs))->DP A P H x d1->DP A P H y d2->rD d1 d2 R ->
 (∀d,R d->∀v H',ag H H'->DA A H' v d->kd H H' v->Q v H')->r x y H Q
def oQ(r:R2)(rD:Xd->Xd->(Xd->Prop)->Prop):Prop:=∀(A P:Xb->Prop)(H:Hp)(x y:V)(d1 d2:Xd)(R:Xd->Prop)(Q:VK),i4 H->(∀a,A a->∃xs,H a=some (.lst xs))->DP A P H x d1->DP A P H y d2->rD d1 d2 R ->
 (∀d,R d->∀v H',ag H H'->DA A H' v d->Q v H')->r x y H Q
def fE(rD:Xd->Xd->(Xd->Prop)->Prop)(wa wb:DE):DE:=λδ Q EX=>wa δ (λd1=>wb δ (λd2=>rD d1 d2 Q) EX) EX
def Iw{K:Qa}(hd:jb r rD)(σ:L2.St)(H:Hp)(Q:VK)(h:tX .F K E (fE rD wa wb) σ H Q) :
  ji (λx y H Q=>i4 H->r x y H Q) (tX .P K E wa) (tX .P K E wb) σ H Q:=by
 obtain⟨F,δ,R,EX,rel,hw,k,o⟩:=h;refine⟨F,δ,_,EX,rel,hw,λd1 h1 x H1 aC bO x1=>⟨F,δ,_,EX,aC,h1,λd2 h2 y H2 aM bB y2=>λln=>(hd (Av F σ δ) (Yo σ δ) H2 x y d1 d2 R Q ln (λa ha=>aM.fc ha) (bB.dp x1) y2 h2 λd hR v H' s q f=>?_),o⟩,o⟩;refine k d hR v H' (aM.same s) ((bO.trans bB).trans<|Kp.same aM s) ⟨q,λl e1 e2=>?_⟩;have f2:=f l e1 e2;cases e:H l with
 |none=>rfl
 |some ob=>
  by_cases z:Yo σ δ l
  ·obtain⟨n,en⟩:=bB.2 l z;rw[en] at f2;cases f2
  ·rw[(bO.trans bB).1 _ _ z e] at f2;cases f2
def QrX{K:Qa}(hd:oQ r rD)(σ:L2.St)(H:Hp)(Q:VK)(h:tX .D K E (fE rD wa wb) σ H Q) :
  ji (λx y H Q=>i4 H->r x y H Q) (tX .P K E wa) (tX .P K E wb) σ H Q:=by
 obtain⟨F,δ,R,EX,rel,hw,k,o⟩:=h;refine⟨F,δ,_,EX,rel,hw,λd1 h1 x H1 aC bO x1=>⟨F,δ,_,EX,aC,h1,λd2 h2 y H2 aM bB y2=>λln=>(hd (Av F σ δ) (Yo σ δ) H2 x y d1 d2 R Q ln (λa ha=>aM.fc ha) (bB.dp x1) y2 h2 λd hR v H' s q=>?_),o⟩,o⟩;exact k d hR v H' (aM.same s) ((bO.trans bB).trans<|Kp.same aM s) q
variable{a b:JO}{wa wb:DE}{pos:Pos}{r:R2}{rD:Xd->Xd->(Xd->Prop)->Prop}
def QzU(ho:aK X (Xr op) r)(hd:jb r rD)(ha:PE X a<|tX .P X.K E wa)(hb:PE X b<|tX .P X.K E wb):PE X (.BinOp a op b pos) (tX .F X.K E<|fE rD wa wb):=PE.imp (YQ (aK.len ho) ha hb)<|Iw hd
def QzS(ho:aK X (Xm op) r)(hd:jb r rD)(ha:PE X a<|tX .P X.K E wa)(hb:PE X b<|tX .P X.K E wb)(hm:behindInMarks op b=false):PE X (.Compare a [op] [b] pos) (tX .F X.K E<|fE rD wa wb):=PE.imp (pA (aK.len ho) ha hb hm)<|Iw hd
def QC5(ho:jd X r)(hd:oQ r rD)(ha:PE X a<|tX .P X.K E wa)(hb:PE X b<|tX .P X.K E wb)(hs:IL b):PE X (.Subscript a b pos) (tX .D X.K E<|fE rD wa wb):=PE.imp (fm (jd.len ho) ha hb hs)<|QrX hd
def gD(w:DE):DT:=λδ Q EX=>w δ (λd=>match d with
 |.bool k=>Q k
 |_=>False) EX
def Qv9(ho:aK X (Xm op) r)(hd:jb r rD)(ha:PE X a<|tX .P X.K E wa)(hb:PE X b<|tX .P X.K E wb)(hm:behindInMarks op b=false):PT X (.Compare a [op] [b] pos) (tT X.K E<|gD<|fE rD wa wb):=by
 refine PT.imp (JK (aK.len ho) ha hb hm) λσ H Q ⟨F,δ,R,EX,rel,hw,k,o⟩=>(Iw hd σ H (λx H'=>∃k,x=.bl k/\Q k H') ⟨F,δ,_,EX,rel,hw,λd hd2 v H' ai kp vk=>?_,o⟩)
 split at hd2
 ·rename_i b
  have:v=.bl b:=by cases vk.1;rfl
  exact⟨b,this,k b hd2 H' ai kp⟩
 ·exact hd2.elim
def AB:Xd->Bool
 |.none=>false
 |.bool b=>b
 |.int i=>i != 0
 |.str y=>(y.length:Int) != 0
 |.list ds => !ds.isEmpty
 |.tuple ds => !ds.isEmpty
 |.dict ds => !ds.isEmpty
def strOk:Xd->Prop
 |.str y=>y.length<=Xj
 |_=>True
def lH(w:DE):DT:=λδ Q EX=>w δ (λd=>strOk d/\Q (AB d)) EX
def QyK{K:Qa}(h:DP A P H v d)(hs:strOk d):Mr K v H (AB d):=by
 have sq:∀{xs:List V}{ds:List Xd},aG A H xs ds->(!ds.isEmpty) = !xs.isEmpty:=λq=>by cases q<;>rfl
 rcases h with h | ⟨l,xs,ds,rfl,rfl,_,e,q⟩
 ·cases h with
  |aL=>rfl
  |bl b=>rfl
  |int i=>rfl
  |str x c=>exact⟨hs,rfl⟩
  |@tup a xs ds n e q=>exact .inr<|.inl ⟨xs,aP.of e,sq q⟩
  |@lst a xs ds n e q=>exact .inl ⟨xs,aA.of e,sq q⟩
  |@jw a kvs ds n e q=>subst q;exact .inr (.inr ⟨AZ kvs,e,by cases kvs<;>rfl⟩)
 ·exact .inl ⟨xs,aA.of e,sq q⟩
def Qv7(h:PE X e<|tX .P X.K E w)(he:∀whole,isTrue e X.env whole=(do let v <- whole;Xu e.pos;Xt [v]<|XD v)):PT X e (tT X.K E<|lH w):=by
 exact PT.imp (CA h he) λσ H Q ⟨F,δ,R,EX,rel,hw,k,o⟩=>⟨F,δ,_,EX,rel,hw,λd ⟨hs,hq⟩ v H' ai kp vk=>⟨AB d,QyK vk hs,k _ hq H' ai kp⟩,o⟩
def Qv6(h:PE X e<|tX .P X.K E w)(he:∀whole,isTrue e X.env whole=(do let v <- whole;Xu e.pos;Xt [v]<|XD v):=by intro _;rfl):PT X e (tT X.K E<|gD w):=by
 refine PT.imp (tZ h he) λσ H Q ⟨F,δ,R,EX,rel,hw,k,o⟩=>⟨F,δ,_,EX,rel,hw,λd hd v H' ai kp vk=>?_,o⟩
 split at hd
 ·exact⟨_,DP.bool vk,k _ hd H' ai kp⟩
 ·exact hd.elim
def Mv(wa wb:DT):DT:=λδ Q EX=>wa δ (λc=>if c=true then wb δ Q EX else Q false) EX
def Ov(wa wb:DT):DT:=λδ Q EX=>wa δ (λc=>if c=true then Q true else wb δ Q EX) EX
def QEp(wa:DT):DT:=λδ Q EX=>wa δ (λc=>Q (!c)) EX
def nG[Decidable c]{q':Prop}(h:if c then p else q)(h1:p->p')(h2:q->q'):if c then p' else q':=by
 split at h
 ·rw[XZ<|by assumption];exact h1 h
 ·rw[XY<|by assumption];exact h2 h
variable{rest:List JO}{ta tb:DT}
def QrE(ha:PT X a<|tT X.K E ta):PW X (.BoolOp .And [a] pos) (tT X.K E ta):=wG ha
def Qv4(ha:PT X a<|tT X.K E ta):PW X (.BoolOp .Or [a] pos) (tT X.K E ta):=ua ha
def Qv5(ha:PT X a<|tT X.K E ta)(hb:PW X (.BoolOp .And (b::rest) pos)<|tT X.K E tb):PW X (.BoolOp .And (a::b::rest) pos) (tT X.K E<|Mv ta tb):=by
 refine PW.imp (vX ha hb) λσ H Q ⟨F,δ,R,EX,rel,hw,k,o⟩=>⟨F,δ,_,EX,rel,hw,λc hc H' ai kp=>?_,o⟩
 exact nG hc (λz=>⟨F,δ,R,EX,ai,z,λc hc H2 aM bB=>k c hc H2 aM<|kp.trans bB,o⟩) λz=>k _ z H' ai kp
def QzF(ha:PT X a<|tT X.K E ta)(hb:PW X (.BoolOp .Or (b::rest) pos)<|tT X.K E tb):PW X (.BoolOp .Or (a::b::rest) pos) (tT X.K E<|Ov ta tb):=by
 refine PW.imp (nv ha hb) λσ H Q ⟨F,δ,R,EX,rel,hw,k,o⟩=>⟨F,δ,_,EX,rel,hw,λc hc H' ai kp=>?_,o⟩
 exact nG hc (λz=>k _ z H' ai kp) λz=>⟨F,δ,R,EX,ai,z,λc hc H2 aM bB=>k c hc H2 aM<|kp.trans bB,o⟩
def Qv8(ha:PT X a<|tT X.K E ta):PT X (.UnaryOp .Not a pos) (tT X.K E<|QEp ta):=by
 exact PT.imp (o8 ha) λσ H Q ⟨F,δ,R,EX,rel,hw,k,o⟩=>⟨F,δ,_,EX,rel,hw,λc hc H' ai kp=>k _ hc H' ai kp,o⟩
def QBd(wa wb:DE):DE:=λδ Q EX=>wa δ (λd=>match d with
 |.bool c=>if c=true then wb δ Q EX else Q<|.bool false
 |_=>False) EX
def QEo(wa wb:DE):DE:=λδ Q EX=>wa δ (λd=>match d with
 |.bool c=>if c=true then Q (.bool true) else wb δ Q EX
 |_=>False) EX
def QA7(wa:DE):DE:=λδ Q EX=>wa δ (λd=>match d with
 |.bool c=>Q<|.bool (!c)
 |_=>False) EX
def QzK{op}(h:PE X a<|tX .D X.K E w):PE X (.BoolOp op [a] pos) (tX .D X.K E w):=BW h
def QzV(ha:PE X a<|tX .P X.K E wa)(hb:PE X (.BoolOp .And (b::rest) pos)<|tX .D X.K E wb):PE X (.BoolOp .And (a::b::rest) pos) (tX .D X.K E<|QBd wa wb):=by
 refine PE.imp (BV ha hb) λσ H Q ⟨F,δ,R,EX,rel,hw,k,o⟩=>⟨F,δ,_,EX,rel,hw,λd hd v H' ai kp vk=>?_,o⟩
 split at hd
 ·exact⟨_,DP.bool vk,nG hd (λz=>⟨F,δ,R,EX,ai,z,λd hd v H2 aM bB=>k d hd v H2 aM<|kp.trans bB,o⟩) λz=>k _ z _ H' ai kp<|.bl _⟩
 ·exact hd.elim
def QC4(ha:PE X a<|tX .P X.K E wa)(hb:PE X (.BoolOp .Or (b::rest) pos)<|tX .D X.K E wb):PE X (.BoolOp .Or (a::b::rest) pos) (tX .D X.K E<|QEo wa wb):=by
 refine PE.imp (QC0 ha hb) λσ H Q ⟨F,δ,R,EX,rel,hw,k,o⟩=>⟨F,δ,_,EX,rel,hw,λd hd v H' ai kp vk=>?_,o⟩
 split at hd
 ·exact⟨_,DP.bool vk,nG hd (λz=>k _ z _ H' ai kp<|.bl _) λz=>⟨F,δ,R,EX,ai,z,λd hd v H2 aM bB=>k d hd v H2 aM<|kp.trans bB,o⟩⟩
 ·exact hd.elim
def QzL(ha:PE X a<|tX .P X.K E wa):PE X (.UnaryOp .Not a pos) (tX .D X.K E<|QA7 wa):=by
 refine PE.imp (QzD ha) λσ H Q ⟨F,δ,R,EX,rel,hw,k,o⟩=>⟨F,δ,_,EX,rel,hw,λd hd v H' ai kp vk=>?_,o⟩
 split at hd
 ·exact⟨_,DP.bool vk,k _ hd _ H' ai kp<|.bl _⟩
 ·exact hd.elim
def QEs(t:DT)(wa wb:DE):DE:=λδ Q EX=>t δ (λc=>if c=true then wa δ Q EX else wb δ Q EX) EX
def QzQ(hc:PT X c<|tT X.K E ta)(ha:PE X a<|tX .D X.K E wa)(hb:PE X b<|tX .D X.K E wb):PE X (.IfExp c a b pos) (tX .D X.K E<|QEs ta wa wb):=by
 refine PE.imp (VJ hc ha hb) λσ H Q ⟨F,δ,R,EX,rel,hw,k,o⟩=>⟨F,δ,_,EX,rel,hw,λd hd H' ai kp=>?_,o⟩
 exact nG hd (λz=>⟨F,δ,R,EX,ai,z,λd hd v H2 aM bB=>k d hd v H2 aM<|kp.trans bB,o⟩) λz=>⟨F,δ,R,EX,ai,z,λd hd v H2 aM bB=>k d hd v H2 aM<|kp.trans bB,o⟩
end
def vS(dm:∀a,A a->∃xs,H a=some (.lst xs))(s:ag H H')(n:H l=none)(e:H' l=some (.lst xs))(q:aG A H xs ds):DA A H' (.ref l) (.list ds):=
 .lst (λz=>by obtain⟨ys,e'⟩:=dm l z;rw[n] at e';cases e') e (q.same s)
def za(dm:∀a,A a->∃xs,H a=some (.lst xs))(s:ag H H')(e:H' l=some (.tup xs))(q:aG A H xs ds):DA A H' (.ref l) (.tuple ds):=
 .tup (λz=>by obtain⟨ys,e'⟩:=dm l z;rw[s _ _ e'] at e;cases e) e (q.same s)
def q0(n:H l=none):kd H H' (.ref l):=λl' e _=>by cases e;exact n
def zh(e:H' l=some (.tup xs)):kd H H' (.ref l):=λl' e1 ⟨ys,e2⟩=>by cases e1;rw[e] at e2;cases e2
def kL:kd H H' (.int i):=λl' e _=>by cases e
def i_:kd H H' (.bl i):=λl' e _=>by cases e
def Qxy:kd H H' .aL:=λl' e _=>by cases e
def aG.rep(q:aG A H xs ds):∀k:Nat,aG A H (Q8 k xs).flatten (Q8 k ds).flatten
 |0=>.nil
 |k+1=>by rw[Yb,Yb];exact q.app<|aG.rep q k
def QEv:Xd->Xd->(Xd->Prop)->Prop
 |.int i,.int j,Q=>Q<|.int<|i+j
 |.tuple a,.tuple b,Q=>a.length+b.length<=1000000/\Q (.tuple<|a++b)
 |.list a,.list b,Q=>a.length+b.length<=1000000/\Q (.list<|a++b)
 |_,_,_=>False
def NR(C:Int->Int->Prop)(f:Int->Int->Xd):Xd->Xd->(Xd->Prop)->Prop
 |.int i,.int j,Q=>C i j/\Q (f i j)
 |_,_,_=>False
def si(f:Int->Int->Xd):Xd->Xd->(Xd->Prop)->Prop
 |.int i,.int j,Q=>Q<|f i j
 |_,_,_=>False
def QEf:Xd->Xd->(Xd->Prop)->Prop
 |.int i,.int j,Q=>(mG i j∨iC i j)/\Q (.int<|i*j)
 |.list a,.int k,Q=>(k<1000000 /\ -1000000<k/\a.length*k.toNat<=1000000)/\Q (.list (Q8 k.toNat a).flatten)
 |_,_,_=>False
def tE:1000000<=Xj:=by decide
section
variable{X:Cx}{E:XK}
def vJ{C:Int->Int->Prop}{g:Int->Int->Int}:jb (rI C λi j=>.int<|g i j) (NR C λi j=>.int<|g i j):=λA P H x y d1 d2 R Q ln dm hx hy h k=>by
 cases d1<;>cases d2<;>first | exact h.elim | skip
 rw[hx.int,hy.int];exact⟨_,_,rfl,rfl,h.1,k _ h.2 _ H (ag.refl H) (.int _) kL⟩
def qX{g:Int->Int->Int}:jb (gq λi j=>.int<|g i j) (si λi j=>.int<|g i j):=λA P H x y d1 d2 R Q ln dm hx hy h k=>by
 cases d1<;>cases d2<;>first | exact h.elim | skip
 rw[hx.int,hy.int];exact⟨_,_,rfl,rfl,k _ h _ H (ag.refl H) (.int _) kL⟩
def tQ{g:Int->Int->Bool}:jb (gq λi j=>.bl<|g i j) (si λi j=>.bool<|g i j):=λA P H x y d1 d2 R Q ln dm hx hy h k=>by
 cases d1<;>cases d2<;>first | exact h.elim | skip
 rw[hx.int,hy.int];exact⟨_,_,rfl,rfl,k _ h _ H (ag.refl H) (.bl _) i_⟩
def QEd:R2:=λx y H Q=>(gq (λi j=>.int<|i+j) x y H Q∨OG x y H Q)∨QEc x y H Q
def YI:aK X (Xr .Add) QEd:=aK.ki (aK.ki tU QwA) P0
def ja:jb QEd QEv:=λA P H x y d1 d2 R Q ln dm hx hy h k=>by
 cases d1<;>cases d2<;>first | exact h.elim | skip
 ·rw[hx.int,hy.int];exact .inl<|.inl ⟨_,_,rfl,rfl,k _ h _ H (ag.refl H) (.int _) kL⟩
 ·obtain⟨l1,xs,rfl,e1,q1⟩:=hx.list;obtain⟨l2,ys,rfl,e2,q2⟩:=hy.list;refine .inr ⟨l1,l2,xs,ys,rfl,rfl,e1,e2,QQ (by rw[q1.length,q2.length];exact h.1) tE,λp hp=>?_⟩;exact k _ h.2 _ _ (Jl hp) (vS dm (Jl hp) hp QC<|q1.app q2)<|q0 hp
 ·obtain⟨l1,xs,rfl,e1,q1⟩:=hx.tuple;obtain⟨l2,ys,rfl,e2,q2⟩:=hy.tuple;refine .inl (.inr ⟨l1,l2,xs,ys,rfl,rfl,e1,e2,QQ (by rw[q1.length,q2.length];exact h.1) tE,λp H' s e=>?_⟩);exact k _ h.2 _ _ s (za dm s e<|q1.app q2)<|zh e
def OJ:R2:=λx y H Q=>(rI mG (λi j=>.int<|i*j) x y H Q∨rI iC (λi j=>.int<|i*j) x y H Q)∨QD4 x y H Q
def Uo:aK X (Xr .Mult) OJ:=aK.ki (aK.ki vT Qww) Qz2
def PZ:jb OJ QEf:=λA P H x y d1 d2 R Q ln dm hx hy h k=>by
 cases d1<;>cases d2<;>first | exact h.elim | skip
 ·rw[hx.int,hy.int];rcases h.1 with c | c
  ·exact .inl<|.inl ⟨_,_,rfl,rfl,c,k _ h.2 _ H (ag.refl H) (.int _) kL⟩
  ·exact .inl<|.inr ⟨_,_,rfl,rfl,c,k _ h.2 _ H (ag.refl H) (.int _) kL⟩
 ·obtain⟨l1,xs,rfl,e1,q1⟩:=hx.list;rw[hy.int];obtain⟨⟨h1,h2,h3⟩,h4⟩:=h;refine .inr ⟨l1,_,xs,rfl,rfl,e1,by omega,by omega,QQ (by rw[q1.length];exact h3) tE,λp hp=>?_⟩;exact k _ h4 _ _ (Jl hp) (vS dm (Jl hp) hp QC<|q1.rep _)<|q0 hp
def Oi:Xd->Xd->(Xd->Prop)->Prop
 |.int i,.int j,Q=>Q<|.bool<|decide (i=j)
 |.bool i,.bool j,Q=>Q<|.bool<|decide (i=j)
 |.str i,.str j,Q=>Q<|.bool<|decide (i=j)
 |a,b,Q=>(nd a=true/\nd b=true/\(a.depth<=50∨b.depth<=50))/\Q (.bool<|Q3 a b)
def Fj:Xd->Xd->(Xd->Prop)->Prop
 |.int i,.int j,Q=>Q<|.bool<|!decide (i=j)
 |.bool i,.bool j,Q=>Q<|.bool<|!decide (i=j)
 |.str i,.str j,Q=>Q<|.bool<|!decide (i=j)
 |a,b,Q=>(nd a=true/\nd b=true/\(a.depth<=50∨b.depth<=50))/\Q (.bool<|!Q3 a b)
def QEb(u:Nat):R2:=λx y H Q=>EG x y H Q∨QEa u x y H Q
def QD6(u:Nat):R2:=λx y H Q=>Nn x y H Q∨QD5 u x y H Q
def BS:aK X (Xm .Eq) (QEb X.A.units):=aK.ki iI HR
def HL:aK X (Xm .NotEq) (QD6 X.A.units):=aK.ki qQ tV
def QAY:decide (V.int i=V.int j)=decide (i=j):=by
 by_cases h:i=j
 ·subst h;simp
 ·rw[X0 h,X0 λz=>h<|V.int.inj z]
def QAZ:decide (V.bl i=V.bl j)=decide (i=j):=by
 by_cases h:i=j
 ·subst h;simp
 ·rw[X0 h,X0 λz=>h<|V.bl.inj z]
def QAX:decide (V.str i=V.str j)=decide (i=j):=by
 by_cases h:i=j
 ·subst h;simp
 ·rw[X0 h,X0 λz=>h<|V.str.inj z]
def Bl{u:Nat}(hu:u+60<cLine):jb (QEb u) Oi:=λA P H x y d1 d2 R Q ln dm hx hy h k=>by
 unfold Oi at h;split at h
 ·rw[hx.int,hy.int];exact .inl ⟨rfl,k (.bool<|decide (V.int _=V.int _)) (by rw[QAY];exact h) _ H (ag.refl H) (.bl _) i_⟩
 ·rw[hx.bool,hy.bool];exact .inl ⟨rfl,k (.bool<|decide (V.bl _=V.bl _)) (by rw[QAZ];exact h) _ H (ag.refl H) (.bl _) i_⟩
 ·rw[hx.str.1,hy.str.1];exact .inl ⟨rfl,k (.bool<|decide (V.str _=V.str _)) (by rw[QAX];exact h) _ H (ag.refl H) (.bl _) i_⟩
 ·obtain⟨⟨n1,n2,dp⟩,hR⟩:=h;exact .inr ⟨_,_,hx.dat n1,hy.dat n2,by omega,k _ hR _ H (ag.refl H) (.bl _) i_⟩
def G9(hu:u+60<cLine):jb (QD6 u) Fj:=λA P H x y d1 d2 R Q ln dm hx hy h k=>by
 unfold Fj at h;split at h
 ·rw[hx.int,hy.int];exact .inl ⟨rfl,k (.bool<|!decide (V.int _=V.int _)) (by rw[QAY];exact h) _ H (ag.refl H) (.bl _) i_⟩
 ·rw[hx.bool,hy.bool];exact .inl ⟨rfl,k (.bool<|!decide (V.bl _=V.bl _)) (by rw[QAZ];exact h) _ H (ag.refl H) (.bl _) i_⟩
 ·rw[hx.str.1,hy.str.1];exact .inl ⟨rfl,k (.bool<|!decide (V.str _=V.str _)) (by rw[QAX];exact h) _ H (ag.refl H) (.bl _) i_⟩
 ·obtain⟨⟨n1,n2,dp⟩,hR⟩:=h;exact .inr ⟨_,_,hx.dat n1,hy.dat n2,by omega,k _ hR _ H (ag.refl H) (.bl _) i_⟩
def Hj(u:Nat)(neg:Bool):R2:=λx y H Q=>∃c ps ds d,y=.ref c/\H c=some (.lst ps)/\aZ H ps ds/\Dat H x d/\u+d.depth<cLine/\Q (.bl<|if neg then !(ds.any λe=>Q3 e d) else ds.any λe=>Q3 e d) H
def Qwx:aK X (Xm .In) (Hj X.A.in1.units false):=by
 intro XI s σ H x y v u Q I rx ry h;obtain⟨c,ps,ds,d,rfl,hc,qs,qx,hu,q⟩:=h;cases ry;obtain⟨⟨as,ra⟩,ca⟩:=rE I.au d x v qx rx;obtain⟨its,rv,pl,hz⟩:=I.list<|aA.of hc;obtain⟨⟨bs,rb⟩,cb⟩:=C4 I.au ds ps its qs rv;refine RJ (ie s.heap d) pl.isList (λw hw=>zj ra ca rb cb hu w<|Yk.mp hw) ⟨.bl _,H,I,rfl,?_⟩;rw[show its.toArray.any (ie s.heap d)=its.any (ie s.heap d) by simp,zm rb cb];exact q
def QlI:aK X (Xm .NotIn) (Hj X.A.in1.units true):=by
 intro XI s σ H x y v u Q I rx ry h;obtain⟨c,ps,ds,d,rfl,hc,qs,qx,hu,q⟩:=h;cases ry;obtain⟨⟨as,ra⟩,ca⟩:=rE I.au d x v qx rx;obtain⟨its,rv,pl,hz⟩:=I.list<|aA.of hc;obtain⟨⟨bs,rb⟩,cb⟩:=C4 I.au ds ps its qs rv;refine SY (ie s.heap d) pl.isList (λw hw=>zj ra ca rb cb hu w<|Yk.mp hw) ⟨.bl _,H,I,rfl,?_⟩;rw[show its.toArray.any (ie s.heap d)=its.any (ie s.heap d) by simp,zm rb cb];exact q
def inD(neg:Bool)(d:Xd):Xd->(Xd->Prop)->Prop
 |.list ds,Q=>(iS ds=true/\nd d=true/\d.depth<=50)/\Q (.bool<|if neg then !(ds.any λe=>Q3 e d) else ds.any λe=>Q3 e d)
 |.tuple ds,Q=>(iS ds=true/\nd d=true/\d.depth<=50)/\Q (.bool<|if neg then !(ds.any λe=>Q3 e d) else ds.any λe=>Q3 e d)
 |_,_=>False
def MC(u:Nat)(neg:Bool):R2:=λx y H Q=>MD u neg x y H Q∨Hj u neg x y H Q
def P1:aK X (Xm .In) (MC X.A.in1.units false):=aK.ki Qz6 Qwx
def zM:aK X (Xm .NotIn) (MC X.A.in1.units true):=aK.ki QnU QlI
def tH(hu:u+60<cLine):jb (MC u neg) (inD neg):=λA P H x y d1 d2 R Q ln dm hx hy h k=>by
 cases d2<;>first | exact h.elim | skip
 ·obtain⟨l,xs,rfl,e,q⟩:=hy.list;obtain⟨⟨n1,n2,n3⟩,hR⟩:=h;exact .inr ⟨l,xs,_,d1,rfl,e,zG _ _ n1 q,hx.dat n2,by omega,k _ hR _ H (ag.refl H) (.bl _) i_⟩
 ·obtain⟨l,xs,rfl,e,q⟩:=hy.tuple;obtain⟨⟨n1,n2,n3⟩,hR⟩:=h;exact .inl ⟨l,xs,_,d1,rfl,e,zG _ _ n1 q,hx.dat n2,by omega,k _ hR _ H (ag.refl H) (.bl _) i_⟩
def AN:Xd->Xd->(Xd->Prop)->Prop
 |.list ds,.int i,Q=>∃d,gR ds i=some d/\Q d
 |.tuple ds,.int i,Q=>∃d,gR ds i=some d/\Q d
 |_,_,_=>False
def Q_(q:aG A H xs ds)(h:gR ds i=some d):∃v,gR xs i=some v/\DA A H v d:=by
 unfold gR at h ⊢;rw[q.length];cases e:jq ds.length i with
 |none=>rw[e] at h;cases h
 |some j=>
  rw[e] at h;exact q.get j d h
def QD8(K:Qa):R2:=λx y H Q=>DZ K x y H Q∨QD7 K x y H Q
def J6:jd X (QD8 X.K):=jd.ki Yn tP
def ZX{K:Qa}:oQ (QD8 K) AN:=λA P H x y d1 d2 R Q ln dm hx hy h k=>by
 cases d1<;>cases d2<;>first | exact h.elim | skip
 ·obtain⟨l,xs,rfl,e,q⟩:=hx.list;obtain⟨d,hd,hR⟩:=h;obtain⟨v,hv,dv⟩:=Q_ q hd;rw[hy.int];exact .inl ⟨l,xs,_,v,rfl,rfl,aA.of e,hv,k d hR v H (ag.refl H) dv⟩
 ·obtain⟨l,xs,rfl,e,q⟩:=hx.tuple;obtain⟨d,hd,hR⟩:=h;obtain⟨v,hv,dv⟩:=Q_ q hd;rw[hy.int];exact .inr ⟨l,xs,_,v,rfl,rfl,aP.of e,hv,k d hR v H (ag.refl H) dv⟩
def Oq(rD:Xd->(Xd->Prop)->Prop)(wa:DE):DE:=λδ Q EX=>wa δ (λd=>rD d Q) EX
def QEe:Xd->(Xd->Prop)->Prop
 |.int i,Q=>Q<|.int<|-i
 |_,_=>False
variable{a b c:JO}{wa wb wc:DE}{pos:Pos}
def QzN(ha:PE X a<|tX .P X.K E wa):PE X (.UnaryOp .USub a pos) (tX .F X.K E<|Oq QEe wa):=by
 refine PE.imp (Hf H_ ha) λσ H Q ⟨F,δ,R,EX,rel,hw,k,o⟩=>⟨F,δ,_,EX,rel,hw,λd hd v H' ai kp vk=>?_,o⟩
 cases d<;>first | exact(hd).elim | skip
 exact⟨_,DP.int vk,k _ hd _ H' ai kp ⟨.int _,kL⟩⟩
def Gg(p q:Int->Int->Bool)(wa wb wc:DE):DE:=λδ Q EX=>wa δ (λx=>wb δ (λy=>match x,y with
 |.int i,.int j=>if p i j=true then wc δ (λz=>match z with
  |.int k=>Q<|.bool<|q j k
  |_=>False) EX else Q<|.bool false
 |_,_=>False) EX) EX
def QxW{K:Qa}(σ:L2.St)(H:Hp)(Q:VK)(h:tX .F K E (Gg p q wa wb wc) σ H Q) :
  SJ (gq λi j=>.bl<|p i j) (gq λi j=>.bl<|q i j) (tX .P K E wa) (tX .P K E wb) (tX .P K E wc) σ H Q:=by
 obtain⟨F,δ,R,EX,rel,hw,k,o⟩:=h;refine⟨F,δ,_,EX,rel,hw,λd1 h1 x H1 aC bO x1=>⟨F,δ,_,EX,aC,h1,λd2 h2 y H2 aM bB y2=>?_,o⟩,o⟩;cases d1<;>cases d2<;>first | exact(h2).elim | skip
 rw[DP.int x1,DP.int y2];refine⟨_,_,rfl,rfl,_,rfl,nG h2 (λz=>⟨F,δ,_,EX,aM,z,λd3 h3 v H3 g9 AM v3=>?_,o⟩) λz=>k _ z _ H2 aM (bO.trans bB) ⟨.bl _,i_⟩⟩;cases d3<;>first | exact(h3).elim | skip
 rw[DP.int v3];exact⟨_,_,rfl,rfl,k _ h3 _ H3 g9 ((bO.trans bB).trans AM) ⟨.bl _,i_⟩⟩
def QC6(ho:aK X (Xm op)<|gq λi j=>.bl<|p i j)(gO:aK X (Xm p7)<|gq λi j=>.bl<|q i j)(ha:PE X a<|tX .P X.K E wa)(hb:PE X b<|tX .P X.K E wb)(hc:PE X c<|tX .P X.K E wc)(hm:lastMarks [op,p7] [b,c]=false:=by with_unfolding_all rfl) :
  PE X (.Compare a [op,p7] [b,c] pos) (tX .F X.K E<|Gg p q wa wb wc):=PE.imp (QrB ho gO ha hb hc (hm:=hm)) QxW
def nh:kf:=λ_ Q _=>Q []
def gH(we:DE)(wr:kf):kf:=λδ Q EX=>we δ (λd=>wr δ (λds=>Q (d::ds)) EX) EX
def Qwn:PA X [] (jj 0 m X.K E nh):=PA.imp Qp λσ H Q ⟨F,δ,R,EX,rel,hw,k,o⟩=>k [] hw rfl [] H rel (Kp.refl rel) .nil
def S6{K:Qa}(hm:∀{F:Fm}{σ:L2.St}{δ:aU}{H H':Hp}{v:V}{d:Xd},Be m F σ δ H H' v d->VD m (Av F σ δ) (Yo σ δ) H' v d)(σ:L2.St)(H:Hp)(Q:List V->Hp->Prop)(h:jj (n+1) m K E (gH we wr) σ H Q):dX (tX m K E we) (jj n m K E wr) σ H Q:=by
 obtain⟨F,δ,R,EX,rel,hw,k,o⟩:=h;exact⟨F,δ,_,EX,rel,hw,λd hd v H' ai kp vk=>⟨F,δ,_,EX,ai,hd,λds bC hl vs H2 aM bB xb=>(k _ bC (by rw[Qw,hl]) (v::vs) H2 aM (kp.trans bB)<|.cons (bB.vd<|hm vk) xb),o⟩,o⟩
def QnQ(he:PE X e<|tX .D X.K E we)(hr:PA X es<|jj n .D X.K E wr)(hs:notStar e=true:=by rfl):PA X (e::es) (jj (n+1) .D X.K E<|gH we wr):=PA.imp (a_ he hr hs)<|S6 λh=>h
def QnP(he:PE X e<|tX .P X.K E we)(hr:PA X es<|jj n .P X.K E wr)(hs:notStar e=true:=by rfl):PA X (e::es) (jj (n+1) .P X.K E<|gH we wr):=PA.imp (a_ he hr hs)<|S6 λh=>h
def LQ:∀{vs:List V}{ds:List Xd},Zy (VD .D A P H) vs ds->aG A H vs ds
 |_,_,.nil=>.nil
 |_,_,.cons a b=>.cons a<|LQ b
def Ae(w:kf):DE:=λδ Q EX=>w δ (λds=>Q<|.tuple ds) EX
def Ac(w:kf):DE:=λδ Q EX=>w δ (λds=>Q<|.list ds) EX
def QzI{x1}(h:PA X es<|jj n .D X.K E w)(hn:n<=1000:=by decide):PE X (.Tuple es x1 pos) (tX .F X.K E<|Ae w):=by
 refine PE.imp (Y1 h) λσ H Q ⟨F,δ,R,EX,rel,hw,k,o⟩=>⟨F,δ,_,EX,rel,hw,λds bC hl vs H' ai kp q=>?_,o⟩
 have q':=LQ q;refine⟨by rw[q'.length,hl];exact hn,λa H2 s n e=>k _ bC _ H2 (ai.same s) (kp.trans<|Kp.same ai s) ⟨za (λa ha=>ai.fc ha) s e q',zh e⟩⟩
def uj(k:Kp σ δ H H')(n:H' l=none):H l=none:=by
 cases e:H l with
 |none=>rfl
 |some ob=>
  by_cases z:Yo σ δ l
  ·obtain⟨m,em⟩:=k.2 l z;rw[em] at n;cases n
  ·rw[k.1 _ _ z e] at n;cases n
def QzO(h:PA X es<|jj n .D X.K E w)(hn:n<=1000:=by decide):PE X (.List es pos) (tX .F X.K E<|Ac w):=by
 refine PE.imp (Y2 h) λσ H Q ⟨F,δ,R,EX,rel,hw,k,o⟩=>⟨F,δ,_,EX,rel,hw,λds bC hl vs H' ai kp q=>?_,o⟩
 have q':=LQ q;refine⟨by rw[q'.length,hl];exact hn,λa H2 s n e=>k _ bC _ H2 (ai.same s) (kp.trans<|Kp.same ai s) ⟨vS (λa ha=>ai.fc ha) s n e q',q0<|uj kp n⟩⟩
def QzR:PE X (.Dict [] [] pos) (tX .D X.K E<|dC<|.dict []):=by
 refine PE.imp Qv1 λσ H Q ⟨F,δ,R,EX,rel,hw,k,o⟩=>λp hp=>(k _ hw _ _ (rel.same<|Jl hp) (Kp.same rel<|Jl hp)<|.jw (kvs:=[]) (λz=>?_) QC rfl)
 obtain⟨xs,e⟩:=rel.fc z;rw[hp] at e;cases e
def iZ(r:List V->Hp->VK->Prop)(rD:List Xd->(Xd->Prop)->Prop):Prop:=∀(A P:Xb->Prop)(H:Hp)(vs:List V)(ds:List Xd)(R:Xd->Prop)(Q:VK),i4 H->(∀a,A a->∃xs,H a=some (.lst xs))->Zy (DP A P H) vs ds->rD ds R ->
 (∀d,R d->∀v H',ag H H'->DA A H' v d->kd H H' v->Q v H')->r vs H Q
def sL(rD:List Xd->(Xd->Prop)->Prop)(wa:kf):DE:=λδ Q EX=>wa δ (λds=>rD ds Q) EX
def T5{K:Qa}{wa:kf}(hd:iZ r rD)(σ:L2.St)(H:Hp)(Q:VK)(h:tX .F K E (sL rD wa) σ H Q) :
  pX (λxs H Q=>i4 H->r xs H Q) (jj n .P K E wa) σ H Q:=by
 obtain⟨F,δ,R,EX,rel,hw,k,o⟩:=h;refine⟨F,δ,_,EX,rel,hw,λds bC hl vs H' ai kp q ln=>(hd (Av F σ δ) (Yo σ δ) H' vs ds R Q ln (λa ha=>ai.fc ha) q bC λd hR v H2 s dv fr=>?_),o⟩;exact k d hR v H2 (ai.same s) (kp.trans<|Kp.same ai s) ⟨dv,λl e1 e2=>uj kp<|fr l e1 e2⟩
variable{x:Str}{Ba T:String}{p:Pos}{e:JO}{es:List JO}{n:Nat}{wr:kf}{r:List V->Hp->VK->Prop}{rD:List Xd->(Xd->Prop)->Prop}
def QrV(hc:aF X (.builtin Ba) r)(hd:iZ r rD)(hg:Gl X x)(hm:X.mg x=none)(hv:Xn x=some (.builtin Ba))(ha:PA X (e::es)<|jj n .P X.K E wr)(hn:x ≠ "__name__" := by decide)(bE:(x == ("__debug__" : Str))=false:=by decide)
  (he:Xi (e::es) X.env=(false,eval e X.env)::Xi es X.env:=by rfl)(hpl:(Xq pos<|Xi es X.env).any (·.1)=false:=by rfl):PE X (.Call (.Name x p) (e::es) [] pos) (tX .F X.K E<|sL rD wr):=
 PE.imp (Zc (aF.len hc) hg hm hv ha hn bE he hpl) (T5 hd)
def QnR(hc:aF X (.type T) r)(hd:iZ r rD)(hg:Gl X x)(hm:X.mg x=none)(hv:Xn x=some (.type T))(ha:PA X (e::es)<|jj n .P X.K E wr)(hn:x ≠ "__name__" := by decide)(bE:(x == ("__debug__" : Str))=false:=by decide)
  (he:Xi (e::es) X.env=(false,eval e X.env)::Xi es X.env:=by rfl)(hpl:(Xq pos<|Xi es X.env).any (·.1)=false:=by rfl):PE X (.Call (.Name x p) (e::es) [] pos) (tX .F X.K E<|sL rD wr):=
 PE.imp (Zq (aF.len hc) hg hm hv ha hn bE he hpl) (T5 hd)
def kW(q:Zy (DP A P H) vs [d]):∃v,vs=[v]/\DP A P H v d:=by
 cases q with
 |cons a b=>cases b;exact⟨_,rfl,a⟩
def pd2(q:Zy (DP A P H) vs [d,d']):∃v v',vs=[v,v']/\DP A P H v d/\DP A P H v' d':=by
 cases q with
 |cons a b=>cases b with | cons b c=>cases c;exact⟨_,_,rfl,a,b⟩
def Mj:List Xd->(Xd->Prop)->Prop
 |[.list ds],Q=>Q<|.int ds.length
 |[.tuple ds],Q=>Q<|.int ds.length
 |_,_=>False
def BJ{K:Qa}:iZ (OH K) Mj:=λA P H vs ds R Q ln dm q h k=>by
 unfold Mj at h;split at h
 ·obtain⟨v,rfl,hv⟩:=kW q;obtain⟨l,xs,rfl,e,qq⟩:=hv.list;exact⟨l,xs,rfl,.inl<|aA.of e,by rw[qq.length];exact k _ h _ H (ag.refl H) (.int _) kL⟩
 ·obtain⟨v,rfl,hv⟩:=kW q;obtain⟨l,xs,rfl,e,qq⟩:=hv.tuple;exact⟨l,xs,rfl,.inr<|aP.of e,by rw[qq.length];exact k _ h _ H (ag.refl H) (.int _) kL⟩
 ·exact h.elim
def CZ:aF X (.builtin "len") (OH X.K):=Zx
def GX:List Xd->(Xd->Prop)->Prop
 |[.int i,.int j],Q=>Q<|.int<|if j<i then j else i
 |_,_=>False
def QxY:iZ (λxs H Q=>∃i j,xs=[.int i,.int j]/\Q (.int<|if j<i then j else i) H) GX:=λA P H vs ds R Q ln dm q h k=>by
 unfold GX at h;split at h
 ·obtain⟨v,v',rfl,h1,h2⟩:=pd2 q;rw[h1.int,h2.int];exact⟨_,_,rfl,k _ h _ H (ag.refl H) (.int _) kL⟩
 ·exact h.elim
def wm:List Xd->Option (List Bool)
 |[]=>some []
 |.bool b::ds=>(wm ds).map (b::·)
 |_::_=>none
def uc:List Xd->Option (List Int)
 |[]=>some []
 |.int b::ds=>(uc ds).map (b::·)
 |_::_=>none
def Qpa(bs:List Bool):wm (bs.map rA)=some bs:=by
 induction bs with
 |nil=>rfl
 |cons b bs ih=>rw[Yc,wm,ih];rfl
def ints_map(bs:List Int):uc (bs.map Qr)=some bs:=by
 induction bs with
 |nil=>rfl
 |cons b bs ih=>rw[Yc,uc,ih];rfl
def cj:∀{ds:List Xd}{bs:List Bool},wm ds=some bs->ds=bs.map rA
 |[],bs,h=>by cases h;rfl
 |d::ds,bs,h=>by
  cases d<;>first | (unfold wm at h;cases h;done) | skip
  obtain⟨cs,h1,rfl⟩:=Jk.mp h;rw[cj h1];rfl
def IY:∀{ds:List Xd}{bs:List Int},uc ds=some bs->ds=bs.map Qr
 |[],bs,h=>by cases h;rfl
 |d::ds,bs,h=>by
  cases d<;>first | (unfold uc at h;cases h;done) | skip
  obtain⟨cs,h1,rfl⟩:=Jk.mp h;rw[IY h1];rfl
def QoN{bs:List Bool}{xs:List V}(h:aG A H xs<|bs.map rA):xs=bs.map V.bl:=by
 induction bs generalizing xs with
 |nil=>cases h;rfl
 |cons b bs ih=>cases h with | cons q r=>cases q;rw[ih r];rfl
def wH{bs:List Int}{xs:List V}(h:aG A H xs<|bs.map Qr):xs=bs.map V.int:=by
 induction bs generalizing xs with
 |nil=>cases h;rfl
 |cons b bs ih=>cases h with | cons q r=>cases q;rw[ih r];rfl
@[irreducible] def D8:List Xd->(Xd->Prop)->Prop
 |[.list ds],Q=>∃ns,uc ds=some ns/\Q (.int ns.sum)
 |_,_=>False
def QBg{K:Qa}:iZ (OK K) D8:=λA P H vs ds R Q ln dm q h k=>by
 unfold D8 at h;split at h
 ·obtain⟨v,rfl,hv⟩:=kW q;obtain⟨bs,hb,hR⟩:=h;rw[IY hb] at hv;obtain⟨l,xs,rfl,e,qq⟩:=hv.list;rw[wH qq] at e;exact⟨l,bs,rfl,aA.of e,k _ hR _ H (ag.refl H) (.int _) kL⟩
 ·exact h.elim
def RR:List Xd->(Xd->Prop)->Prop
 |[.list ds],Q=>Q<|.tuple ds
 |[.tuple ds],Q=>Q<|.tuple ds
 |_,_=>False
def GW:List Xd->(Xd->Prop)->Prop
 |[.list ds],Q=>Q<|.list ds
 |[.tuple ds],Q=>Q<|.list ds
 |_,_=>False
def zF{K:Qa}:iZ (Ug K) RR:=λA P H vs ds R Q ln dm q h k=>by
 unfold RR at h;split at h
 ·obtain⟨v,rfl,hv⟩:=kW q;obtain⟨l,xs,rfl,e,qq⟩:=hv.list;exact⟨l,xs,rfl,.inl ⟨aA.of e,λl' H' s n e'=>k _ h _ H' s (za dm s e' qq)<|zh e'⟩⟩
 ·obtain⟨v,rfl,hv⟩:=kW q;obtain⟨l,xs,rfl,e,qq⟩:=hv.tuple;exact⟨l,xs,rfl,.inr ⟨aP.of e,k _ h _ H (ag.refl H) (za dm (ag.refl H) e qq)<|zh e⟩⟩
 ·exact h.elim
def IQ{K:Qa}:iZ (Ud K) GW:=λA P H vs ds R Q ln dm q h k=>by
 unfold GW at h;split at h
 ·obtain⟨v,rfl,hv⟩:=kW q;obtain⟨l,xs,rfl,e,qq⟩:=hv.list;exact⟨l,xs,rfl,.inl<|aA.of e,λl' H' s n e'=>k _ h _ H' s (vS dm s n e' qq)<|q0 n⟩
 ·obtain⟨v,rfl,hv⟩:=kW q;obtain⟨l,xs,rfl,e,qq⟩:=hv.tuple;exact⟨l,xs,rfl,.inr<|aP.of e,λl' H' s n e'=>k _ h _ H' s (vS dm s n e' qq)<|q0 n⟩
 ·exact h.elim
end
end Dl


namespace Dl
open L2 _root_.Rd Rk
section
variable{X:Cx}{E:XK}
inductive Tn where | int | bool | str | tuple | list
def Tn.s:Tn->String
 |.int => "int"
 |.bool => "bool"
 |.str => "str"
 |.tuple => "tuple"
 |.list => "list"
def NQ:Tn->Xd->Bool
 |.int,.int _=>true
 |.int,.bool _=>true
 |.bool,.bool _=>true
 |.str,.str _=>true
 |.tuple,.tuple _=>true
 |.list,.list _=>true
 |_,_=>false
def Qxu{K:Qa}(tn:Tn)(h:DP A P H v d):∃t,dg K H v t/\Zj K t (.type tn.s)=some (NQ tn d):=by
 rcases h with h | ⟨l,xs,ds,rfl,rfl,_,e,q⟩
 ·cases h with
  |aL=>exact⟨_,.aL,by cases tn<;>rfl⟩
  |bl b=>exact⟨_,.bl _,by cases tn<;>rfl⟩
  |int i=>exact⟨_,.int _,by cases tn<;>rfl⟩
  |str x c=>exact⟨_,.str _,by cases tn<;>rfl⟩
  |tup n e q=>exact⟨_,.tup e,by cases tn<;>rfl⟩
  |lst n e q=>exact⟨_,.lst e,by cases tn<;>rfl⟩
  |jw n e q=>exact⟨_,.dK e,by cases tn<;>rfl⟩
 ·exact⟨_,.lst e,by cases tn<;>rfl⟩
def QBa(tn:Tn)(we:DE):DE:=λδ Q EX=>we δ (λd=>Q<|.bool<|NQ tn d) EX
def Qwp(tn:Tn)(hg:Gl X "isinstance")(hm:X.mg "isinstance" = none)(he:PE X e<|tX .P X.K E we)(hf:PE X f<|tC<|.ty tn.s)(h1:notStar e=true:=by rfl)(h2:notStar f=true:=by rfl) :
  PE X (.Call (.Name "isinstance" p) [e,f] [] pos) (tX .F X.K E<|QBa tn we):=by
 refine PE.imp (Zc QjR hg hm L6 (a_ he (a_ hf Qp h2) h1) (he:=nN h1) (hpl:=by rw[nN h2];rfl)) λσ H Q ⟨F,δ,R,EX,rel,hw,k,o⟩=>?_
 refine⟨F,δ,_,EX,rel,hw,λd hd v H' ai kp vk=>?_,o⟩;obtain⟨t,ty,et⟩:=Qxu tn vk;exact⟨v,t,tn.s,_,rfl,ty,et,k _ hd _ H' ai kp ⟨.bl _,i_⟩⟩
def QC9(tn:Tn)(hg:Gl X x)(hm:X.mg x=none)(hv:Xn x=some (.type tn.s))(hn:x ≠ "__name__" := by decide)(hd:(x == ("__debug__" : Str))=false:=by decide):PE X (.Name x pos) (tC<|.ty tn.s):=Up hg hm hv rfl hn hd
abbrev DO:=aU->(Option Int->Prop)->XP->Prop
def tO(K:Qa)(E:XK)(w:DO):TO:=λσ H Q=>∃(F:Fm)(δ:aU)(R:Option Int->Prop)(EX:XP),Rel K F σ H δ/\w δ R EX/\(∀d,R d->∀H',Rel K F σ H' δ->Kp σ δ H H'->Q d H')/\Out F E EX
def Ow:DO:=λ_ Q _=>Q none
def Ot(we:DE):DO:=λδ Q EX=>we δ (λd=>match d with
 |.int i=>Q<|some i
 |_=>False) EX
def PO.imp(h:PO X e t)(i:∀σ H Q,t' σ H Q->t σ H Q):PO X e t':=λXI s σ H Q I q=>h XI s σ H Q I<|i σ H Q q
def QrP:PO X none (tO X.K E Ow):=PO.imp Ut λσ H Q ⟨F,δ,R,EX,rel,hw,k,o⟩=>k _ hw H rel<|Kp.refl rel
def QrO(he:PE X e<|tX .P X.K E we):PO X (some e) (tO X.K E<|Ot we):=by
 refine PO.imp (Uu he) λσ H Q ⟨F,δ,R,EX,rel,hw,k,o⟩=>⟨F,δ,_,EX,rel,hw,λd hd v H' ai kp vk=>?_,o⟩
 cases d<;>first | exact(hd).elim | skip
 exact⟨_,DP.int vk,k _ hd H' ai kp⟩
def cutD(xs:List Xd)(lo hi:Option Int):List Xd:=(xs.drop<|HT.aX xs.length 0 lo).take<|HT.aX xs.length xs.length hi - HT.aX xs.length 0 lo
def TN(q:aG A H xs ds)(lo hi:Option Int):aG A H (kz xs lo hi) (cutD ds lo hi):=by
 unfold kz cutD;rw[q.length];exact(q.drop _).take _
def slD(d:Xd)(lo hi:Option Int)(Q:Xd->Prop):Prop:=
 match d with
 |.list ds=>Q<|.list<|cutD ds lo hi
 |.tuple ds=>Q<|.tuple<|cutD ds lo hi
 |_=>False
def Ou(we:DE)(wl wh:DO):DE:=λδ Q EX=>we δ (λd=>wl δ (λlo=>wh δ (λhi=>slD d lo hi Q) EX) EX) EX
def QrT{lo:Option JO}(he:PE X e<|tX .P X.K E we)(hl:PO X lo<|tO X.K E wl)(hh:PO X hi<|tO X.K E wh):PE X (.Subscript e (.Slice lo hi none p2) pos) (tX .F X.K E<|Ou we wl wh):=by
 refine PE.imp (VL (mY.ki Qy4 Vl) he hl hh) λσ H Q ⟨F,δ,R,EX,rel,hw,k,o⟩=>?_
 refine⟨F,δ,_,EX,rel,hw,λd hd v H1 aC bO vk=>⟨F,δ,_,EX,aC,hd,λa ha H2 aM bB=>⟨F,δ,_,EX,aM,ha,λb hb H3 g9 AM=>?_,o⟩,o⟩,o⟩;have v3:=AM.dp<|bB.dp vk;have K3:=(bO.trans bB).trans AM;cases d<;>first | exact(hb).elim | skip
 ·obtain⟨l,xs,rfl,e,q⟩:=DP.list v3;exact .inr ⟨l,xs,rfl,aA.of e,λp H' s n e'=>k _ hb _ H' (g9.same s) (K3.trans<|Kp.same g9 s) ⟨vS (λa ha=>g9.fc ha) s n e'<|TN q _ _,q0<|uj K3 n⟩⟩
 ·obtain⟨l,xs,rfl,e,q⟩:=DP.tuple v3;exact .inl ⟨l,xs,rfl,e,λp H' s e'=>k _ hb _ H' (g9.same s) (K3.trans<|Kp.same g9 s) ⟨za (λa ha=>g9.fc ha) s e'<|TN q _ _,zh e'⟩⟩
abbrev DF:=List Sl->(Xd->Prop)->XP->Prop
def Kq(pt:Xb->Prop)(H H':Hp):Prop:=(∀b o,¬pt b->H b=some o->H' b=some o)/\∀p,pt p->∃n,H' p=some (.lst [.int n])
def Zz(fr:Bool)(f:DF):Sp:=λvs H Q Ex=>∃(A pt:Xb->Prop)(args:List Sl)(R:Xd->Prop)(EX:XP),(∀a,A a->∃xs,H a=some (.lst xs))/\(∀p,pt p->A p/\∃n,H p=some (.lst [.int n]))/\Zy (yH A pt H) vs args/\f args R EX /\
 (∀d,R d->∀v H',Kq pt H H'->DA A H' v d->(fr=true->kd H H' v)->Q v H')/\∀C,EX C->∀H',Kq pt H H'->Ex (.ref C) none H'
def MH:me:=λ_ Q _=>Q []
def sV(we:DE)(wr:me):me:=λδ Q EX=>we δ (λd=>wr δ (λds=>Q (.v d::ds)) EX) EX
def D0(i:Nat)(wr:me):me:=λδ Q EX=>match δ[i]? with
 |some .cZ=>wr δ (λds=>Q (.cZ::ds)) EX
 |_=>False
def Qwf:PA X [] (nX X.K E MH):=PA.imp Qp λσ H Q ⟨F,δ,R,EX,rel,hw,k,o⟩=>k [] hw [] H rel (Kp.refl rel) .nil
def QC2(he:PE X e<|tX .D X.K E we)(hr:PA X es<|nX X.K E wr)(hs:notStar e=true:=by rfl):PA X (e::es) (nX X.K E<|sV we wr):=by
 refine PA.imp (a_ he hr hs) λσ H Q ⟨F,δ,R,EX,rel,hw,k,o⟩=>⟨F,δ,_,EX,rel,hw,λd hd v H' ai kp vk=>⟨F,δ,_,EX,ai,hd,λds bC vs H2 aM bB xb=>?_,o⟩,o⟩
 exact k _ bC (v::vs) H2 aM (kp.trans bB)<|.cons (bB.da vk) xb
def Qwc(he:PE X e<|bV i)(hr:PA X es<|nX X.K E wr)(hs:notStar e=true:=by rfl):PA X (e::es) (nX X.K E<|D0 i wr):=by
 refine PA.imp (a_ he hr hs) λσ H Q ⟨F,δ,R,EX,rel,hw,k,o⟩=>?_
 unfold D0 at hw;split at hw
 ·rename_i hd
  obtain⟨x,hx⟩:=rel.lt hd;obtain⟨p,n,rfl,e,q⟩:=rel.sl i _ _ hx hd;exact⟨.ref p,hx,F,δ,_,EX,rel,hw,λds bC vs H2 aM bB xb=>(k _ bC (.ref p::vs) H2 aM bB<|.cons ⟨p,rfl,i,hx,hd⟩ xb),o⟩
 ·exact hw.elim
def o4(f:DF)(wa:me):DE:=λδ Q EX=>wa δ (λargs=>f args Q EX) EX
def WG{K:Qa}(hm:∀{F:Fm}{σ:L2.St}{δ:aU}{H H':Hp}{v:V}{d:Xd},DA (Av F σ δ) H' v d->(fr=true->kd H H' v)->Be m F σ δ H H' v d)(σ:L2.St)(H:Hp)(Q:VK)(h:tX m K E (o4 f wa) σ H Q):yU (Zz fr f) [] E (nX K E wa) σ H Q:=by
 obtain⟨F,δ,R,EX,rel,hw,k,o⟩:=h;refine⟨F,δ,_,EX,rel,hw,λargs ha vs H1 aC bO q=>?_,o⟩;show Zz fr f (vs++[]) H1 Q E;rw[JW];exact⟨Av F σ δ,Yo σ δ,args,R,EX,λa ha=>aC.fc ha,λp hp=>⟨gX hp,(Kp.refl aC).2 p hp⟩,q,ha,λd hd v H' kq dv fr=>(k d hd v H' (aC.kp kq) (bO.trans kq)<|hm dv λz l e1 e2=>uj bO<|fr z l e1 e2),λC hC H' kq=>o C hC H' (aC.kp kq).ke⟩
variable{CX:jg}{k:Nat}{f:Xb}{fd:Zs}{ps:List Str}{x:Str}{p pos:Pos}{e:JO}{es:List JO}{fD:DF}{wa:me}
def Qwr(G:aI X.prog X.w X.K X.mg X.base CX k f fd ps<|Zz false fD)(hr:ao k X.A)(hg:Gl X x)(hm:X.mg x=some (.ref f))(hk:Q7 X.K (.ref f)=true)(hb:Binds X.K fd ps [])(hx:Y6 CX X E)
  (ha:PA X (e::es)<|nX X.K E wa)(bE:(x == ("__debug__" : Str))=false:=by decide)(he:Xi (e::es) X.env=(false,eval e X.env)::Xi es X.env:=by rfl)(hpl:(Xq pos<|Xi es X.env).any (·.1)=false:=by rfl) :
  PE X (.Call (.Name x p) (e::es) [] pos) (tX .D X.K E<|o4 fD wa):=PE.imp (IB G hr hg hm hk hb .nil hx ha bE he hpl)<|WG λh _=>h
def QrU(G:aI X.prog X.w X.K X.mg X.base CX k f fd ps<|Zz true fD)(hr:ao k X.A)(hg:Gl X x)(hm:X.mg x=some (.ref f))(hk:Q7 X.K (.ref f)=true)(hb:Binds X.K fd ps [])(hx:Y6 CX X E)
  (ha:PA X (e::es)<|nX X.K E wa)(bE:(x == ("__debug__" : Str))=false:=by decide)(he:Xi (e::es) X.env=(false,eval e X.env)::Xi es X.env:=by rfl)(hpl:(Xq pos<|Xi es X.env).any (·.1)=false:=by rfl) :
  PE X (.Call (.Name x p) (e::es) [] pos) (tX .F X.K E<|o4 fD wa):=PE.imp (IB G hr hg hm hk hb .nil hx ha bE he hpl)<|WG λh z=>⟨h,z rfl⟩
end
end Dl


namespace Dl
open L2 _root_.Rd Rk
abbrev DG:=Xd->aU->(aU->Prop)->Prop
def tG(ix:List Nat)(K:Qa)(w:DG):TG:=λv σ H Q=>∃(F:Fm)(δ:aU)(d:Xd)(R:aU->Prop),Rel K F σ H δ/\DA (Av F σ δ) H v d/\w d δ R /\
 ∀δ',R δ'->∀σ',Rel K F σ' H δ'->bg F σ H δ σ' H δ'->σ'.length=σ.length->(∀j,j∉ix->σ'[j]? = σ[j]?)->Q σ' H
def iL{l:List α}(h:j≠i):(l.set i x)[j]? = l[j]? := Dm<|ir h
def bu{l:List α}(h:(l.set i x)[i]? = some y):y=x:=by
 rw[Lm] at h;simp only[if_true] at h;split at h
 ·exact(QF h).symm
 ·cases h
def ud(h:Av F (σ.set i o) (δ.set i<|.v d) a):Av F σ δ a:=by
 rcases h with h | ⟨j,h1,h2⟩
 ·exact .inl h
 ·by_cases z:j=i
  ·subst z;rcases h2 with h2 | ⟨ds,h2⟩<;>cases bu h2
  ·rw[iL z] at h1 h2;exact .inr ⟨j,h1,h2⟩
def Rel.dq{K:Qa}(r:Rel K F σ H δ)(q:DA (Av F σ δ) H v d):Rel K F (σ.set i<|some v) H (δ.set i<|.v d) where
 len:=by rw[ZJ,ZJ];exact r.len
 iX:=r.iX
 cI:=r.cI
 iF:=r.iF
 kx:=r.kx
 sl:=λj o x h1 h2=>by
  by_cases z:j=i
  ·subst z;cases bu h1;cases bu h2;exact⟨v,rfl,q.mv (λ_ _ _ e=>e) λa z=>.inl<|ud z⟩
  ·rw[iL z] at h1 h2;have h:=r.sl j o x h1 h2;cases x with
   |no=>trivial
   |v d=>obtain⟨v',e,q'⟩:=h;exact⟨v',e,q'.mv (λ_ _ _ e=>e) λa z=>.inl<|ud z⟩
   |own ds=>obtain⟨l,xs,e,e2,q',f⟩:=h;exact⟨l,xs,e,e2,q'.mv (λ_ _ _ e=>e) λa z=>.inl<|ud z,f⟩
   |pk ds=>obtain⟨l,xs,e,e2,q',f⟩:=h;exact⟨l,xs,e,e2,q'.mv (λ_ _ _ e=>e) λa z=>.inl<|ud z,f⟩
   |cZ=>exact h
   |nZ=>exact h
 inj:=λj k a ds h1 h2 ⟨h3,h4⟩=>by
  by_cases z:j=i
  ·subst z;cases bu h1
  ·rw[iL z] at h1 h2;by_cases z2:k=i
   ·subst z2;rcases h4 with h4 | ⟨ds,h4⟩<;>cases bu h4
   ·rw[iL z2] at h3 h4;exact r.inj j k a ds h1 h2 ⟨h3,h4⟩
def bg.dq:bg F σ H δ (σ.set i o) H (δ.set i<|.v d):=⟨λ_ _ _ e=>e,λa z=>.inl<|ud z⟩
def gN(i:Nat):DG:=λd δ Q=>Q<|δ.set i<|.v d
def BM:aU->List Nat->List Xd->aU
 |δ,i::is,d::ds=>BM (δ.set i<|.v d) is ds
 |δ,_,_=>δ
def F9(is:List Nat):DG:=λd δ Q=>match d with
 |.tuple ds=>ds.length=is.length/\Q (BM δ is ds)
 |_=>False
section
variable{X:Cx}{E:XK}
def PG.imp(h:PG X e t)(i:∀v σ H Q,t' v σ H Q->t v σ H Q):PG X e t':=λXI s σ H v u Q I r q=>h XI s σ H v u Q I r<|i v σ H Q q
def QrS(h:PG X e<|Yu i):PG X e (tG [i] X.K<|gN i):=PG.imp h λv σ H Q ⟨F,δ,d,R,rel,dv,hw,k⟩=>
 k _ hw _ (rel.dq dv) bg.dq (ZJ ..) λj hj=>iL λz=>hj (by rw[z];exact Qm.mpr rfl)
def AV:List Nat->vB
 |[]=>qD
 |i::is=>jH (Yu i)<|AV is
def VY{K:Qa}:∀(is:List Nat)(vs:List V)(ds:List Xd)(σ:L2.St)(δ:aU),ds.length=is.length->Rel K F σ H δ->aG (Av F σ δ) H vs ds ->
  (∀σ',Rel K F σ' H (BM δ is ds)->bg F σ H δ σ' H (BM δ is ds)->σ'.length=σ.length->(∀j,j∉is->σ'[j]? = σ[j]?)->Q σ' H)->AV is vs σ H Q
 |[],vs,ds,σ,δ,hl,rel,q,k=>by
  cases ds with
  |nil=>cases q;exact⟨rfl,k σ rel bg.refl rfl λ_ _=>rfl⟩
  |cons d ds=>cases hl
 |i::is,vs,ds,σ,δ,hl,rel,q,k=>by
  cases ds with
  |nil=>cases hl
  |cons d ds=>
   cases q with
   |@cons v vs _ _ q qs=>
    refine⟨v,vs,rfl,(VY is vs ds _ _ (by simpa using hl) (rel.dq q) (qs.mv (λ_ _ _ e=>e) λa z=>.inl<|ud z) λσ' r' st ow hj=>?_)⟩;refine k σ' r' (bg.dq.trans st) (by rw[ow,ZJ]) λj hn=>?_
    rw[hj j λz=>hn<|QN _ z,iL λz=>hn (by rw[z];exact Q1)]
def Qwm(h:PG X e<|qE X.K n<|AV is)(hn:is.length=n:=by rfl):PG X e (tG is X.K<|F9 is):=PG.imp h λv σ H Q ⟨F,δ,d,R,rel,dv,hw,k⟩=>by
 unfold F9 at hw;split at hw
 ·obtain⟨hl,hR⟩:=hw;cases dv with
  |@tup a xs ds na e q=>
   exact⟨a,xs,rfl,aP.of e,by rw[q.length,hl,hn],VY is xs _ σ δ hl rel q λσ' r' st ow hj=>k _ hR σ' r' st ow hj⟩
 ·exact hw.elim
def Ag(A S:Xb->Prop)(J:It)(items:List Xd)(H1:Hp):Prop:=items.length<=Xj/\∀(H2:Hp)(A':Xb->Prop),(∀b o,S b->H1 b=some o->H2 b=some o)->(∀b,A' b->A b∨H1 b=none)->(∀a,A' a->∃xs,H2 a=some (.lst xs)) ->
 (∀(i:Nat) d,items[i]? = some d->J.go i H2/\∀x H3,J.nU i H2 x H3->ag H2 H3/\DA A' H3 x d)/\J.stop items.length H2
def Sx(m:Md)(F:Fm)(σ:L2.St)(δ:aU)(b:Xb):Prop:=
 match m with
 |.P=>¬Yo σ δ b
 |_=>¬Av F σ δ b
abbrev DI:=aU->(List Xd->Prop)->XP->Prop
def tI(m:Md)(K:Qa)(E:XK)(w:DI):TI:=λσ H R=>∃(F:Fm)(δ:aU)(R':List Xd->Prop)(EX:XP),Rel K F σ H δ/\w δ R' EX/\(∀items,R' items->∀J H',Rel K F σ H' δ->Kp σ δ H H'->Ag (Av F σ δ) (Sx m F σ δ) J items H'->R J H')/\Out F E EX
def PI.imp(h:PI X tg e t)(i:∀σ H R,i4 H->t' σ H R->t σ H R):PI X tg e t':=λXI s σ H R I q=>h XI s σ H R I<|i σ H R (Inv.jQ I) q
def PI.len(h:PI X tg e t):PI X tg e (λσ H R=>t σ H λJ H1=>i4 H1->R J H1):=λXI s σ H R I q=>by
 refine ax (h XI s σ H _ I q) λv s1 h1=>ax h1 λk8 s2 h2=>?_
 obtain⟨it,fp,tn,J,H',e,I',T,t0,fo,hR⟩:=h2;exact⟨it,fp,tn,J,H',e,I',T,t0,fo,hR<|Inv.jQ I'⟩
def QEr(w:DE):DI:=λδ Q EX=>w δ (λd=>match d with
 |.list ds=>Q ds
 |_=>False) EX
def QEq(w:DE):DI:=λδ Q EX=>w δ (λd=>match d with
 |.tuple ds=>Q ds
 |_=>False) EX
def KG{S:Xb->Prop}(sA:∀b,¬A b->S b)(k:∀b o,S b->H b=some o->H2 b=some o)(m:∀b,A' b->A b∨H b=none)(q:aG A H xs ds):aG A' H2 xs ds:=q.mv (λa o n e=>k a o (sA a n) e) m
def QDo{K:Qa}(sA:∀b,¬A b->S b)(sl:S l)(e:H l=some (.lst xs))(q:aG A H xs ds)(ln:xs.length<=Xj):Ag A S (Eh K l) ds H:=by
 refine⟨by rw[<- q.length];exact ln,λH2 A' k m dm=>⟨λi d hd=>?_,xs,aA.of<|k _ _ sl e,by rw[q.length];exact Qf _⟩⟩;obtain⟨x,hx,dx⟩:=(KG sA k m q).get i d hd;refine⟨⟨xs,x,aA.of<|k _ _ sl e,hx⟩,λy H3 ⟨e3,hy⟩=>?_⟩;subst e3;have:=hy xs<|aA.of<|k _ _ sl e;rw[hx] at this;cases this;exact⟨ag.refl _,dx⟩
def QDm{K:Qa}(sA:∀b,¬A b->S b)(sl:S l)(e:H l=some (.tup xs))(q:aG A H xs ds)(ln:xs.length<=Xj):Ag A S (Eg K l) ds H:=by
 refine⟨by rw[<- q.length];exact ln,λH2 A' k m dm=>⟨λi d hd=>?_,xs,aP.of<|k _ _ sl e,by rw[q.length];exact Qf _⟩⟩;obtain⟨x,hx,dx⟩:=(KG sA k m q).get i d hd;refine⟨⟨xs,x,aP.of<|k _ _ sl e,hx⟩,λy H3 ⟨e3,hy⟩=>?_⟩;subst e3;have:=hy xs<|aP.of<|k _ _ sl e;rw[hx] at this;cases this;exact⟨ag.refl _,dx⟩
def yT(h:¬Av F σ δ b):Sx m F σ δ b:=by
 cases m
 ·exact h
 ·exact λz=>h<|gX z
 ·exact h
def Nc{m:Md}{F:Fm}{σ:L2.St}{δ:aU}{H H':Hp}{v:V}{ds:List Xd}(h:VD m (Av F σ δ) (Yo σ δ) H v<|.list ds):∃l xs,v=.ref l/\Sx m F σ δ l/\H l=some (.lst xs)/\aG (Av F σ δ) H xs ds:=by
 cases m
 ·cases h with | @lst a xs _ n e q=>exact⟨a,xs,rfl,n,e,q⟩
 ·rcases h with h | ⟨l,xs,kr,rfl,e,n,e2,q⟩
  ·cases h with | @lst a xs _ n e q=>exact⟨a,xs,rfl,yT n,e,q⟩
  ·cases e;exact⟨l,xs,rfl,n,e2,q⟩
 ·cases h with | @lst a xs _ n e q=>exact⟨a,xs,rfl,n,e,q⟩
def eX{m:Md}{F:Fm}{σ:L2.St}{δ:aU}{H H':Hp}{v:V}{ds:List Xd}(h:VD m (Av F σ δ) (Yo σ δ) H v<|.tuple ds):∃l xs,v=.ref l/\Sx m F σ δ l/\H l=some (.tup xs)/\aG (Av F σ δ) H xs ds:=by
 cases m
 ·cases h with | @tup a xs _ n e q=>exact⟨a,xs,rfl,n,e,q⟩
 ·rcases h with h | ⟨l,xs,kr,rfl,e,n,e2,q⟩
  ·cases h with | @tup a xs _ n e q=>exact⟨a,xs,rfl,yT n,e,q⟩
  ·cases e
 ·cases h with | @tup a xs _ n e q=>exact⟨a,xs,rfl,n,e,q⟩
def Ia(h:Be m F σ δ H H' v d):VD m (Av F σ δ) (Yo σ δ) H' v d:=by
 cases m
 ·exact h
 ·exact h
 ·exact h.1
variable{m:Md}{tg e e':JO}{w w':DE}{p pos cV:Pos}
def QrR(h:PE X e<|tX m X.K E w):PI X tg e (tI m X.K E<|QEr w):=by
 refine PI.imp (PI.len<|wD h) λσ H R _ ⟨F,δ,R',EX,rel,hw,k,o⟩=>?_
 refine⟨F,δ,_,EX,rel,hw,λd hd v H' ai kp vk=>?_,o⟩;cases d<;>first | exact(show False from hd).elim | skip
 obtain⟨l,xs,rfl,sl,e,q⟩:=Nc (H':=H')<|Ia vk;exact⟨l,rfl,⟨xs,aA.of e⟩,λln=>k _ hd _ H' ai kp<|QDo (λb=>yT) sl e q<|ln _ _<|.inl e⟩
def Qwl(h:PE X e<|tX m X.K E w):PI X tg e (tI m X.K E<|QEq w):=by
 refine PI.imp (PI.len<|BX h) λσ H R _ ⟨F,δ,R',EX,rel,hw,k,o⟩=>?_
 refine⟨F,δ,_,EX,rel,hw,λd hd v H' ai kp vk=>?_,o⟩;cases d<;>first | exact(show False from hd).elim | skip
 obtain⟨l,xs,rfl,sl,e,q⟩:=eX (H':=H')<|Ia vk;exact⟨l,rfl,⟨xs,aP.of e⟩,λln=>k _ hd _ H' ai kp<|QDm (λb=>yT) sl e q<|ln _ _<|.inr e⟩
def jC(lo:Int)(n:Nat):List Xd:=(QD n).map λ(i:Nat)=>.int<|lo+i
def zu{lo:Int}{n i:Nat}{d:Xd}(h:(jC lo n)[i]? = some d):i<n/\d=.int (lo+i):=by
 unfold jC at h;rw[Qt] at h;by_cases z:i<n
 ·rw[JN z] at h;exact⟨z,(QF h).symm⟩
 ·rw[Jq (by rw[QR];omega)] at h;cases h
def Ce{lo:Int}:(jC lo n).length=n:=by unfold jC;rw[Qd,QR]
def QDn{lo:Int}(hn:n<=1000000):Ag A S (uF lo n) (jC lo n) H:=by
 refine⟨by rw[Ce];exact QQ hn tE,λH2 A' k m dm=>⟨λi d hd=>?_,by rw[Ce];exact Qf _⟩⟩;obtain⟨hi,rfl⟩:=zu hd;exact⟨hi,λx H3 ⟨e1,e2⟩=>by subst e1 e2;exact⟨ag.refl _,.int _⟩⟩
def QA4(w:DE):DI:=λδ Q EX=>w δ (λd=>match d with
 |.int j=>(-1000000<=j/\j<=1000000)/\Q (jC 0 j.toNat)
 |_=>False) EX
def QrQ(hg:Gl X "range")(hm:X.mg "range" = none)(h:PE X e<|tX .P X.K E w)(hs:notStar e=true:=by rfl):PI X tg (.Call (.Name "range" p) [e] [] pos) (tI m X.K E<|QA4 w):=by
 refine PI.imp (uE hg hm (a_ h Qp hs) (by rw[nN hs];rfl)) λσ H R _ ⟨F,δ,R',EX,rel,hw,k,o⟩=>?_
 refine⟨F,δ,_,EX,rel,hw,λd hd v H' ai kp vk=>?_,o⟩;cases d<;>first | exact(hd).elim | skip
 obtain⟨⟨h1,h2⟩,hR⟩:=hd;rw[DP.int vk];exact⟨_,rfl,by omega,by omega,k _ hR _ H' ai kp<|QDn<|by omega⟩
def Qwt(dm:∀a,A' a->∃xs,H2 a=some (.lst xs))(n:H2 r=none)(q:DA A' H2 x d)(q':DA A' H2 y d'):DA A' (upd H2 r<|.tup [x,y]) (.ref r) (.tuple [d,d']):=
 .tup (λz=>by obtain⟨xs,e⟩:=dm r z;rw[n] at e;cases e) QC (.cons (q.same<|Jl n)<|.cons (q'.same<|Jl n) .nil)
def qO(ds:List Xd):List Xd:=(QD ds.length).map λ(i:Nat)=>.tuple [.int i,ds.getD i .none]
def Ks{i:Nat}(h:(qO ds)[i]? = some d):∃e,ds[i]? = some e/\d=.tuple [.int i,e]:=by
 unfold qO at h;rw[Qt] at h;by_cases z:i<ds.length
 ·rw[JN z] at h;refine⟨ds[i],Qc z,?_⟩;rw[<- QF h];show YT [.int i,ds.getD i .none]=_;rw[Qi,Qc z];rfl
 ·rw[Jq (by rw[QR];omega)] at h;cases h
def Kt:(qO ds).length=ds.length:=by unfold qO;rw[Qd,QR]
def QEt(w:DE):DI:=λδ Q EX=>w δ (λd=>match d with
 |.list ds=>Q<|qO ds
 |_=>False) EX
variable{elts:List JO}
def QnO{x1}(hg:Gl X "enumerate")(hm:X.mg "enumerate" = none)(h:PE X e<|tX m X.K E w)(hs:notStar e=true:=by rfl):PI X (.Tuple elts x1 cV) (.Call (.Name "enumerate" p) [e] [] pos) (tI m X.K E<|QEt w):=by
 refine PI.imp (PI.len<|Ur hg hm (a_ h Qp hs) (by rw[nN hs];rfl)) λσ H R _ ⟨F,δ,R',EX,rel,hw,k,o⟩=>?_
 refine⟨F,δ,_,EX,rel,hw,λd hd v H' ai kp vk=>?_,o⟩;cases d<;>first | exact(show False from hd).elim | skip
 obtain⟨l,xs,rfl,sl,e,q⟩:=Nc (H':=H')<|Ia vk;refine⟨l,xs,rfl,e,λln=>k _ hd _ H' ai kp ⟨by rw[Kt,<- q.length];exact ln _ _<|.inl e,λH2 A' kk mm dm=>⟨λi d fA=>?_,xs,kk _ _ sl e,by rw[Kt,q.length];exact Qf _⟩⟩⟩;obtain⟨d',hd2,rfl⟩:=Ks fA;obtain⟨x,hx,dx⟩:=(KG (S:=Sx m F σ δ) (λb=>yT) kk mm q).get i d' hd2;refine⟨⟨xs,x,kk _ _ sl e,hx⟩,λy H3 ⟨r,x',nr,iG,e1,e2⟩=>?_⟩;subst e1 e2;have:=iG xs<|kk _ _ sl e;rw[hx] at this;cases this;exact⟨Jl nr,Qwt dm nr (.int _) dx⟩
end
def G7:Option Sl->Sl
 |some (.v d)=>.v d
 |some (.own ds)=>.pk ds
 |some (.pk ds)=>.pk ds
 |some .cZ=>.cZ
 |_=>.no
def eO(cap:List<|Option Nat)(δ:aU):aU:=cap.map λo=>match o with
 |none=>.no
 |some j=>G7 δ[j]?
def Ko{i:Nat}(h:(dj cap σ)[i]? = some o):(cap[i]? = some none/\o=none)∨∃j,cap[i]? = some (some j)/\o=(σ[j]?).getD none:=by
 unfold dj at h;rw[Qt] at h;obtain⟨c,hc,rfl⟩:=Jk.mp h;cases c with
 |none=>exact .inl ⟨hc,rfl⟩
 |some j=>exact .inr ⟨j,hc,rfl⟩
def Kn{i:Nat}(h:(eO cap δ)[i]? = some x):(cap[i]? = some none/\x=.no)∨∃j,cap[i]? = some (some j)/\x=G7 δ[j]? := by
 unfold eO at h;rw[Qt] at h;obtain⟨c,hc,rfl⟩:=Jk.mp h;cases c with
 |none=>exact .inl ⟨hc,rfl⟩
 |some j=>exact .inr ⟨j,hc,rfl⟩
def rj{i:Nat}(h1:(dj cap σ)[i]? = some o)(h2:(eO cap δ)[i]? = some x)(hx:x≠.no):∃(j:Nat)(y:Sl),δ[j]? = some y/\x=G7 (some y)/\o=(σ[j]?).getD none:=by
 rcases Kn h2 with⟨_,e⟩ | ⟨j,hj,e⟩
 ·exact X5 e hx
 ·rcases Ko h1 with⟨z,_⟩ | ⟨j',yf,e'⟩
  ·rw[hj] at z;cases z
  ·rw[hj] at yf;cases yf;cases e2:δ[j]? with
   |none=>rw[e2] at e;exact X5 e hx
   |some y=>exact⟨j,y,e2,by rw[e,e2],e'⟩
def ug(h:Yo (dj cap σ) (eO cap δ) a):Yo σ δ a:=by
 obtain⟨i,h1,h2⟩:=h;obtain⟨j,y,hy,e,eo⟩:=rj h1 h2 nofun;cases y<;>first | (cases e;done) | skip
 refine⟨j,?_,hy⟩;cases e2:σ[j]? with
 |none=>rw[e2] at eo;cases eo
 |some o'=>rw[e2] at eo;exact X6 some eo.symm
def dr(A1:Xb->Prop)(cap:List<|Option Nat)(σ:L2.St)(δ:aU)(H:Hp):Fm:=⟨H,A1,Yo (dj cap σ)<|eO cap δ⟩
def BR(h:∀a,Yo σ δ a->A1 a):Av (dr A1 cap σ δ H) (dj cap σ) (eO cap δ) a↔A1 a:=by
 constructor
 ·rintro(z | ⟨i,h1,h2⟩)
  ·exact z
  ·rcases h2 with h2 | ⟨ds,h2⟩
   ·exact h a<|ug ⟨i,h1,h2⟩
   ·obtain⟨j,y,hy,e,eo⟩:=rj h1 h2 nofun;cases y<;>cases e
 ·exact .inl
def HC{K:Qa}(rel:Rel K F σ H1 δ)(hA:∀a,Av F σ δ a->A1 a)(hN:∀a,A1 a->Av F σ δ a∨H1 a=none)
  (dm:∀a,A1 a->∃xs,H3 a=some (.lst xs))(kp:Kp σ δ H1 H3):Rel K (dr A1 cap σ δ H3) (dj cap σ) H3 (eO cap δ) where
 len:=by unfold dj eO;rw[Qd,Qd]
 iX:=dm
 cI:=dm
 iF:=λp hp=>⟨hA p<|gX<|ug hp,kp.2 p<|ug hp⟩
 kx:=λb o _ e=>e
 sl:=λi o x h1 h2=>by
  have iv:∀{a:Xb},Av (dr A1 cap σ δ H3) (dj cap σ) (eO cap δ) a->A1 a:=λ{a}=>(BR λa z=>hA a<|gX z).mp
  have mv:∀{v:V}{d:Xd},DA (Av F σ δ) H1 v d->DA (Av (dr A1 cap σ δ H3) (dj cap σ)<|eO cap δ) H3 v d:=λq=>q.mv (λa o n e=>kp.1 a o (λz=>n<|gX z) e) λa z=>hN a<|iv z
  have NH:∀{v:List V}{d:List Xd},aG (Av F σ δ) H1 v d->aG (Av (dr A1 cap σ δ H3) (dj cap σ)<|eO cap δ) H3 v d:=λq=>q.mv (λa o n e=>kp.1 a o (λz=>n<|gX z) e) λa z=>hN a<|iv z
  cases x with
  |no=>trivial
  |own ds=>
   obtain⟨j,y,hy,e,eo⟩:=rj h1 h2 nofun;cases y<;>cases e
  |nZ=>
   obtain⟨j,y,hy,e,eo⟩:=rj h1 h2 nofun;cases y<;>cases e
  |v d=>
   obtain⟨j,y,hy,e,eo⟩:=rj h1 h2 nofun;cases y<;>first | (cases e;done) | skip
   cases e;obtain⟨x,hx⟩:=rel.lt hy;obtain⟨v,rfl,q⟩:=rel.sl j _ _ hx hy;rw[hx] at eo;exact⟨v,eo,mv q⟩
  |pk ds=>
   obtain⟨j,y,hy,e,eo⟩:=rj h1 h2 nofun;cases y<;>first | (cases e;done) | skip
   ·cases e;obtain⟨x,hx⟩:=rel.lt hy;obtain⟨l,xs,rfl,e,q,f⟩:=rel.sl j _ _ hx hy;rw[hx] at eo;have np:=rel.bo hy hx;exact⟨l,xs,eo,kp.1 _ _ np e,NH q,xs,kp.1 _ _ np e,λz=>np<|ug z⟩
   ·cases e;obtain⟨x,hx⟩:=rel.lt hy;obtain⟨l,xs,rfl,e,q,ys,f,f2⟩:=rel.sl j _ _ hx hy;rw[hx] at eo;have np:¬Yo σ δ l:=by
     rintro⟨j,j1,j2⟩;obtain⟨p,m,e1,_,w⟩:=rel.sl j _ _ j1 j2;cases e1;rcases w with w | w
     ·exact f2 w
     ·rw[w] at f;cases f
    exact⟨l,xs,eo,kp.1 _ _ np e,NH q,xs,kp.1 _ _ np e,λz=>np<|ug z⟩
  |cZ=>
   obtain⟨j,y,hy,e,eo⟩:=rj h1 h2 nofun;cases y<;>first | (cases e;done) | skip
   obtain⟨x,hx⟩:=rel.lt hy;obtain⟨p,n,rfl,e,q⟩:=rel.sl j _ _ hx hy;rw[hx] at eo;obtain⟨m,em⟩:=kp.2 p ⟨j,hx,hy⟩;have eo':=eo;subst eo';exact⟨p,m,rfl,em,.inl ⟨i,h1,h2⟩⟩
 inj:=λi j a ds h1 h2 _=>by
  obtain⟨j,y,hy,e,eo⟩:=rj h2 h1 nofun;cases y<;>cases e
def BE:∀{σ σ':L2.St},σ'.length=σ.length->(∀(i:Nat) v,σ[i]? = some (some v)->σ'[i]? = some (some v))->Wk σ σ'
 |[],[],_,_=>trivial
 |[],_::_,h,_=>by cases h
 |_::_,[],h,_=>by cases h
 |none::a,x::b,h,g=>BE (σ':=b) (by simpa using h) λi v e=>by simpa using g (i+1) v (by simpa using e)
 |some u::a,x::b,h,g=>by
  have h0:=g 0 u rfl;simp only[List.getElem?_cons_zero,Option.some.injEq] at h0;subst h0;exact⟨rfl,BE (by simpa using h) λi v e=>by simpa using g (i+1) v (by simpa using e)⟩
def i8(cap:List<|Option Nat)(ix:List Nat):Bool:=ix.all λi=>match cap[i]? with
 |some none=>true
 |_=>false
def Rg(hf:i8 cap ix=true)(hl:σ4.length=(dj cap σ).length)(hj:∀j,j∉ix->σ4[j]? = (dj cap σ)[j]?):Wk (dj cap σ) σ4:=by
 refine BE hl λi v e=>?_
 by_cases z:i∈ix
 ·have:=JZ.mp hf i z;rcases Ko e with⟨_,e2⟩ | ⟨j,vq,_⟩
  ·cases e2
  ·rw[vq] at this;cases this
 ·rw[hj i z];exact e
def XF:XP:=λ_=>False
@[irreducible] def oZ(items:List Xd)(wg:DG)(wt:DT)(we:DE)(δ:aU)(Q:Xd->Prop):Prop:=∃Iv:Nat->List Xd->Prop,Iv 0 [] /\
 (∀(i:Nat) acc d,items[i]? = some d->Iv i acc->wg d δ λδ4=>wt δ4 (λb=>if b=true then we δ4 (λe=>Iv (i+1)<|acc++[e]) XF else Iv (i+1) acc) XF)/\∀acc,Iv items.length acc->Q (.list acc)
def jx(cap:List<|Option Nat)(wi:DI)(wg:DG)(wt:DT)(we:DE):DE:=λδ Q EX=>wi δ (λitems=>oZ items wg wt we (eO cap δ) Q) EX
def DN:DT:=λ_ Q _=>Q true
section
variable{X:Cx}{E:XK}
def tu:Out F E XF:=λ_ z=>z.elim
def iu.imp(h:iu X es t)(i:∀σ H Q,t' σ H Q->t σ H Q):iu X es t':=λXI s σ H Q I q=>h XI s σ H Q I<|i σ H Q q
def QrG:iu X [] (tT X.K E DN):=iu.imp j8 λσ H Q ⟨F,δ,R,EX,rel,hw,k,o⟩=>k _ hw H rel<|Kp.refl rel
def QrF(h:PT X c<|tT X.K E t):iu X [c] (tT X.K E t):=IF h
def IX{K:Qa}(r:Rel K (dr A1 cap σ δ H3) σ4 H4 δ4)(hk:∀b o,¬Yo σ δ b->H4 b=some o->H3 b=none->False)(h:Yo σ4 δ4 b):Yo σ δ b:=by
 obtain⟨i,h1,h2⟩:=h;obtain⟨p,n,e,hp,w⟩:=r.sl i _ _ h1 h2;cases e;rcases w with w | w
 ·exact ug w
 ·by_cases z:Yo σ δ b
  ·exact z
  ·exact(hk b _ z hp w).elim
def UY{K:Qa}{T:aU->Prop} 
  (hf:i8 cap ix=true)(rel:Rel K F σ H1 δ)(hA:∀a,Av F σ δ a->A1 a)(hN:∀a,A1 a->Av F σ δ a∨H1 a=none)(dm:∀a,A1 a->∃xs,H3 a=some (.lst xs))(kp:Kp σ δ H1 H3)(dx:DA A1 H3 x d)
  (h:wg d (eO cap δ) λδ4=>wt δ4 (λb=>if b=true then T δ4 else N) XF)
  (hT:∀σ4 δ4 H5,T δ4->Rel K (dr A1 cap σ δ H3) σ4 H5 δ4->Kp σ δ H3 H5->(∀b,Yo σ4 δ4 b->Yo σ δ b)->inner σ4 H5 kk)(hF:N->∀H5,Kp σ δ H3 H5->kk H5) :
  ku (dj cap σ) (tG ix K wg) (tT K E0 wt) inner x H3 kk:=by
 have ri:=HC (cap:=cap) rel hA hN dm kp;have iv:∀{a:Xb},Av (dr A1 cap σ δ H3) (dj cap σ) (eO cap δ) a->A1 a:=λ{a}=>(BR λa z=>hA a<|gX z).mp
 refine⟨dr A1 cap σ δ H3,eO cap δ,d,_,ri,dx.mv (λ_ _ _ e=>e) λa z=>.inl<|iv z,h,λδ4 h4 σ4 r4 iP l4 j4=>⟨Rg hf l4 j4,dr A1 cap σ δ H3,δ4,_,XF,r4,h4,λb hb H5 r5 sg=>?_,tu⟩⟩;have cB:∀{b:Xb},Yo σ4 δ4 b->Yo σ δ b:=λz=>IX r4 (λb o _ e1 e2=>by rw[e2] at e1;cases e1) z
 have K5:Kp σ δ H3 H5:=by
  refine⟨λb o n e=>sg.1 b o (λz=>n<|cB z) e,λb hb=>?_⟩;by_cases z:Yo σ4 δ4 b
  ·exact sg.2 b z
  ·obtain⟨n,e⟩:=kp.2 b hb;exact⟨n,sg.1 _ _ z e⟩
 exact nG hb (λz=>hT σ4 δ4 H5 z r5 K5 λb=>cB) λz=>hF z H5 K5
structure Lp (σ:L2.St) (δ:aU) (A1:Xb->Prop) (p:Xb) (H1 H2:Hp) (acc:List Xd):Prop where
 kp:Kp σ δ H1 H2
 at_:∃ys,H2 p=some (.lst ys)/\aG A1 H2 ys acc
def Lp.step(xZ:∀a,Yo σ δ a->A1 a)(dH:¬Yo σ δ p)(h:Lp σ δ A1 p H1 H2 acc)(k:Kp σ δ H2 H3):Lp σ δ A1 p H1 H3 acc:=by
 obtain⟨ys,e,q⟩:=h.at_;exact⟨h.kp.trans k,ys,k.1 _ _ dH e,q.mv (λa o n e=>k.1 a o (λz=>n<|xZ a z) e) λa z=>.inl z⟩
def Ry{K:Qa} 
  (xZ:A1 p)(hP:∀a,Yo σ δ a->A1 a)(FH:H1 p=none)(dH:¬Yo σ δ p)(lp:Lp σ δ A1 p H1 H5 acc)(hl:acc.length<Xj)(r5:Rel K (dr A1 cap σ δ H3) σ4 H5 δ4)(cB:∀b,Yo σ4 δ4 b->Yo σ δ b)
  (h:we δ4 G XF)(hk:∀e,G e->∀H',Lp σ δ A1 p H1 H' (acc++[e])->kk H'):oR p (tX .D K E0 we) σ4 H5 kk:=by
 refine⟨dr A1 cap σ δ H3,δ4,G,XF,r5,h,λe he v H6 r6 p9 dv=>?_,tu⟩;have Fw:Kp σ δ H5 H6:=by
  refine⟨λb o n e=>p9.1 b o (λz=>n<|cB b z) e,λb hb=>?_⟩;by_cases z:Yo σ4 δ4 b
  ·exact p9.2 b z
  ·obtain⟨n,e⟩:=lp.kp.2 b hb;exact⟨n,p9.1 _ _ z e⟩
 obtain⟨k6,ys,e6,q6⟩:=lp.step hP dH Fw;have up:∀{b:Xb}{o:HO},¬A1 b->H6 b=some o->upd H6 p (.lst<|ys++[v]) b=some o:=λ{b o} n e=>by rw[QH λz=>n (by rw[z];exact xZ)];exact e
 refine⟨ys,e6,by rw[q6.length];exact hl,hk e he _ ⟨⟨λb o n e=>?_,λb hb=>?_⟩,ys++[v],QC,aG.app (q6.mv (λ_ _=>up) λa z=>.inl z)<|.cons (DA.mv dv (λa o n e=>up (λz=>n<|.inl z) e) λa z=>.inl<|.inl z) .nil⟩⟩
 ·rw[QH (λz=>by rw[z,FH] at e;cases e)];exact k6.1 b o n e
 ·rw[QH λz=>dH (by rw[<- z];exact hb)];exact k6.2 b hb
def Qwq(hc:X.calm=true)(ok:ny X.N X.env.scope M scope cap=true)(hf:i8 cap ix=true)
  (hi:PI X tg iter<|tI .P X.K E wi)(hb:∀cl ex s3 H3 C,PG (bG X M scope cl ex s3 H3 C) tg (tG ix X.K wg)/\iu (bG X M scope cl ex s3 H3 C) ifs (tT X.K E0 wt)/\PE (bG X M scope cl ex s3 H3 C) elt (tX .D X.K E0 we))
  (hs:∀x,Xo iter X.env x=pure x:=by intro _;rfl):PE X (.ListComp elt [⟨tg,iter,ifs,0⟩] scope pos) (tX .F X.K E<|jx cap wi wg wt we):=by
 refine PE.imp (YC hc ok hi hb hs) λσ H Q ⟨F,δ,R,EX,rel,hw,k,o⟩=>⟨F,δ,_,EX,rel,hw,λitems hC J H1 aC bO ⟨ln,it⟩ p hp=>?_,o⟩
 unfold oZ at hC;obtain⟨Iv,i0,step,fin⟩:=hC;have dH:¬Yo σ δ p:=λz=>by obtain⟨xs,e⟩:=aC.fc<|gX z;rw[hp] at e;cases e
 let A1:Xb->Prop:=λa=>Av F σ δ a∨a=p
 have hP:∀a,Yo σ δ a->A1 a:=λa z=>.inl<|gX z
 have hN:∀a,A1 a->Av F σ δ a∨H1 a=none:=λa z=>z.elim .inl λz=>.inr (by rw[z];exact hp)
 have ju:∀{H2:Hp},Kp σ δ H1 H2->(∃ys,H2 p=some (.lst ys))->∀a,A1 a->∃xs,H2 a=some (.lst xs):=λ{H2} k2 e2 a z=>by
  rcases z with z | z
  ·exact(aC.kp k2).fc z
  ·rw[z];exact e2
 refine q_ items.length (λi H2=>i<=items.length/\∃acc,Iv i acc/\acc.length<=i/\Lp σ δ A1 p H1 H2 acc) ⟨Q6 _,[],i0,Qf _,Kp.same aC<|Jl hp,[],QC,.nil⟩ (λi H2 hi ⟨_,acc,iv,hl,lp⟩=>?_) λH2 ⟨_,acc,iv,hl,lp⟩=>?_
 ·obtain⟨k2,ys,e2,q2⟩:=lp;obtain⟨go,_⟩:=it H2 A1 (λb o n e=>k2.1 b o n e) hN<|ju k2 ⟨ys,e2⟩;have hd:=Qc hi;obtain⟨g1,g2⟩:=go i _ hd;refine⟨g1,λx H3 y kk hk=>?_⟩;obtain⟨s3,dx⟩:=g2 x H3 y;have xT:=Kp.same (aC.kp k2) s3;have jn:=Lp.step hP dH ⟨k2,ys,e2,q2⟩ xT;refine UY hf aC (λa z=>.inl z) hN (ju jn.kp ⟨ys,s3 _ _ e2⟩) jn.kp dx (step i acc _ hd iv) (λσ4 δ4 H5 h5 r5 k5 cB=>?_) λh5 H5 k5=>hk _ ⟨hi,acc,h5,by omega,jn.step hP dH k5⟩
  exact Ry (.inr rfl) hP hp dH (jn.step hP dH k5) (by omega) r5 cB h5 λe he H' xQ=>hk _ ⟨hi,acc++[e],he,by rw[Qg];show _+1<=_;omega,xQ⟩
 ·obtain⟨k2,ys,e2,q2⟩:=lp;obtain⟨_,st⟩:=it H2 A1 (λb o n e=>k2.1 b o n e) hN<|ju k2 ⟨ys,e2⟩;refine⟨st,k _ (fin acc iv) (.ref p) H2 (aC.kp k2) (bO.trans k2) ⟨.lst (λz=>?_) e2<|q2.mv (λ_ _ _ e=>e) λa z=>.inl<|.inl z,λl e1 _=>?_⟩⟩
  ·obtain⟨xs,e⟩:=aC.fc z;rw[hp] at e;cases e
  ·cases e1;exact uj bO hp
def vL{items:List Xd}{wg:DG}{wt:DT}{we:DE}{δ:aU}{Q:Xd->Prop}(G:Xd->Option Xd)
  (h:∀d∈items,∀(k1:Prop)(k2:Xd->Prop),(G d=none->k1)->(∀e,G d=some e->k2 e)->wg d δ λδ4=>wt δ4 (λb=>if b=true then we δ4 k2 XF else k1) XF)(q:Q<|.list<|items.filterMap G) :
  oZ items wg wt we δ Q:=by
 unfold oZ;refine⟨λi acc=>acc=(items.take i).filterMap G,by simp,λi acc d hd e=>?_,λacc e=>by rw[e,YX];exact q⟩;have hs:(items.take<|i+1).filterMap G=(items.take i).filterMap G++(G d).toList:=by
  rw[z8,hd];cases e2:G d<;>simp[e2]
 have e:=e;refine h d (Je hd) _ _ (λe2=>?_) λe' e2=>?_
 ·show acc=(items.take<|i+1).filterMap G;rw[hs,e2,e];simp
 ·show acc++[e']=(items.take<|i+1).filterMap G;rw[hs,e2,e];rfl
def vM{items:List Xd}{wg:DG}{we:DE}{δ:aU}{Q:Xd->Prop}(G:Xd->Xd)
  (h:∀d∈items,∀(k2:Xd->Prop),k2 (G d)->wg d δ λδ4=>we δ4 k2 XF)(q:Q<|.list<|items.map G) :
  oZ items wg DN we δ Q:=by
 unfold oZ;refine⟨λi acc=>acc=(items.take i).map G,by simp,λi acc d hd e=>?_,λacc e=>by rw[e,YX];exact q⟩;have hs:(items.take<|i+1).map G=(items.take i).map G++[G d]:=by
  rw[z8,hd];simp
 have e:=e;have hh:=h d (Je hd) (λe=>acc++[e]=(items.take<|i+1).map G) (by rw[hs,e]);exact hh
end
def TZ:∀{a b:List (Int×Int)},AZ a=AZ b->a=b
 |[],[],_=>rfl
 |[],_::_,h=>by cases h
 |_::_,[],h=>by cases h
 |p::a,q::b,h=>by
  have h:=zX (h);have h1:=ZG h.1;rw[TZ h.2,v9 (O1 h1.1)<|V.int.inj h1.2]
def QxL(d d':Xd)(x:V)(q:DA A H x d)(h:DA B H x d'):d=d':=by
 refine DA.rec (motive_1:=λx d _=>∀d',DA B H x d'->d=d') (motive_2:=λxs ds _=>∀es,aG B H xs es->ds=es) ?_ ?_ ?_ ?_ ?_ ?_ ?_ ?_ ?_ q d' h
 ·intro d' h;cases h;rfl
 ·intro _ d' h;cases h;rfl
 ·intro _ d' h;cases h;rfl
 ·intro _ _ d' h;cases h;rfl
 ·intro a xs ds n e _ ih d' h;cases h with
  |tup n' e' q'=>rw[e] at e';cases e';rw[ih _ q']
  |lst n' e' q'=>rw[e] at e';cases e'
  |jw n' e' q'=>rw[e] at e';cases e'
 ·intro a xs ds n e _ ih d' h;cases h with
  |tup n' e' q'=>rw[e] at e';cases e'
  |lst n' e' q'=>rw[e] at e';cases e';rw[ih _ q']
  |jw n' e' q'=>rw[e] at e';cases e'
 ·intro a kvs ds n e q d' h;cases h with
  |tup n' e' q'=>rw[e] at e';cases e'
  |lst n' e' q'=>rw[e] at e';cases e'
  |jw n' e' q'=>rw[e] at e';rw[q,q',TZ<|HO.dK.inj<|QF e']
 ·intro es h;cases h;rfl
 ·intro x xs d ds _ _ ih ihs es h;cases h with | cons q' qs'=>rw[ih _ q',ihs _ qs']
def QxK(root:DA A H (.ref l)<|.list rs)(ds:List Xd)(xs:List V)(h:sizeOf ds<sizeOf (Yr rs))(q:aG A H xs ds):aG (λa=>A a∨a=l) H xs ds:=by
 have nl:∀{a:Xb}{o:HO},¬A a->H a=some o->(∀xs,o≠.lst xs)->¬(A a∨a=l):=λn e no z=>z.elim n λz=>by
  subst z;cases root with | lst n' e' q'=>rw[e] at e';cases e';exact no _ rfl
 refine aG.rec (motive_1:=λx d _=>sizeOf d<sizeOf (Yr rs)->DA (λa=>A a∨a=l) H x d) (motive_2:=λxs ds _=>sizeOf ds<sizeOf (Yr rs)->aG (λa=>A a∨a=l) H xs ds) (λ_=>.aL) (λb _=>.bl b) (λi _=>.int i) (λz c _=>.str z c) (λn e _ q hs=>.tup (nl n e nofun) e<|q (by simp at hs ⊢;omega)) (λn e p q hs=>.lst (λz=>z.elim n λz=>?_) e<|q (by simp at hs ⊢;omega)) (λn e q _=>.jw (nl n e nofun) e q) (λ_=>.nil) (λ_ _ q qs hs=>.cons (q (by simp at hs ⊢;omega))<|qs (by simp at hs ⊢;omega)) q h;subst z;have:=QxL _ _ _ root<|.lst n e p;rw[this] at hs;omega
def DA.items(root:DA A H (.ref l)<|.list ds):∃xs,H l=some (.lst xs)/\aG (λa=>A a∨a=l) H xs ds:=by
 have xx:=root;cases root with
 |@lst _ xs _ n e q=>exact⟨xs,e,QxK xx ds xs (by simp) q⟩
structure qS where
 nx:aU->Prop
 rt:Xd->Prop
 kU:Xd->Prop
 bk:aU->Prop
 ct:aU->Prop
 ex:XP
abbrev DS:=qS->aU->Prop
structure Nx (K:Qa) (F:Fm) (σ:L2.St) (H:Hp) (δ:aU) (R:aU->Prop) (T:L2.St->Hp->Prop):Prop where
 go:∀δ',R δ'->∀σ' H',Rel K F σ' H' δ'->bg F σ H δ σ' H' δ'->T σ' H'
structure iA (K:Qa) (E:XK) (F:Fm) (σ:L2.St) (H:Hp) (δ:aU) (DD:qS) (D:Ends):Prop where
 nx:Nx K F σ H δ DD.nx D.nx
 rt:∀d,DD.rt d->∀v H',Ke F H'->DA F.A0 H' v d->D.rt v H'
 kU:∀d,DD.kU d->∀v H',Ke F H'->DA F.A0 H' v d->kd F.H0 H' v->D.rt v H'
 bk:Nx K F σ H δ DD.bk D.bk
 ct:Nx K F σ H δ DD.ct D.ct
 ex:Out F E DD.ex
def tS(K:Qa)(E:XK)(w:DS):TS:=λD σ H=>∃(F:Fm)(δ:aU)(DD:qS),Rel K F σ H δ/\w DD δ/\iA K E F σ H δ DD D
def Nx.step{K:Qa}(h:Nx K F σ H δ R T)(s:bg F σ H δ σ1 H1 δ1):Nx K F σ1 H1 δ1 R T:=⟨λδ' hR σ' H' r st=>h.go δ' hR σ' H' r<|s.trans st⟩
def iA.step{K:Qa}(h:iA K E F σ H δ DD D)(s:bg F σ H δ σ1 H1 δ1):iA K E F σ1 H1 δ1 DD D:=⟨h.nx.step s,h.rt,h.kU,h.bk.step s,h.ct.step s,h.ex⟩
section
variable{X:Cx}{E:XK}
def PS.imp(h:PS X e t)(i:∀D σ H,t' D σ H->t D σ H):PS X e t':=λXI s σ H D I q=>h XI s σ H D I<|i D σ H q
def aV.imp(h:aV X e t)(i:∀D σ H,t' D σ H->t D σ H):aV X e t':=λXI s σ H D I q=>h XI s σ H D I<|i D σ H q
def oU(a b:DS):DS:=λD δ=>a { D with nx:=b D } δ
def qM:DS:=λD δ=>D.nx δ
def QrH:aV X [] (tS X.K E qM):=aV.imp Zu λD σ H ⟨F,δ,DD,rel,hw,en⟩=>en.nx.go δ hw σ H rel bg.refl
def Qwe{st:Ze}(h:PS X st<|tS X.K E w):aV X [st] (tS X.K E w):=QP h
def QrM{st:Ze}{rest:List Ze}(h:PS X st<|tS X.K E w)(h':aV X rest<|tS X.K E w'):aV X (st::rest) (tS X.K E<|oU w w'):=by
 exact aV.imp (Qu h h') λD σ H ⟨F,δ,DD,rel,hw,en⟩=>⟨F,δ,_,rel,hw,⟨λδ' h' σ' H' r st=>⟨F,δ',DD,r,h',en.step st⟩⟩,en.rt,en.kU,en.bk,en.ct,en.ex⟩
def DQ(i:Nat)(we:DE):DS:=λD δ=>we δ (λd=>D.nx<|δ.set i<|.v d) D.ex
def Bm(i:Nat)(we:DE):DS:=λD δ=>we δ (λd=>match d with
 |.list ds=>D.nx<|δ.set i<|.own ds
 |_=>False) D.ex
variable{i:Nat}{e:JO}{st:Ze}{we wi:DE}
def IA(h:PS X st<|nq (tX .D X.K E we)<|Yu i):PS X st (tS X.K E<|DQ i we):=by
 refine PS.imp h λD σ H ⟨F,δ,DD,rel,hw,en⟩=>⟨F,δ,_,DD.ex,rel,hw,λd hd v H' ai kp vk=>?_,en.ex⟩
 exact en.nx.go _ hd _ H' (ai.dq vk)<|(bg.kp kp).trans bg.dq
def Ra(h:Av F (σ.set i<|some<|.ref l) (δ.set i x) a):Av F σ δ a∨a=l:=by
 rcases h with h | ⟨j,h1,h2⟩
 ·exact .inl<|.inl h
 ·by_cases z:j=i
  ·subst z;cases bu h1;exact .inr rfl
  ·rw[iL z] at h1 h2;exact .inl<|.inr ⟨j,h1,h2⟩
def Rel.Ez{K:Qa}(r:Rel K F σ H δ)(r':Rel K F σ H' δ)(kp:Kp σ δ H H')(n:H l=none)(hx:∀A:Xb->Prop,(∀a,A a->Av F σ δ a∨H a=none)->(∀a,A a->Av F σ δ a∨a=l)->QEw K F H' A (some<|.ref l) x) :
  Rel K F (σ.set i<|some<|.ref l) H' (δ.set i x)/\bg F σ H δ (σ.set i<|some<|.ref l) H' (δ.set i x):=by
 have nA:∀a,Av F (σ.set i<|some<|.ref l) (δ.set i x) a->Av F σ δ a∨H a=none:=λa z=>(Ra z).elim .inl λz=>.inr (by rw[z];exact n)
 have kk:∀a o,¬Av F σ δ a->H a=some o->H' a=some o:=λa o m e=>kp.1 a o (λz=>m<|gX z) e
 refine⟨?_,⟨kk,nA⟩⟩;exact{
  len:=by rw[ZJ,ZJ];exact r.len
  iX:=r'.iX
  cI:=r'.cI
  iF:=r'.iF
  kx:=r'.kx
  sl:=λj o y h1 h2=>by
   by_cases z:j=i
   ·subst z;cases bu h1;cases bu h2;exact hx _ nA λa z=>Ra z
   ·rw[iL z] at h1 h2;have h:=r.sl j o y h1 h2;have h':=r'.sl j o y h1 h2;cases y with
    |no=>trivial
    |v d=>obtain⟨v',e,q'⟩:=h;exact⟨v',e,q'.mv kk nA⟩
    |own ds=>obtain⟨l',xs,rfl,e2,q',f⟩:=h;exact⟨l',xs,rfl,kp.1 _ _ (r.bo h2 h1) e2,q'.mv kk nA,f⟩
    |pk ds=>
     obtain⟨l',xs,rfl,e2,q',ys,f,f2⟩:=h;refine⟨l',xs,rfl,kp.1 _ _ ?_ e2,q'.mv kk nA,ys,f,f2⟩;rintro⟨j,j1,j2⟩;obtain⟨p,m,e1,_,w⟩:=r.sl j _ _ j1 j2;cases e1;rcases w with w | w
     ·exact f2 w
     ·rw[w] at f;cases f
    |cZ=>exact h'
    |nZ=>exact h'
  inj:=λj k a ds h1 h2 ⟨h3,h4⟩=>by
   have ne:∀(k:Nat),k≠i->σ[k]? = some (some<|.ref l)->(δ[k]? = some .cZ∨∃ds,δ[k]? = some (.own ds))->False:=λk _ h3 h4=>by
    obtain⟨xs,e⟩:=r.fc<|.inr ⟨k,h3,h4⟩;rw[n] at e;cases e
   by_cases z:j=i
   ·subst z;cases bu h2;by_cases z2:k=j
    ·exact z2.symm
    ·rw[iL z2] at h3 h4;exact(ne k z2 h3 h4).elim
   ·rw[iL z] at h1 h2;by_cases z2:k=i
    ·subst z2;cases bu h3;exact(ne j z h2<|.inr ⟨ds,h1⟩).elim
    ·rw[iL z2] at h3 h4;exact r.inj j k a ds h1 h2 ⟨h3,h4⟩ }
def RD{K:Qa}(r:Rel K F σ H δ)(n:H l=none):F.H0 l=none:=by
 cases e:F.H0 l with
 |none=>rfl
 |some o=>
  by_cases z:F.pt l
  ·obtain⟨_,m,e'⟩:=r.iF l z;rw[n] at e';cases e'
  ·rw[r.kx l o z e] at n;cases n
def QrI(h:PS X st<|nq (tX .F X.K E we)<|Yu i):PS X st (tS X.K E<|Bm i we):=by
 refine PS.imp h λD σ H ⟨F,δ,DD,rel,hw,en⟩=>⟨F,δ,_,DD.ex,rel,hw,λd hd v H' ai kp ⟨vk,fr⟩=>?_,en.ex⟩
 obtain⟨ds,rfl⟩:∃ds,d=.list ds:=by cases d<;>first | exact⟨_,rfl⟩ | exact(hd).elim
 obtain⟨l,rfl⟩:∃l,v=.ref l:=by cases vk;exact⟨_,rfl⟩
 obtain⟨xs,e,q⟩:=DA.items vk;have n:=fr l rfl ⟨xs,e⟩;obtain⟨r2,st⟩:=rel.Ez (x:=.own ds) ai kp n λA hA hB=>⟨l,xs,rfl,e,q.mv (λ_ _ _ e=>e) λa z=>.inl<|hB a z,RD rel n⟩
 exact en.nx.go _ hd _ H' r2 st
def QEu(we:DE)(wg:DG):DS:=λD δ=>we δ (λd=>wg d δ D.nx) D.ex
def Qwj(h:PS X st<|nq (tX .D X.K E we)<|tG ix X.K wg):PS X st (tS X.K E<|QEu we wg):=by
 refine PS.imp h λD σ H ⟨F,δ,DD,rel,hw,en⟩=>⟨F,δ,_,DD.ex,rel,hw,λd hd v H' ai kp vk=>?_,en.ex⟩
 exact⟨F,δ,d,_,ai,vk,hd,λδ' h' σ' r' bH _ _=>en.nx.go _ h' _ H' r'<|(bg.kp kp).trans bH⟩
def QEn(i j:Nat)(wa:kf):DS:=λD δ=>wa δ (λds=>match ds with
 |[a,b]=>D.nx<|(δ.set i<|.v a).set j<|.v b
 |_=>False) D.ex
def Qwd(h:PS X st<|QD1 i j<|jj n .D X.K E wa):PS X st (tS X.K E<|QEn i j wa):=by
 refine PS.imp h λD σ H ⟨F,δ,DD,rel,hw,en⟩=>⟨F,δ,_,DD.ex,rel,hw,λds bC _ vs H' ai kp q=>?_,en.ex⟩
 split at bC
 ·cases q with
  |cons q1 q2=>cases q2 with
   |cons q2 q3=>
    cases q3;refine⟨_,_,rfl,en.nx.go _ bC _ H' ((ai.dq q1).dq<|DA.mv q2 (λ_ _ _ e=>e) λa z=>.inl<|ud z)<|((bg.kp kp).trans bg.dq).trans bg.dq⟩
 ·exact bC.elim
def QEm(we:DE):DS:=λD δ=>we δ D.rt D.ex
def G1(we:DE):DS:=λD δ=>we δ D.kU D.ex
def Bp(h:DA (Av F σ δ) H v d):DA F.A0 H v d:=h.mv (λ_ _ _ e=>e) λa z=>.inl<|.inl z
def Qwa(h:PE X e<|tX .D X.K E we):PS X (.Return (some e) pos) (tS X.K E<|QEm we):=by
 exact PS.imp (JV h) λD σ H ⟨F,δ,DD,rel,hw,en⟩=>⟨F,δ,_,DD.ex,rel,hw,λd hd v H' ai kp vk=>en.rt d hd v H' ai.ke<|Bp vk,en.ex⟩
def QrK(h:PE X e<|tX .F X.K E we):PS X (.Return (some e) pos) (tS X.K E<|G1 we):=by
 exact PS.imp (JV h) λD σ H ⟨F,δ,DD,rel,hw,en⟩=>⟨F,δ,_,DD.ex,rel,hw,λd hd v H' ai kp vk=>en.kU d hd v H' ai.ke (Bp vk.1) λl e1 e2=>RD rel<|vk.2 l e1 e2,en.ex⟩
def G2(i:Nat):DS:=λD δ=>match δ[i]? with
 |some (.own ds)=>D.kU<|.list ds
 |some (.v d)=>D.rt d
 |_=>False
def QrJ(h:PE X e<|bV i):PS X (.Return (some e) pos) (tS X.K E<|G2 i):=by
 refine PS.imp (JV h) λD σ H ⟨F,δ,DD,rel,hw,en⟩=>?_
 unfold G2 at hw;split at hw
 ·rename_i ds hd
  obtain⟨x,hx⟩:=rel.lt hd;obtain⟨l,xs,rfl,e,q,f⟩:=rel.sl i _ _ hx hd;refine⟨_,hx,en.kU _ hw _ H rel.ke (.lst (λz=>?_) e<|q.mv (λ_ _ _ e=>e) λa z=>.inl<|.inl z) λl' e1 _=>by cases e1;exact f⟩;obtain⟨ys,e'⟩:=rel.cI l z;rw[f] at e';cases e'
 ·rename_i d hd
  obtain⟨x,hx⟩:=rel.lt hd;obtain⟨v,rfl,q⟩:=rel.sl i _ _ hx hd;exact⟨v,hx,en.rt _ hw _ H rel.ke<|Bp q⟩
 ·exact hw.elim
def qB(t:DT)(a b:DS):DS:=λD δ=>t δ (λc=>if c=true then a D δ else b D δ) D.ex
def QzG(hc:PT X c<|tT X.K E t)(ha:aV X a<|tS X.K E w)(hb:aV X b<|tS X.K E w'):PS X (.If c a b pos) (tS X.K E<|qB t w w'):=by
 exact PS.imp (d_ hc ha hb) λD σ H ⟨F,δ,DD,rel,hw,en⟩=>⟨F,δ,_,DD.ex,rel,hw,λb hb H' ai kp=>nG hb (λz=>⟨F,δ,DD,ai,z,en.step<|bg.kp kp⟩) λz=>⟨F,δ,DD,ai,z,en.step<|bg.kp kp⟩,en.ex⟩
def QnN:aV X xj (tS X.K E λ_ _=>False):=λXI s σ H D I ⟨F,δ,DD,rel,hw,en⟩=>hw.elim
def Mx(i:Nat)(rD:Xd->Xd->(Xd->Prop)->Prop)(we:DE):DS:=λD δ=>match δ[i]? with
 |some (.v d)=>we δ (λe=>rD d e λz=>D.nx<|δ.set i<|.v z) D.ex
 |_=>False
def Qwi(hd:oQ r rD)(h:PS X st<|QD2 i (tX .P X.K E we) λx y H Q=>i4 H->r x y H Q):PS X st (tS X.K E<|Mx i rD we):=by
 refine PS.imp h λD σ H ⟨F,δ,DD,rel,hw,en⟩=>?_
 unfold Mx at hw;split at hw
 ·rename_i d fA
  obtain⟨x,hx⟩:=rel.lt fA;obtain⟨v,rfl,q⟩:=rel.sl i _ _ hx fA;refine⟨v,hx,F,δ,_,DD.ex,rel,hw,λe he y H' ai kp yk ln=>(hd (Av F σ δ) (Yo σ δ) H' v y d e _ _ ln (λa ha=>ai.fc ha) (.inl<|kp.da q) yk he λz hz u H2 s du=>?_),en.ex⟩;exact en.nx.go _ hz _ H2 ((ai.same s).dq du)<|((bg.kp kp).trans<|bg.kp<|Kp.same ai s).trans bg.dq
 ·exact hw.elim
def Ir:oQ (Fx g) (si λi j=>.int<|g i j):=λA P H x y d1 d2 R Q ln dm hx hy h k=>by
 cases d1<;>cases d2<;>first | exact h.elim | skip
 rw[hx.int,hy.int];exact⟨_,_,rfl,rfl,k _ h _ H (ag.refl H)<|.int _⟩
def ma.len(h:ma X op t):ma X op (λx y H Q=>i4 H->t x y H Q):=λXI s σ H x y v u Q I rx ry q=>h XI s σ H x y v u Q I rx ry<|q<|Inv.jQ I
def Rel.mut{K:Qa}(r:Rel K F σ H δ)(h:δ[i]? = some (.own ds))(hx:σ[i]? = some (some<|.ref l))(q:aG (Av F σ δ) H ys kr) :
  Rel K F σ (upd H l<|.lst ys) (δ.set i<|.own kr)/\bg F σ H δ σ (upd H l<|.lst ys) (δ.set i<|.own kr):=by
 have hl:Av F σ δ l:=.inr ⟨i,hx,.inr ⟨ds,h⟩⟩;obtain⟨l',xs0,e0,el,_,f⟩:=r.sl i _ _ hx h;cases e0;have lt:=(QX.mp h).1;have ge:(δ.set i<|.own kr)[i]? = some (.own kr):=by rw[Dt lt]
 have kk:∀a o,¬Av F σ δ a->H a=some o->upd H l (.lst ys) a=some o:=λa o n e=>by rw[QH λz=>n (by rw[z];exact hl)];exact e
 have av:∀a,Av F σ (δ.set i<|.own kr) a->Av F σ δ a:=λa z=>by
  rcases z with z | ⟨j,h1,h2⟩
  ·exact .inl z
  ·by_cases z:j=i
   ·subst z;exact .inr ⟨j,h1,.inr ⟨ds,h⟩⟩
   ·rw[iL z] at h2;exact .inr ⟨j,h1,h2⟩
 have up:∀{b:Xb}{o:HO},b≠l->H b=some o->upd H l (.lst ys) b=some o:=λn e=>by rw[QH n];exact e
 refine⟨?_,⟨kk,λa z=>.inl<|av a z⟩⟩;exact{
  len:=by rw[ZJ];exact r.len
  iX:=λa ha=>by
   by_cases z:a=l
   ·rw[z];exact⟨_,QC⟩
   ·obtain⟨xs,e⟩:=r.iX a ha;exact⟨xs,up z e⟩
  cI:=r.cI
  iF:=λp hp=>by
   obtain⟨h1,n,e⟩:=r.iF p hp;refine⟨h1,n,up (λz=>?_) e⟩;obtain⟨xs,e'⟩:=r.cI p h1;rw[z,f] at e';cases e'
  kx:=λb o n e=>up (λz=>by rw[z,f] at e;cases e)<|r.kx b o n e
  sl:=λj o y h1 h2=>by
   by_cases z:j=i
   ·subst z;rw[ge] at h2;cases h2;rw[hx] at h1;cases h1;exact⟨l,ys,rfl,QC,q.mv kk λa z=>.inl<|av a z,f⟩
   ·rw[iL z] at h2;have hh:=r.sl j o y h1 h2;cases y with
    |no=>trivial
    |v d=>obtain⟨v',e,q'⟩:=hh;exact⟨v',e,q'.mv kk λa z=>.inl<|av a z⟩
    |own es=>
     obtain⟨l',xs,rfl,e2,q',f'⟩:=hh;exact⟨l',xs,rfl,up (λz2=>z<|r.inj j i l' es h2 h1 ⟨by rw[z2];exact hx,.inr ⟨ds,h⟩⟩) e2,q'.mv kk λa z=>.inl<|av a z,f'⟩
    |pk es=>
     obtain⟨l',xs,rfl,e2,q',ys',f',f2⟩:=hh;exact⟨l',xs,rfl,up (λz2=>by rw[z2,f] at f';cases f') e2,q'.mv kk λa z=>.inl<|av a z,ys',f',f2⟩
    |cZ=>
     obtain⟨p,n,rfl,e2,w⟩:=hh;refine⟨p,n,rfl,up (λz2=>?_) e2,w⟩;subst z2;exact r.bo h hx ⟨j,h1,h2⟩
    |nZ=>exact hh
  inj:=λj k a es h1 h2 ⟨h3,h4⟩=>by
   have Oc:δ[k]? = some .cZ∨∃ds,δ[k]? = some (.own ds):=by
    by_cases z:k=i
    ·subst z;exact .inr ⟨ds,h⟩
    ·rw[iL z] at h4;exact h4
   by_cases z:j=i
   ·subst z;exact r.inj j k a ds h h2 ⟨h3,Oc⟩
   ·rw[iL z] at h1;exact r.inj j k a es h1 h2 ⟨h3,Oc⟩ }
def Mw(i:Nat)(we:DE):DS:=λD δ=>match δ[i]? with
 |some (.own ds)=>we δ (λd=>ds.length<1000000/\D.nx (δ.set i<|.own<|ds++[d])) D.ex
 |_=>False
def Qwk(h:PS X st<|Bu<|Ew X.K "list" Uc (bV i)<|dX (tX .D X.K E we) fj):PS X st (tS X.K E<|Mw i we):=by
 refine PS.imp h λD σ H ⟨F,δ,DD,rel,hw,en⟩=>?_
 unfold Mw at hw;split at hw
 ·rename_i ds hd
  obtain⟨x,hx⟩:=rel.lt hd;obtain⟨l,xs,rfl,e,q,f⟩:=rel.sl i _ _ hx hd;have np:=rel.bo hd hx;refine⟨.ref l,hx,.inl ⟨rfl,_,aA.of e⟩,F,δ,_,DD.ex,rel,hw,λd ⟨hl,hn⟩ v H' ai kp vk=>?_,en.ex⟩;have q':=kp.qA q;refine⟨l,xs,v,rfl,rfl,kp.1 _ _ np e,QM (by rw[q.length];exact hl) tE,?_⟩;obtain⟨r2,st⟩:=ai.mut hd hx<|q'.app<|.cons vk .nil;exact en.nx.go _ hn _ _ r2<|(bg.kp kp).trans st
 ·exact hw.elim
def Ad(i:Nat)(wi we:DE):DS:=λD δ=>we δ (λd=>match δ[i]? with
 |some (.own ds)=>wi δ (λz=>match z with
  |.int k=>∃j,jq ds.length k=some j/\D.nx (δ.set i<|.own<|ds.set j d)
  |_=>False) D.ex
 |_=>False) D.ex
def Qwb(h:PS X st<|nq (tX .D X.K E we)<|yr (bV i) (tX .P X.K E wi) Hk):PS X st (tS X.K E<|Ad i wi we):=by
 refine PS.imp h λD σ H ⟨F,δ,DD,rel,hw,en⟩=>⟨F,δ,_,DD.ex,rel,hw,λd hd v H1 aC bO vk=>?_,en.ex⟩
 split at hd
 ·rename_i ds bC
  obtain⟨x,hx⟩:=aC.lt bC;obtain⟨l,xs,rfl,e,q,f⟩:=aC.sl i _ _ hx bC;have np:=aC.bo bC hx;refine⟨.ref l,hx,F,δ,_,DD.ex,aC,hd,λz hz y H2 aM bB yk=>?_,en.ex⟩;cases z<;>first | exact(hz).elim | skip
  obtain⟨j,hj,hn⟩:=hz;refine⟨l,xs,_,j,rfl,DP.int yk,bB.1 _ _ np e,by rw[q.length];exact hj,?_⟩;obtain⟨r2,st⟩:=aM.mut bC hx<|(bB.qA q).set (bB.da vk) j;exact en.nx.go _ hn _ _ r2<|((bg.kp bO).trans<|bg.kp bB).trans st
 ·exact hd.elim
def G0(i:Nat)(rD:Xd->Xd->(Xd->Prop)->Prop)(wi we:DE):DS:=λD δ=>match δ[i]? with
 |some (.own ds)=>wi δ (λz=>match z with
  |.int k=>∃j a,jq ds.length k=some j/\ds[j]? = some a/\we δ (λe=>rD a e λb=>D.nx<|δ.set i<|.own<|ds.set j b) D.ex
  |_=>False) D.ex
 |_=>False
def QrN(hd:oQ r rD)(h:PS X st<|Pg (bV i) (tX .P X.K E wi) (tX .P X.K E we) (DZ X.K) (λx y H Q=>i4 H->r x y H Q) Hk):PS X st (tS X.K E<|G0 i rD wi we):=by
 refine PS.imp h λD σ H ⟨F,δ,DD,rel,hw,en⟩=>?_
 unfold G0 at hw;split at hw
 ·rename_i ds bC
  obtain⟨x,hx⟩:=rel.lt bC;obtain⟨l,xs,rfl,e,q,f⟩:=rel.sl i _ _ hx bC;have np:=rel.bo bC hx;refine⟨.ref l,hx,F,δ,_,DD.ex,rel,hw,λz hz y H1 aC bO yk=>?_,en.ex⟩;cases z<;>first | exact(hz).elim | skip
  obtain⟨j,a,hj,ha,hn⟩:=hz;have q1:=bO.qA q;obtain⟨va,hva,da⟩:=q1.get j a ha;rw[DP.int yk];refine⟨l,xs,_,va,rfl,rfl,aA.of<|bO.1 _ _ np e,by unfold gR;rw[q.length,hj];exact hva,F,δ,_,DD.ex,aC,hn,λb hb u H2 aM bB uk ln=>?_,en.ex⟩;refine hd (Av F σ δ) (Yo σ δ) H2 va u a b _ _ ln (λa ha=>aM.fc ha) (.inl<|bB.da da) uk hb λc hc w H3 s dw=>?_
  have r3:=aM.same s;have k3:=bB.trans<|Kp.same aM s;refine⟨l,xs,_,j,rfl,rfl,k3.1 _ _ np<|bO.1 _ _ np e,by rw[q.length];exact hj,?_⟩;obtain⟨r4,st⟩:=r3.mut bC hx<|(k3.qA q1).set dw j;exact en.nx.go _ hc _ _ r4<|((bg.kp bO).trans<|bg.kp k3).trans st
 ·exact hw.elim
@[irreducible] def sY(items:List Xd)(wg:DG)(wb:DS)(D:qS)(δ:aU):Prop:=∃Iv:Nat->aU->Prop,Iv 0 δ/\(∀(i:Nat) d δ,items[i]? = some d->Iv i δ->wg d δ λδ2=>wb { D with nx:=Iv<|i+1,ct:=Iv<|i+1,bk:=D.nx } δ2)/\∀δ,Iv items.length δ->D.nx δ
def yz(wi:DI)(wg:DG)(wb:DS):DS:=λD δ=>wi δ (λitems=>sY items wg wb D δ) D.ex
def Qwh{wi:DI}(hp:v8 (Xg X.prog X.w) X.A X.env X.xe)(hc:X.calm=true)(hi:PI X tg iter<|tI .D X.K E wi)(hg:PG X tg<|tG ix X.K wg)(hb:aV X body<|tS X.K E wb)
  (hs:∀x,Xo iter X.env x=pure x:=by intro _;rfl):PS X (.For tg iter body [] pos) (tS X.K E<|yz wi wg wb):=by
 refine PS.imp (BZ hp hc hi hg hb hs) λD σ H ⟨F,δ,DD,rel,hw,en⟩=>⟨F,δ,_,DD.ex,rel,hw,λitems hC J H1 aC bO ⟨ln,it⟩=>?_,en.ex⟩
 unfold sY at hC;obtain⟨Iv,i0,step,fin⟩:=hC;have Oj:=en.step<|bg.kp bO;refine⟨λi m σ' H'=>m=items.length - i/\i<=items.length/\∃δ',Iv i δ'/\Rel X.K F σ' H' δ'/\bg F σ H1 δ σ' H' δ',⟨_,rfl,Q6 _,δ,i0,aC,bg.refl⟩,?_⟩;rintro i m σ' H' ⟨rfl,FQ,δ',iv,r',bH⟩;obtain⟨go,stop⟩:=it H' (Av F σ' δ') bH.1 bH.2 λa ha=>r'.fc ha
 by_cases df:i<items.length
 ·have hd:=Qc df;obtain⟨g1,g2⟩:=go i _ hd;refine .inr ⟨g1,λσ2 H2=>∃δ2,Iv (i+1) δ2/\Rel X.K F σ2 H2 δ2/\bg F σ H1 δ σ2 H2 δ2,λσ2 H2 ⟨δ2,h2,r2,s2⟩=>⟨_,by omega,rfl,df,δ2,h2,r2,s2⟩,λx H3 y=>?_⟩;obtain⟨s3,dx⟩:=g2 x H3 y;have r3:=r'.same s3;have mH:=bH.trans<|bg.kp<|Kp.same r' s3;refine⟨F,δ',_,_,r3,dx,step i _ δ' hd iv,λδ4 h4 σ4 r4 iP _ _=>⟨F,δ4,_,r4,h4,?_⟩⟩;have iE:=mH.trans iP;exact⟨⟨λδ6 h6 σ6 H6 r6 s6=>⟨δ6,h6,r6,iE.trans s6⟩⟩,en.rt,en.kU,(Oj.step iE).nx,⟨λδ6 h6 σ6 H6 r6 s6=>⟨δ6,h6,r6,iE.trans s6⟩⟩,en.ex⟩
 ·have e:i=items.length:=by omega
  subst e;exact .inl ⟨stop,(Oj.step bH).nx.go δ' (fin δ' iv) σ' H' r' bg.refl⟩
def Qxz{lo:Int}(Iv:Nat->aU->Prop)(h0:Iv 0 δ)
  (hs:∀(i:Nat) δ,i<n->Iv i δ->wg (.int<|lo+i) δ λδ2=>wb { D with nx:=Iv<|i+1,ct:=Iv<|i+1,bk:=D.nx } δ2)(hd:∀δ,Iv n δ->D.nx δ):sY (jC lo n) wg wb D δ:=by
 unfold sY;exact⟨Iv,h0,λi d δ hd iv=>by obtain⟨hi,rfl⟩:=zu hd;exact hs i δ hi iv,λδ iv=>hd δ (by rw[Ce] at iv;exact iv)⟩
def C2{items:List Xd}{wg:DG}{wb:DS}{D:qS}{δ:aU}(Iv:Nat->aU->Prop)(h0:Iv 0 δ)
  (hs:∀(i:Nat) d δ,items[i]? = some d->Iv i δ->wg d δ λδ2=>wb { D with nx:=Iv<|i+1,ct:=Iv<|i+1,bk:=D.nx } δ2)(hd:∀δ,Iv items.length δ->D.nx δ):sY items wg wb D δ:=by
 unfold sY;exact⟨Iv,h0,hs,hd⟩
def Rj(C:Xb)(we:DE):DS:=λD δ=>we δ (λ_=>D.ex C) D.ex
def QnM(h:PS X st<|Rx.RP E C<|tX .P X.K E we):PS X st (tS X.K E<|Rj C we):=by
 exact PS.imp h λD σ H ⟨F,δ,DD,rel,hw,en⟩=>⟨F,δ,_,DD.ex,rel,hw,λd hd v H' ai kp vk=>en.ex C hd H' ai.ke,en.ex⟩
def QBb(we:DE):DS:=λD δ=>we δ (λ_=>D.nx δ) D.ex
def QrL(h:PS X st<|Bu<|tX .P X.K E we):PS X st (tS X.K E<|QBb we):=by
 exact PS.imp h λD σ H ⟨F,δ,DD,rel,hw,en⟩=>⟨F,δ,_,DD.ex,rel,hw,λd hd v H' ai kp vk=>en.nx.go δ hd σ H' ai<|bg.kp kp,en.ex⟩
end
def kg(N:List Str)(args:List Sl):aU:=args++Q8 (N.length - args.length) .no
def QlH{xs:List α}{ys:List β}(h:Zy R xs ys)(i:Nat)(x y)(e:xs[i]? = some x)(e':ys[i]? = some y):R x y:=by
 induction h generalizing i with
 |nil=>simp at e
 |cons r _ ih=>
  cases i with
  |zero=>simp at e e';subst e e';exact r
  |succ i=>exact ih i e e'
def WO{K:Qa}(dm:∀a,A a->∃xs,H a=some (.lst xs))(hp:∀p,pt p->A p/\∃n,H p=some (.lst [.int n]))(q:Zy (yH A pt H) vs args):Rel K ⟨H,A,pt⟩ (L2.start N vs) H (kg N args):=by
 have hl:=q.length;have no:∀(i:Nat) x,(kg N args)[i]? = some x->(i<args.length/\args[i]? = some x)∨x=.no:=λi x h=>by
  unfold kg at h;by_cases z:i<args.length
  ·rw[YR z] at h;exact .inl ⟨z,h⟩
  ·rw[L3<|by omega,Dx] at h;split at h
   ·exact .inr (QF h).symm
   ·cases h
 have arg:∀(i:Nat) o x,(L2.start N vs)[i]? = some o->(kg N args)[i]? = some x->x≠.no->∃v,o=some v/\yH A pt H v x:=λi o x h1 h2 hx=>by
  rcases no i x h2 with⟨z,e⟩ | e
  ·unfold L2.start at h1;rw[YR (by rw[Qd];omega),Qt] at h1;obtain⟨v,hv,rfl⟩:=Jk.mp h1;exact⟨v,rfl,QlH q i v x hv e⟩
  ·exact X5 e hx
 have av:∀a,Av ⟨H,A,pt⟩ (L2.start N vs) (kg N args) a->A a:=λa z=>by
  rcases z with z | ⟨i,h1,h2⟩
  ·exact z
  ·rcases h2 with h2 | ⟨ds,h2⟩
   ·obtain⟨v,e,p,rfl,qf⟩:=arg i _ _ h1 h2 nofun;cases e;exact(hp _ qf).1
   ·obtain⟨v,e,hh⟩:=arg i _ _ h1 h2 nofun;exact hh.elim
 exact{
  len:=by unfold L2.start kg;rw[Qg,Qg,Qd,Dy,Dy,hl]
  iX:=dm
  cI:=dm
  iF:=hp
  kx:=λ_ _ _ e=>e
  sl:=λi o x h1 h2=>by
   cases x with
   |no=>trivial
   |v d=>
    obtain⟨v,e,hh⟩:=arg i _ _ h1 h2 nofun;exact⟨v,e,DA.mv hh (λ_ _ _ e=>e) λa z=>.inl<|av a z⟩
   |cZ=>
    obtain⟨v,e,p,rfl,qf⟩:=arg i _ _ h1 h2 nofun;obtain⟨_,n,en⟩:=hp p qf;exact⟨p,n,e,en,.inl qf⟩
   |own ds=>obtain⟨v,e,hh⟩:=arg i _ _ h1 h2 nofun;exact hh.elim
   |pk ds=>obtain⟨v,e,hh⟩:=arg i _ _ h1 h2 nofun;exact hh.elim
   |nZ=>obtain⟨v,e,hh⟩:=arg i _ _ h1 h2 nofun;exact hh.elim
  inj:=λi j a ds h1 h2 _=>by
   obtain⟨v,e,hh⟩:=arg i _ _ h2 h1 nofun;exact hh.elim }
def QEY:Xd->Bool
 |.list _=>false
 |_=>true
def rtD:Bool->(Xd->Prop)->Xd->Prop
 |true,R,d=>QEY d=true/\R d
 |false,R,d=>R d
def qN(fr:Bool)(R:Xd->Prop)(EX:XP):qS:=⟨λ_=>R .none,rtD fr R,R,λ_=>False,λ_=>False,EX⟩
def T3{K:Qa}{E Ex:XK}{fr:Bool}{A pt:Xb->Prop}{H:Hp}{R:Xd->Prop}{EX EX':XP}{Q:VK}{σ:L2.St}{δ:aU}(k:∀d,R d->∀v H',Kq pt H H'->DA A H' v d->(fr=true->kd H H' v)->Q v H')(o:Out ⟨H,A,pt⟩ E EX') :
  iA K E ⟨H,A,pt⟩ σ H δ (qN fr R EX') { nx:=λ_ H'=>Q .aL H',rt:=Q } where
 nx:=⟨λδ' hR σ' H' r st=>k _ hR _ H' r.ke .aL λ_=>Qxy⟩
 rt:=λd h v H' ke dv=>by
  cases fr with
  |false=>exact k d h v H' ke dv λz=>by cases z
  |true=>
   obtain⟨h1,h2⟩:=h;refine k d h2 v H' ke dv λz l e1 ⟨xs,e2⟩=>?_
   subst e1;cases dv with
   |@tup a ys ds n e q=>rw[e] at e2;cases e2
   |@lst a ys ds n e q=>cases h1
   |@jw a kvs ds n e q=>rw[e] at e2;cases e2
 kU:=λd h v H' ke dv fr'=>k d h v H' ke dv λ_=>fr'
 bk:=⟨λ_ h=>h.elim⟩
 ct:=⟨λ_ h=>h.elim⟩
 ex:=o
section
variable{P:QB}{w:Jf}{K:Qa}{mg:Str->Option Xc}{base:Xl}
def okD{x qual:Str}{st:Ze}{f:Xb}{fd:Zs}{N ps:List Str}{k:Nat}{fD:DF}(fr:Bool)(F:iz K x qual st f fd)(S:Ya N ps<|QL st)(len:∀args R EX,fD args R EX->args.length=ps.length)
  (XL:∀(aj:Xc)(A:JF)(outer:List Env)(s:Xe)(H:Hp)(E:XK),ao k (A.deeper<|envOfC qual (QL st) s.heap.objs.size f aj) ->
   ∃wd,aV (bS aq P w K mg base N qual (QL st) f aj A outer s H E).jm (ZS st) (tS K E0 wd)/\∀args R EX,fD args R EX->wd (qN fr R XF) (kg N args)):aI P w K mg base aq (k+1) f fd ps (Zz fr fD):=by
 refine F.ok S (λvs H Q E h=>?_) λaj A outer s H vs Q E hr h=>?_
 ·obtain⟨A,pt,args,R,EX,_,_,q,h,_⟩:=h;rw[q.length];exact len _ _ _ h
 ·obtain⟨wd,hp,hw⟩:=XL aj A outer s H E hr;obtain⟨A',pt,args,R,EX,dm,FF,q,h,k,_⟩:=h;exact⟨_,hp,⟨H,A',pt⟩,_,_,WO dm FF q,hw args R EX h,T3 (Ex:=E) (EX:=EX) k tu⟩
def QEX{x qual:Str}{st:Ze}{f:Xb}{fd:Zs}{N ps:List Str}{k:Nat}{fD:DF}(fr:Bool)(F:iz K x qual st f fd)(S:Ya N ps<|QL st)(len:∀args R EX,fD args R EX->args.length=ps.length)
  (XL:∀(aj:Xc)(A:JF)(outer:List Env)(s:Xe)(H:Hp)(E:XK),ao k (A.deeper<|envOfC qual (QL st) s.heap.objs.size f aj) ->
   ∃wd,aV (bS (Rx.aQ P w) P w K mg base N qual (QL st) f aj A outer s H E) (ZS st) (tS K E wd)/\∀args R EX,fD args R EX->wd (qN fr R EX) (kg N args)):aI P w K mg base (Rx.aQ P w) (k+1) f fd ps (Zz fr fD):=by
 refine Rx.Fc F S (λvs H Q E h=>?_) λaj A outer s H vs Q E hr h=>?_
 ·obtain⟨A,pt,args,R,EX,_,_,q,h,_⟩:=h;rw[q.length];exact len _ _ _ h
 ·obtain⟨wd,hp,hw⟩:=XL aj A outer s H E hr;obtain⟨A',pt,args,R,EX,dm,FF,q,h,k,kx⟩:=h;exact⟨_,hp,⟨H,A',pt⟩,_,_,WO dm FF q,hw args R EX h,T3 (Ex:=E) (EX:=EX) k λC hC H' ke=>kx C hC H' ke⟩
end
end Dl




namespace L2
def QDX(i j:Int):Prop:=0<j/\j<=10^40
def QrY:aK X (Xr .FloorDiv) (rI QDX λi j=>.int<|i / j):=vb λi j _ _ _ _ _ hc q=>by
 have h1:=hc.1;have h2:=hc.2;refine floordiv_int (by omega) (by rw[Int.fdiv_eq_ediv_of_nonneg i<|by omega];exact q)<|.inl<|PyProof.noPylong_of_log2 ?_;have h3:j.natAbs<2^200:=by
  have:10^40<2^200:=by decide
  omega
 have:=(Ht<|by omega).mpr h3;omega
end L2
namespace Rk
open L2 _root_.Rd
def CG:Sp:=λvs H Q _=>∃p n f,vs=[.ref p,.int f]/\H p=some (.lst [.int n])/\0<f/\f<=10^40/\∀r m,0<=r->r<f->Q (.int r) (upd H p<|.lst [.int m])
end Rk
namespace Dl
open L2 _root_.Rd Rk
def OY:Y6 aq X E:=λ_ _ _ _ _ _ _ h=>h.elim
def ao.rK(r:ao k A):A.units+60<cLine:=by have:=r.un;omega
def ao.xW(r:ao k A):A.in1.units+60<cLine:=by
 have:=r.un;show A.units+1+60<cLine;omega
section
variable{X:Cx}{E:XK}{CX:jg}{k:Nat}{f:Xb}{fd:Zs}{ps:List Str}{x:Str}{p pos:Pos}{e:JO}{es:List JO}{fD:DF}
def Hd:DF:=λargs R _=>∃f,args=[.cZ,.v<|.int f]/\0<f/\f<=10^40/\∀r,0<=r->r<f->R (.int r)
def QyM(h:Zz true Hd vs H Q Ex):CG vs H Q Ex:=by
 obtain⟨A,pt,args,R,EX,dm,hp,q,⟨f,rfl,f0,f1,hR⟩,k,_⟩:=h;cases q with
 |cons q1 q2=>cases q2 with
  |cons q2 q3=>
   cases q3;obtain⟨p,rfl,pp⟩:=q1;cases q2;obtain⟨_,n,e⟩:=hp p pp;refine⟨p,n,f,rfl,e,f0,f1,λr m r0 r1=>k _ (hR r r0 r1) _ _ ⟨λb o nb eb=>?_,λz hz=>?_⟩ (.int _) λ_=>kL⟩
   ·rw[QH λz=>nb (by rw[z];exact pp)];exact eb
   ·by_cases y:z=p
    ·rw[y];exact⟨m,QC⟩
    ·obtain⟨_,n',e'⟩:=hp z hz;exact⟨n',by rw[QH y];exact e'⟩
def isW:Xd->Bool
 |.int _=>true
 |_=>false
def RT:DF:=λargs R _=>∃d,args=[.v d]/\R (.bool<|isW d)
end
section
variable{P:QB}{w:Jf}{K:Qa}{mg:Str->Option Xc}{base:Xl}
def Ie(K:Qa):Sp:=λvs H Q _=>∃(a:Xb)(ns:List Int),vs=[.ref a]/\aA K H a (ns.map V.int)/\ns.length<=63/\∀H',Q (.bl true) H'
end
def QBy{α:Type}{p:α->Prop}:∀x∈([]:List α),p x:=λ_ h=>nomatch h
def wj{α:Type}{p:α->Prop}{a:α}{l:List α}(h:p a)(t:∀x∈l,p x):∀x∈a::l,p x:=λx hx=>by
 rcases Qv.mp hx with z | z
 ·rw[z];exact h
 ·exact t x z
def QBw{R:Xd->Prop}(h:R<|.bool<|b&&c):if b=true then R (.bool c) else R (.bool false):=by
 cases b
 ·exact a9 h
 ·exact bI h
def Qya{R:Xd->Prop}(h:R<|.bool<|b&&c)(k:b=true->R (.bool c)->Pk):if b=true then Pk else R (.bool false):=by
 cases b
 ·exact a9 h
 ·exact bI<|k rfl h
def NS{B:Prop}(h:c=false)(k:B):if c=true then A else B:=by subst h;exact k
def Fy{B:Prop}(h:c=true)(k:A):if c=true then A else B:=by subst h;exact k
def oh{c:Bool}{A B:Prop}(t:c=true->A)(f:c=false->B):if c=true then A else B:=by
 cases c
 ·exact f rfl
 ·exact t rfl
def Qvr(ns:List Int)(h:ds=[.list<|ns.map Qr])(q:Q<|.int ns.sum):D8 ds Q:=by
 subst h;unfold D8;exact⟨ns,ints_map ns,q⟩
def QBv(h0:0<=i)(h1:i<ds.length):∃d,d∈ds/\gR ds i=some d:=by
 obtain⟨j,rfl⟩:∃j:Nat,i=j:=⟨i.toNat,by omega⟩
 have hj:j<ds.length:=by omega
 exact⟨ds[j],Jz hj,Jc<|Qc hj⟩
def GQ{ds:List Xd}{i:Int}{Q:Xd->Prop}(h0:0<=i)(h1:i<ds.length)(q:∀d∈ds,Q d):∃d,gR ds i=some d/\Q d:=by
 obtain⟨d,hd,e⟩:=QBv h0 h1;exact⟨d,e,q d hd⟩
structure QE (m:Md) (X:Cx) (E:XK) (e:JO) (w:DE):Prop where h:PE X e<|tX m X.K E w
structure QT (X:Cx) (E:XK) (e:JO) (w:DT):Prop where h:PT X e<|tT X.K E w
structure QW (X:Cx) (E:XK) (e:JO) (w:DT):Prop where h:PW X e<|tT X.K E w
structure wW (X:Cx) (E:XK) (es:List JO) (w:DT):Prop where h:iu X es<|tT X.K E w
structure QA (n:Nat) (m:Md) (X:Cx) (E:XK) (es:List JO) (w:kf):Prop where h:PA X es<|jj n m X.K E w
structure nT (X:Cx) (E:XK) (es:List JO) (w:me):Prop where h:PA X es<|nX X.K E w
structure QO (X:Cx) (E:XK) (o:Option JO) (w:DO):Prop where h:PO X o<|tO X.K E w
structure QG (ix:List Nat) (X:Cx) (tg:JO) (w:DG):Prop where h:PG X tg<|tG ix X.K w
structure QI (m:Md) (X:Cx) (E:XK) (tg it:JO) (w:DI):Prop where h:PI X tg it<|tI m X.K E w
structure QS (X:Cx) (E:XK) (st:Ze) (w:DS):Prop where h:PS X st<|tS X.K E w
structure ka (X:Cx) (E:XK) (xj:List Ze) (w:DS):Prop where h:aV X xj<|tS X.K E w
section
variable{X:Cx}{E:XK}
def Zo{e:JO}{w:DE}(h:QE .F X E e w):QE .D X E e w:=⟨toD h.h⟩
def Jg{e:JO}{w:DE}(h:QE .D X E e w):QE .P X E e w:=⟨fw h.h⟩
def JC{e:JO}{w:DE}(h:QE .F X E e w):QE .P X E e w:=⟨QEA h.h⟩
def qv(i:Nat){x:Str}{pos:Pos}(hN:X.N[i]? = some x:=by rfl)(hv:iY X.env.scope x:=by first | exact QJ rfl | exact QU (QJ rfl) | exact QU<|QU rfl)(hd:(x == ("__debug__" : Str))=false:=by decide)(bQ:(x == ("__classdict__" : Str))=false:=by decide):QE .D X E (.Name x pos) (ni i):=⟨QzH<|pv i hN hv hd bQ⟩
def qp(i:Nat){x:Str}{pos:Pos}(hN:X.N[i]? = some x:=by rfl)(hv:iY X.env.scope x:=by first | exact QJ rfl | exact QU (QJ rfl) | exact QU<|QU rfl)(hd:(x == ("__debug__" : Str))=false:=by decide)(bQ:(x == ("__classdict__" : Str))=false:=by decide):QE .P X E (.Name x pos) (gE i):=⟨QC3<|pv i hN hv hd bQ⟩
def JI{i:Int}{j pos}:QE .D X E (.Constant (.int i) j pos) (dC<|.int i):=⟨QzP⟩
def MB{j pos}:QE .D X E (.Constant (.bool b) j pos) (dC<|.bool b):=⟨QC7⟩
def QCW{j pos}:QE .D X E (.Constant .none j pos) (dC .none):=⟨QzM⟩
def j0{j pos}(h:Jb (.str x)=true:=by decide):QE .D X E (.Constant (.str x) j pos) (dC<|.str x):=⟨QzJ h⟩
def Qzy(i:Int)(hg:Gl X x)(hm:X.mg x=some u)(r:RelV (.int i) u)(hd:(x == ("__debug__" : Str))=false:=by decide):QE .D X E (.Name x pos) (dC<|.int i):=⟨yG (Za hg hm r hd) λ_ _=>.int i⟩
def YH{a b:JO}{wa wb:DE}{pos:Pos}{r:R2}{rD:Xd->Xd->(Xd->Prop)->Prop}{op:Operator}(ho:aK X (Xr op) r)(hd:jb r rD)(ha:QE .P X E a wa)(hb:QE .P X E b wb):QE .F X E (.BinOp a op b pos) (fE rD wa wb):=⟨QzU ho hd ha.h hb.h⟩
def Hh(ho:aK X (Xm op) r)(hd:jb r rD)(ha:QE .P X E a wa)(hb:QE .P X E b wb)(hm:behindInMarks op b=false):QE .F X E (.Compare a [op] [b] pos) (fE rD wa wb):=⟨QzS ho hd ha.h hb.h hm⟩
def gY{a b:JO}{wa wb:DE}{pos:Pos}{r:R2}{rD:Xd->Xd->(Xd->Prop)->Prop}{op:CmpOp}(ho:aK X (Xm op) r)(hd:jb r rD)(ha:QE .P X E a wa)(hb:QE .P X E b wb)(hm:behindInMarks op b=false):QT X E (.Compare a [op] [b] pos) (gD<|fE rD wa wb):=⟨Qv9 ho hd ha.h hb.h hm⟩
def bJ{a b:JO}{wa wb:DE}{pos:Pos}{r:R2}{rD:Xd->Xd->(Xd->Prop)->Prop}(ho:jd X r)(hd:oQ r rD)(ha:QE .P X E a wa)(hb:QE .P X E b wb)(hs:IL b):QE .D X E (.Subscript a b pos) (fE rD wa wb):=⟨QC5 ho hd ha.h hb.h hs⟩
def Hi(ha:QE .P X E a wa):QE .F X E (.UnaryOp .USub a pos) (Oq QEe wa):=⟨QzN ha.h⟩
def QEV(ho:aK X (Xm op)<|gq λi j=>.bl<|p i j)(gO:aK X (Xm p7)<|gq λi j=>.bl<|q i j)(ha:QE .P X E a wa)(hb:QE .P X E b wb)(hc:QE .P X E c wc)(hm:lastMarks [op,p7] [b,c]=false:=by with_unfolding_all rfl):QE .F X E (.Compare a [op,p7] [b,c] pos) (Gg p q wa wb wc):=⟨QC6 ho gO ha.h hb.h hc.h hm⟩
def v7(h:QE .P X E e w)(he:∀whole,isTrue e X.env whole=(do let v <- whole;Xu e.pos;Xt [v]<|XD v):=by intro _;rfl):QT X E e (lH w):=⟨Qv7 h.h he⟩
def pe(h:QE .P X E e w)(he:∀whole,isTrue e X.env whole=(do let v <- whole;Xu e.pos;Xt [v]<|XD v):=by intro _;rfl):QT X E e (gD w):=⟨Qv6 h.h he⟩
def II(ha:QT X E a ta):QW X E (.BoolOp .And [a] pos) ta:=⟨QrE ha.h⟩
def HJ{rest:List JO}(ha:QT X E a ta)(hb:QW X E (.BoolOp .And (b::rest) pos) tb):QW X E (.BoolOp .And (a::b::rest) pos) (Mv ta tb):=⟨Qv5 ha.h hb.h⟩
def Hg{rest:List JO}(ha:QE .P X E a wa)(hb:QE .D X E (.BoolOp .And (b::rest) pos) wb):QE .D X E (.BoolOp .And (a::b::rest) pos) (QBd wa wb):=⟨QzV ha.h hb.h⟩
def SV(ha:QT X E a ta):QW X E (.BoolOp .Or [a] pos) ta:=⟨Qv4 ha.h⟩
def OF{rest:List JO}(ha:QT X E a ta)(hb:QW X E (.BoolOp .Or (b::rest) pos) tb):QW X E (.BoolOp .Or (a::b::rest) pos) (Ov ta tb):=⟨QzF ha.h hb.h⟩
def QEU{rest:List JO}(ha:QE .P X E a wa)(hb:QE .D X E (.BoolOp .Or (b::rest) pos) wb):QE .D X E (.BoolOp .Or (a::b::rest) pos) (QEo wa wb):=⟨QC4 ha.h hb.h⟩
def yF(h:QW X E e t):QT X E e t:=⟨PW.pt h.h⟩
def o_(ha:QT X E a ta):QT X E (.UnaryOp .Not a pos) (QEp ta):=⟨Qv8 ha.h⟩
def Bt{op}(h:QE .D X E a w):QE .D X E (.BoolOp op [a] pos) w:=⟨QzK h.h⟩
def QCV(ha:QE .P X E a wa):QE .D X E (.UnaryOp .Not a pos) (QA7 wa):=⟨QzL ha.h⟩
def QCX(hc:QT X E c ta)(ha:QE .D X E a wa)(hb:QE .D X E b wb):QE .D X E (.IfExp c a b pos) (QEs ta wa wb):=⟨QzQ hc.h ha.h hb.h⟩
def Js{m:Md}:QA 0 m X E [] nh:=⟨Qwn⟩
def Yi{n:Nat}{e:JO}{es:List JO}{we:DE}{wr:kf}(he:QE .D X E e we)(hr:QA n .D X E es wr)(hs:notStar e=true:=by rfl):QA (n+1) .D X E (e::es) (gH we wr):=⟨QnQ he.h hr.h hs⟩
def gc(he:QE .P X E e we)(hr:QA n .P X E es wr)(hs:notStar e=true:=by rfl):QA (n+1) .P X E (e::es) (gH we wr):=⟨QnP he.h hr.h hs⟩
def ef{x1}(h:QA n .D X E es w)(hn:n<=1000:=by decide):QE .F X E (.Tuple es x1 pos) (Ae w):=⟨QzI h.h hn⟩
def kB{n:Nat}{es:List JO}{w:kf}{pos:Pos}(h:QA n .D X E es w)(hn:n<=1000:=by decide):QE .F X E (.List es pos) (Ac w):=⟨QzO h.h hn⟩
def QCY:QE .D X E (.Dict [] [] pos) (dC<|.dict []):=⟨QzR⟩
def l7(hc:aF X (.builtin Ba) r)(hd:iZ r rD)(hg:Gl X x)(hm:X.mg x=none)(hv:Xn x=some (.builtin Ba))(ha:QA n .P X E (e::es) wr)(hn:x ≠ "__name__" := by decide)(bE:(x == ("__debug__" : Str))=false:=by decide)(he:Xi (e::es) X.env=(false,eval e X.env)::Xi es X.env:=by rfl)(hpl:(Xq pos<|Xi es X.env).any (·.1)=false:=by rfl):QE .F X E (.Call (.Name x p) (e::es) [] pos) (sL rD wr):=⟨QrV hc hd hg hm hv ha.h hn bE he hpl⟩
def rn(hc:aF X (.type T) r)(hd:iZ r rD)(hg:Gl X x)(hm:X.mg x=none)(hv:Xn x=some (.type T))(ha:QA n .P X E (e::es) wr)(hn:x ≠ "__name__" := by decide)(bE:(x == ("__debug__" : Str))=false:=by decide)(he:Xi (e::es) X.env=(false,eval e X.env)::Xi es X.env:=by rfl)(hpl:(Xq pos<|Xi es X.env).any (·.1)=false:=by rfl):QE .F X E (.Call (.Name x p) (e::es) [] pos) (sL rD wr):=⟨QnR hc hd hg hm hv ha.h hn bE he hpl⟩
def zd(tn:Tn)(hg:Gl X "isinstance")(hm:X.mg "isinstance" = none)(he:QE .P X E e we)(yh:Gl X x)(yd:X.mg x=none)(hv:Xn x=some (.type tn.s))(hn:x ≠ "__name__" := by decide)(hd:(x == ("__debug__" : Str))=false:=by decide)(h1:notStar e=true:=by rfl):QE .F X E (.Call (.Name "isinstance" p) [e,.Name x n8] [] pos) (QBa tn we):=⟨Qwp tn hg hm he.h (QC9 tn yh yd hv hn hd) h1 rfl⟩
def T_  : QO X E none Ow:=⟨QrP⟩
def Ua(he:QE .P X E e we):QO X E (some e) (Ot we):=⟨QrO he.h⟩
def T8{lo:Option JO}(he:QE .P X E e we)(hl:QO X E lo wl)(hh:QO X E hi wh):QE .F X E (.Subscript e (.Slice lo hi none p2) pos) (Ou we wl wh):=⟨QrT he.h hl.h hh.h⟩
def Zf  : nT X E [] MH:=⟨Qwf⟩
def Ys{e:JO}{es:List JO}{we:DE}{wr:me}(he:QE .D X E e we)(hr:nT X E es wr)(hs:notStar e=true:=by rfl):nT X E (e::es) (sV we wr):=⟨QC2 he.h hr.h hs⟩
def ub(i:Nat)(hr:nT X E es wr)(hN:X.N[i]? = some x:=by rfl)(hv:iY X.env.scope x:=by first | exact QJ rfl | exact QU (QJ rfl) | exact QU<|QU rfl)(hd:(x == ("__debug__" : Str))=false:=by decide)(bQ:(x == ("__classdict__" : Str))=false:=by decide):nT X E (.Name x pos::es) (D0 i wr):=⟨Qwc (pv i hN hv hd bQ) hr.h rfl⟩
def Qzz(G:aI X.prog X.w X.K X.mg X.base CX k f fd ps<|Zz false fD)(hr:ao k X.A)(hg:Gl X x)(hm:X.mg x=some (.ref f))(hk:Q7 X.K (.ref f)=true)(hb:Binds X.K fd ps [])(hx:Y6 CX X E)(ha:nT X E (e::es) wa)(bE:(x == ("__debug__" : Str))=false:=by decide)(he:Xi (e::es) X.env=(false,eval e X.env)::Xi es X.env:=by rfl)(hpl:(Xq pos<|Xi es X.env).any (·.1)=false:=by rfl):QE .D X E (.Call (.Name x p) (e::es) [] pos) (o4 fD wa):=⟨Qwr G hr hg hm hk hb hx ha.h bE he hpl⟩
def QvP(G:aI X.prog X.w X.K X.mg X.base CX k f fd ps<|Zz true fD)(hr:ao k X.A)(hg:Gl X x)(hm:X.mg x=some (.ref f))(hk:Q7 X.K (.ref f)=true)(hb:Binds X.K fd ps [])(hx:Y6 CX X E)(ha:nT X E (e::es) wa)(bE:(x == ("__debug__" : Str))=false:=by decide)(he:Xi (e::es) X.env=(false,eval e X.env)::Xi es X.env:=by rfl)(hpl:(Xq pos<|Xi es X.env).any (·.1)=false:=by rfl):QE .F X E (.Call (.Name x p) (e::es) [] pos) (o4 fD wa):=⟨QrU G hr hg hm hk hb hx ha.h bE he hpl⟩
def YG(i:Nat){x:Str}{pos:Pos}(hN:X.N.Nodup)(hi:X.N[i]? = some x)(hx:Loc X.env.scope x)(hf:X.fn x=true∨X.env.scope.names.lookup x=some .local:=by first | exact .inl rfl | exact .inr rfl | assumption):QG [i] X (.Name x pos) (gN i):=⟨QrS<|ZC hN hi hx hf⟩
structure DJ (X:Cx) (es:List JO) (is:List Nat):Prop where h:Af X es<|AV is
def kF  : DJ X [] []:=⟨l9⟩
def J8(i:Nat){is:List Nat}{x:Str}{pos:Pos}{es:List JO}(h:DJ X es is)(hN:X.N.Nodup)(hi:X.N[i]? = some x)(hx:Loc X.env.scope x)(hf:X.fn x=true∨X.env.scope.names.lookup x=some .local:=by first | exact .inl rfl | exact .inr rfl | assumption)(hs:(Xx (.Name x pos::es) X.env).map (·.2)=assign (.Name x pos) X.env::(Xx es X.env).map (·.2):=by rfl):DJ X (.Name x pos::es) (i::is):=⟨J3 (ZC hN hi hx hf) h.h hs⟩
def kG{es:List JO}{k:Nat}{pos:Pos}{is:List Nat}(hc:X.calm=true)(h:DJ X es is)(hn:(Xx es X.env).length=is.length:=by rfl)(gs:(Xx es X.env).findIdx? (·.1)=none:=by rfl):QG is X (.Tuple es k pos) (F9 is):=⟨Qwm (lV hc h.h hn gs) rfl⟩
def wq(h:QE m X E e w):QI m X E tg e (QEr w):=⟨QrR h.h⟩
def vY{m:Md}{tg e:JO}{w:DE}(h:QE m X E e w):QI m X E tg e (QEq w):=⟨Qwl h.h⟩
def zk{m:Md}{tg e:JO}{w:DE}{p pos:Pos}(hg:Gl X "range")(hm:X.mg "range" = none)(h:QE .P X E e w)(hs:notStar e=true:=by rfl):QI m X E tg (.Call (.Name "range" p) [e] [] pos) (QA4 w):=⟨QrQ hg hm h.h hs⟩
def Vd{x1}(hg:Gl X "enumerate")(hm:X.mg "enumerate" = none)(h:QE m X E e w)(hs:notStar e=true:=by rfl):QI m X E (.Tuple elts x1 cV) (.Call (.Name "enumerate" p) [e] [] pos) (QEt w):=⟨QnO hg hm h.h hs⟩
def pB  : wW X E [] DN:=⟨QrG⟩
def uf{c:JO}{t:DT}(h:QT X E c t):wW X E [c] t:=⟨QrF h.h⟩
def j6(M:List Str)(cap:List<|Option Nat){elt tg iter:JO}{ifs:List JO}{scope:gW}{pos:Pos}{ix:List Nat}{wi:DI}{wg:DG}{wt:DT}{we:DE}(hi:QI .P X E tg iter wi)(hb:∀cl ex s3 H3 C,QG ix (bG X M scope cl ex s3 H3 C) tg wg/\wW (bG X M scope cl ex s3 H3 C) E0 ifs wt/\QE .D (bG X M scope cl ex s3 H3 C) E0 elt we)(hc:X.calm=true:=by rfl)(ok:ny X.N X.env.scope M scope cap=true:=by rfl)(hf:i8 cap ix=true:=by rfl)(hs:∀x,Xo iter X.env x=pure x:=by intro _;rfl):QE .F X E (.ListComp elt [⟨tg,iter,ifs,0⟩] scope pos) (jx cap wi wg wt we):=⟨Qwq hc ok hf hi.h (λcl ex s3 H3 C=>⟨(hb cl ex s3 H3 C).1.h,(hb cl ex s3 H3 C).2.1.h,(hb cl ex s3 H3 C).2.2.h⟩) hs⟩
def j_  : ka X E [] qM:=⟨QrH⟩
def Ji{st:Ze}{w:DS}(h:QS X E st w):ka X E [st] w:=⟨Qwe h.h⟩
def QZ{st:Ze}{rest:List Ze}{w w':DS}(h:QS X E st w)(h':ka X E rest w'):ka X E (st::rest) (oU w w'):=⟨QrM h.h h'.h⟩
def XM:ka X E xj (λ_ _=>False):=⟨QnN⟩
def Z7(i:Nat){x:Str}{e:JO}{pos pos':Pos}{we:DE}(he:QE .D X E e we)(hN:X.N.Nodup)(hi:X.N[i]? = some x:=by rfl)(hx:Loc X.env.scope x:=by first | exact QJ rfl | exact QU rfl)(hs:Xw e (some<|.Name x pos') pos.line X.env=pure false:=by rfl)(hf:X.fn x=true∨X.env.scope.names.lookup x=some .local:=by first | exact .inl rfl | exact .inr rfl | assumption):QS X E (.Assign [.Name x pos'] e pos) (DQ i we):=⟨IA<|i9 hN hi hx he.h hs hf⟩
def zl(i:Nat){x:Str}{e:JO}{pos pos':Pos}{we:DE}(he:QE .F X E e we)(hN:X.N.Nodup)(hi:X.N[i]? = some x:=by rfl)(hx:Loc X.env.scope x:=by first | exact QJ rfl | exact QU rfl)(hs:Xw e (some<|.Name x pos') pos.line X.env=pure false:=by rfl)(hf:X.fn x=true∨X.env.scope.names.lookup x=some .local:=by first | exact .inl rfl | exact .inr rfl | assumption):QS X E (.Assign [.Name x pos'] e pos) (Bm i we):=⟨QrI<|i9 hN hi hx he.h hs hf⟩
def vZ{tg e:JO}{pos:Pos}{ix:List Nat}{we:DE}{wg:DG}(he:QE .D X E e we)(hg:QG ix X tg wg)(hs:swapsWithSole [tg] e pos.line X.env=pure false:=by rfl)(hw:swappedStores [tg] e X.env=pure none:=by rfl)(h1:(Xx [tg] X.env).map (·.2)=[assign tg X.env]:=by rfl):QS X E (.Assign [tg] e pos) (QEu we wg):=⟨Qwj<|pj he.h hg.h hs hw h1⟩
def Qzt(i j:Nat){kt k2 rY}(ha:QA n .D X E [a,b] wa)(hN:X.N.Nodup)(hc:X.calm=true:=by rfl)(hi:X.N[i]? = some x:=by rfl)(hj:X.N[j]? = some y:=by rfl)(sC:i≠j:=by decide)(hx:X.env.scope.names.lookup x=some .local:=by rfl)(hy:X.env.scope.names.lookup y=some .local:=by rfl)(hw:swappedStores [.Tuple [.Name x px,.Name y py] kt pt] (.Tuple [a,b] k2 rY) X.env=pure (some [x,y]):=by rfl)(hs:swapsWithSole [.Tuple [.Name x px,.Name y py] kt pt] (.Tuple [a,b] k2 rY) pos.line X.env=pure false:=by rfl):QS X E (.Assign [.Tuple [.Name x px,.Name y py] kt pt] (.Tuple [a,b] k2 rY) pos) (QEn i j wa):=⟨Qwd<|SO hc hN hi hj sC hx hy ha.h hw hs⟩
def o9(h:QE .D X E e we):QS X E (.Return (some e) pos) (QEm we):=⟨Qwa h.h⟩
def j9(h:QE .F X E e we):QS X E (.Return (some e) pos) (G1 we):=⟨QrK h.h⟩
def IH(i:Nat){x:Str}{pos n8:Pos}(hN:X.N[i]? = some x:=by rfl)(hv:iY X.env.scope x:=by first | exact QJ rfl | exact QU (QJ rfl) | exact QU<|QU rfl)(hd:(x == ("__debug__" : Str))=false:=by decide)(bQ:(x == ("__classdict__" : Str))=false:=by decide):QS X E (.Return (some<|.Name x pos) n8) (G2 i):=⟨QrJ<|pv i hN hv hd bQ⟩
def j3(hc:QT X E c t)(ha:ka X E a w)(hb:ka X E b w'):QS X E (.If c a b pos) (qB t w w'):=⟨QzG hc.h ha.h hb.h⟩
def SS(i:Nat)(ho:ma X op ti)(hd:oQ ti rD)(he:QE .P X E e we)(hN:X.N.Nodup)(hi:X.N[i]? = some x:=by rfl)(hx:Loc X.env.scope x:=by first | exact QJ rfl | exact QU rfl)(hf:X.fn x=true∨X.env.scope.names.lookup x=some .local:=by first | exact .inl rfl | exact .inr rfl | assumption):QS X E (.AugAssign (.Name x pos') op e pos) (Mx i rD we):=⟨Qwi hd<|QzB hN hi hx he.h (ma.len ho) hf⟩
def Qzv(i:Nat)(he:QE .D X E e we)(hN:X.N[i]? = some y:=by rfl)(hv:iY X.env.scope y:=by first | exact QJ rfl | exact QU (QJ rfl) | exact QU<|QU rfl)(hd:(y == ("__debug__" : Str))=false:=by decide)(bQ:(y == ("__classdict__" : Str))=false:=by decide)(gs:notStar e=true:=by rfl)(fg:attributeBase (.Name y bM) "append" X.env (eval (.Name y bM) X.env)=eval (.Name y bM) X.env:=by rfl)(lj:((Xq XJ<|Xi [e] X.env).all (λx => !x.1)&&(Xz XJ<|Xy [] X.env).all (λx=>x.1.isSome)&&decide ([e].length+([]:List tz).length+(if([]:List tz).isEmpty then 0 else 1)<30))=true:=by rfl)(fe:(apos.endLine == XJ.line)=true:=by rfl)(jR:Xw (.Call (.Attribute (.Name y bM) "append" apos) [e] [] XJ) none pos.line X.env=pure false:=by rfl):QS X E (.Expr (.Call (.Attribute (.Name y bM) "append" apos) [e] [] XJ) pos) (Mw i we):=⟨Qwk<|Zp (i6 JD L_ Mb C3 (pv i hN hv hd bQ) (a_ he.h Qp gs) fg lj fe (nN gs) rfl) jR⟩
def SU(i:Nat)(he:QE .D X E e we)(hk:QE .P X E k wk)(hN:X.N[i]? = some y:=by rfl)(hv:iY X.env.scope y:=by first | exact QJ rfl | exact QU (QJ rfl) | exact QU<|QU rfl)(hd:(y == ("__debug__" : Str))=false:=by decide)(bQ:(y == ("__classdict__" : Str))=false:=by decide) (ha:∀v,assign (.Subscript (.Name y bM) k b_) X.env v=(do
   let ov <- Xt [v] (eval (.Name y bM) X.env)
   let iv <- Xt [v,ov] (eval k X.env)
   Xu b_
   Xt [v,ov,iv] (XG ov iv v)
   release [v,ov,iv] []):=by intro _;rfl) (hs:swapsWithSole [.Subscript (.Name y bM) k b_] e pos.line X.env=pure false:=by rfl) (hw:swappedStores [.Subscript (.Name y bM) k b_] e X.env=pure none:=by rfl) (h1:(Xx [.Subscript (.Name y bM) k b_] X.env).map (·.2)=[assign (.Subscript (.Name y bM) k b_) X.env]:=by rfl):QS X E (.Assign [.Subscript (.Name y bM) k b_] e pos) (Ad i wk we):=⟨Qwb<|pj he.h (HQ (pv i hN hv hd bQ) hk.h CF ha) hs hw h1⟩
def QvM(i:Nat)(ho:ma X op ti)(hd:oQ ti rD)(hk:QE .P X E k wk)(he:QE .P X E e we)(hN:X.N[i]? = some y:=by rfl)(hv:iY X.env.scope y:=by first | exact QJ rfl | exact QU (QJ rfl) | exact QU<|QU rfl)(hdd:(y == ("__debug__" : Str))=false:=by decide)(bQ:(y == ("__classdict__" : Str))=false:=by decide)(ha:∀ov iv new,augStore k ov iv new=(do Xt [new,ov,iv] (XG ov iv new);release [new,ov,iv] [];pure .next):=by intros;rfl):QS X E (.AugAssign (.Subscript (.Name y bM) k cV) op e pos) (G0 i rD wk we):=⟨QrN hd<|QvU (pv i hN hv hdd bQ) hk.h QsL he.h (ma.len ho) CF ha⟩
def ze{tg iter:JO}{body:List Ze}{pos:Pos}{ix:List Nat}{wi:DI}{wg:DG}{wb:DS}(hp:v8 (Xg X.prog X.w) X.A X.env X.xe)(hc:X.calm=true)(hi:QI .D X E tg iter wi)(hg:QG ix X tg wg)(hb:ka X E body wb)(hs:∀x,Xo iter X.env x=pure x:=by intro _;rfl):QS X E (.For tg iter body [] pos) (yz wi wg wb):=⟨Qwh hp hc hi.h hg.h hb.h hs⟩
def CB(xX:∀e s1,Xh (Xg X.prog X.w) X.A (leaving X.env e) (λ_ s2=>Rx.aQ X.prog X.w X.outer X.H₀ X.s₀ E e s2) (λe' s2=>Rx.aQ X.prog X.w X.outer X.H₀ X.s₀ E e' s2) s1->X.xe e s1)(hm:X.mg x=some (.ref C))(q:JH X.K C Rx.cD "ValueError.__new__" = true)(ha:QE .P X E e0 we)(dt:X.stack=X.env::X.outer:=by rfl)(mP:X.env.frame=some X.env.locals:=by rfl)(hex:X.ex=[]:=by rfl)(hc:X.calm=true:=by rfl)(hg:Gl X x:=by rfl)(he:Xi [e0] X.env=[(false,eval e0 X.env)]:=by rfl)(hd:(x == ("__debug__" : Str))=false:=by decide):QS X E (.Raise (some<|.Call (.Name x np) [e0] [] XJ) none pos) (Rj C we):=⟨QnM<|Rx.zy xX dt mP hex hc hg hm q ha.h he hd⟩
def Ub(he:QE .P X E e we)(hs:Xw e none pos.line X.env=pure false:=by rfl):QS X E (.Expr e pos) (QBb we):=⟨QrL<|Zp he.h hs⟩
end
section
variable{P:QB}{w:Jf}{K:Qa}{mg:Str->Option Xc}{base:Xl}
def okQ{st:Ze}(fr:Bool)(F:iz K x qual st f fd)(S:Ya N ps<|QL st)(len:∀args R EX,fD args R EX->args.length=ps.length)
  (XL:∀(aj:Xc)(A:JF)(outer:List Env)(s:Xe)(H:Hp)(E:XK),ao k (A.deeper<|envOfC qual (QL st) s.heap.objs.size f aj) ->
   ∃wd,ka (bS aq P w K mg base N qual (QL st) f aj A outer s H E).jm E0 (ZS st) wd/\∀args R EX,fD args R EX->wd (qN fr R XF) (kg N args)):aI P w K mg base aq (k+1) f fd ps (Zz fr fD):=
 okD fr F S len λaj A outer s H E hr=>let ⟨wd,h,q⟩:=XL aj A outer s H E hr;⟨wd,h.h,q⟩
def QEW{st:Ze}(fr:Bool)(F:iz K x qual st f fd)(S:Ya N ps<|QL st)(len:∀args R EX,fD args R EX->args.length=ps.length)
  (XL:∀(aj:Xc)(A:JF)(outer:List Env)(s:Xe)(H:Hp)(E:XK),ao k (A.deeper<|envOfC qual (QL st) s.heap.objs.size f aj) ->
   ∃wd,ka (bS (Rx.aQ P w) P w K mg base N qual (QL st) f aj A outer s H E) E (ZS st) wd/\∀args R EX,fD args R EX->wd (qN fr R EX) (kg N args)):aI P w K mg base (Rx.aQ P w) (k+1) f fd ps (Zz fr fD):=
 QEX fr F S len λaj A outer s H E hr=>let ⟨wd,h,q⟩:=XL aj A outer s H E hr;⟨wd,h.h,q⟩
end
end Dl
namespace Rk
open L2 _root_.Rd Dl
def k_(d:Xd)(a b:Int):Bool:=match d with
 |.int i=>decide (a<=i)&&decide (i<=b)
 |_=>false
def Br(h1:a<=i)(h2:i<=b):k_ (.int i) a b=true:=by
 show(decide (a<=i)&&decide (i<=b))=true;rw[X1 h1,X1 h2];rfl
def QAJ(h:k_ d a b=true):∃i,d=.int i/\a<=i/\i<=b:=by
 cases d<;>first | (cases h;done) | skip
 rename_i i
 have h:=Qz.mp (h);exact⟨i,rfl,X2 h.1,X2 h.2⟩
def zt:DF:=λargs R _=>∃d a b,args=[.v d,.v<|.int a,.v<|.int b]/\R (.bool<|k_ d a b)
def Qso(ns:List Int):iS (ns.map Qr)=true:=Iq.mpr λd hd=>by
 obtain⟨i,_,rfl⟩:=Qq.mp hd;rfl
def QsY(xs:List Xd)(k:Int)(h:0<=k):Dl.cutD xs none (some k)=xs.take k.toNat:=by
 unfold Dl.cutD;obtain⟨j,rfl⟩:∃j:Nat,k=j:=⟨k.toNat,by omega⟩
 rw[HT.Vj,HT.QvA,List.drop_zero,Nat.sub_zero,QY];by_cases z:j<=xs.length
 ·rw[Pp z]
 ·rw[Nat.min_eq_right<|by omega,YX,U5<|by omega]
end Rk
namespace Rx
open PySem.Calls L2
section
variable{X:Cx}{e:JO}{st:Ze}{rest:List Ze}{pos:Pos}{te:TX}{t u:sX}
def QvT(he:wY X e te):Ee X (.Return (some e) pos) (λD σ H Ex=>te σ H D.rt Ex):=by
 intro XI s σ H D Ex I h;exact Kz<|ax (he XI s σ H _ _ I h) λv s1 ⟨x,H1,I1,r1,q1⟩=>⟨x,σ,H1,I1,r1,q1⟩
end
def RN(C:Xb)(m:Str)(sp:Sp)(ta:TE)(t:TA):TX:=λσ H Q Ex=>ta σ H λx H1=>∃a dx fs,x=.ref a/\H1 a=some (.ins C dx fs)/\fs.lookup m=none /\
 t σ H1 λvs H2=>sp (x::vs) H2 Q λcv _ H3=>∃D,cv=.ref D/\Ex D H3
section
variable{X:Cx}{k:Nat}{f C:Xb}{fd:Zs}{ps:List Str}{sp:Sp}{m:Str}{apos pos:Pos}{o e:JO}{es:List JO}{ta:TE}{t:TA}
def ON{Ex:Xb->Hp->Prop}(F:aI X.prog X.w X.K X.mg X.base (aQ X.prog X.w) k f fd ps sp)(hr:ao k X.A)(hb:Binds X.K fd ps [])(hex:X.ex=[])
  (I1:Inv X XI σ H1 s1)(r:ah vs us)(q:sp vs H1 Q λcv _ H2=>∃C,cv=.ref C/\Ex C H2) :
  Xh (Xg X.prog X.w) X.A (call (.ref f) us) (EP X XI σ Q) (XP X XI λσ1 C H1=>σ1=σ/\Ex C H1) s1:=by
 have hl:us.length=ps.length:=by rw[<- r.length];exact F.len _ _ _ _ q
 have yo:o7 s1 fd ⟨us,[]⟩ (ps.zip us):=by
  have z:=hb s1 us I1.bP (by rw[JW];exact hl);rw[JW] at z;exact z
 refine rq<|YN (F.run X.A X.stack s1 H1 ⟨us,[]⟩ us vs Q _ hr I1.lD yo r q) λr s2 hq=>?_;cases r with
 |error e=>
  obtain⟨C0,H2,⟨a,t',B,rfl,os,bare,fl,fa,fH,land⟩,C,eC,ex⟩:=hq;cases eC;refine⟨σ,C0,H2,a,t',B,rfl,fl,fH,?_,λp hp z=>?_,λh2 tk st up=>?_,rfl,ex⟩
  ·cases z:X.s₀.heap.get? a with
   |none=>rfl
   |some o=>
    obtain⟨o',e'⟩:=I1.base.there a o z (by rw[hex];simp);rw[fa] at e';cases e'
  ·have e':=(I1.pin p hp).1;rw[z,fa] at e';cases e'
  ·obtain⟨un,au⟩:=land h2 st up;exact I1.lJ os un au bare (λb z=>X5 z<|by simp)
 |ok fl=>
  cases fl with
  |ret u=>exact I1.after hq
  |next=>exact Q9 hq
  |brk=>exact Q9 hq
  |cont=>exact Q9 hq
def K7(he:PE X.jm o ta)(c:iM X.K C)(hm:iw X.K C m f)(F:aI X.prog X.w X.K X.mg X.base (aQ X.prog X.w) k f fd ps sp)(hr:ao k X.A)(hb:Binds X.K fd ps [])(hex:X.ex=[])(ha:PA X.jm (e::es) t)
  (gs:Xi (e::es) X.env=(false,eval e X.env)::Xi es X.env:=by rfl)(hpl:(Xq pos<|Xi es X.env).any (·.1)=false:=by rfl)
  (ht:eval (.Call (.Attribute o m apos) (e::es) [] pos) X.env=(do
   let ov <- eval o X.env
   Xu apos.atName
   let (f,first) <- Xt [ov] (XB ov m pl)
   XC pos f first (Xq pos<|Xi (e::es) X.env) (Xz pos<|Xy [] X.env)):=by rfl) :
  wY X (.Call (.Attribute o m apos) (e::es) [] pos) (RN C m sp ta t):=by
 intro XI s σ H Q Ex I h;refine Du (Xk (he XI s σ H _ (I.cQ _) h) (λu s1 ⟨x,H1,J1,rx,a,dx,fs,ex,ea,l,q⟩=>?_) λ_ _ z=>Q9 z) ht;subst ex;obtain rfl:u=JM a:=rx;have I1:=J1.a7;refine C5 I1 ea c hm l ?_
 refine Yj I.ok.mod.mM hm.kp (Xk (ha pos XI s1 σ H1 _ (I1.cQ _) q) (λus s2 ⟨vs,H2,J2,r,q2⟩=>?_) λ_ _ z=>Q9 z) gs hpl;have I2:=J2.a7;exact⟨I2.bP,ON (vs:=.ref a::vs) F hr hb hex I2 (.cons rfl r) q2⟩
end
end Rx
namespace Rk
def pC(h:n<=1000000):n<Xj:=JJ h (by decide)
end Rk
namespace L2
section
variable{X:Cx}
def WU:∀(l:List (Str×Tok)),ah ((l.map (·.1)).map V.str) (strValues l)
 |[]=>.nil
 |p::l=>.cons ⟨p.2,rfl⟩<|WU l
def WR:∀{ts:List Str}{us:List Xc},ah (ts.map V.str) us->∃l:List (Str×Tok),us=strValues l/\l.map (·.1)=ts
 |[],_,.nil=>⟨[],rfl,rfl⟩
 |t::ts,_,.cons ⟨u,e⟩ r=>by
  obtain⟨l,rfl,rfl⟩:=WR r;subst e;exact⟨(t,u)::l,rfl,rfl⟩
def split_le(x y:Str):(Z5 x y).length<=x.length+2:=by
 unfold Z5;split
 ·show 1<=_;omega
 ·split
  ·show 1<=_;omega
  ·rw[W3];have h1:=StrLaws.occ_length_le x y 0 x.length<|x.length+1;have h2:∀(oI:List Nat)(w a:Nat),(UG x w a oI).length=oI.length+1:=by
    intro oI;induction oI with
    |nil=>intro w a;rfl
    |cons c r ih=>intro w a;show(UG x w (c+w) r).length+1=_;rw[ih];rfl
   rw[h2];omega
def Qzm:V->List V->Hp->VK->Prop:=λx vs H Q=>∃z y,x=.str z/\vs=[.str y]/\(y.length == 0)=false/\z.length<=30000/\∀l H',ag H H'->H l=none->H' l=some (.lst<|(Z5 z y).map V.str)->Q (.ref l) H'
def VA:w4 X "str.split" Qzm:=by
 intro XI s σ H x vs v us Q I rx rv h;obtain⟨z,y,rfl,rfl,hy,hz,q⟩:=h;obtain⟨t,rfl⟩:=rx;obtain⟨u,rfl,ru⟩:=rv.one;obtain⟨t',rfl⟩:=ru;have hf:=I.au.fresh<|Qf _;have hlen:=split_le z y;have fin:∀(l:List (Str×Tok)) tk,l.map (·.1)=Z5 z y->EP X XI σ Q (.ref s.heap.objs.size) { s with heap:=s.heap.push { cls:=.type "list",data:=.seq (strValues l).toArray },toks:=tk }:=λl tk hl=>by
  refine⟨.ref s.heap.objs.size,upd H s.heap.objs.size<|.lst<|(Z5 z y).map V.str,I.laid (λb u e=>Qe _ e) (Qf _) ⟨?_,strValues l,0,?_,Qo _ rfl⟩,rfl,q _ _ (Jl hf) hf QC⟩
  ·rw[Qd];exact Ja (Rk.pC<|by omega)
  ·rw[<- hl];exact WU l
 have hzl:z.length<=Xj:=Ja (Rk.pC<|by omega);cases h1:(decide (z.length<y.length)||decide (WX z<WX y))
 ·cases jS:(QfU z y 0 z.length<|z.length+1).isEmpty
  ·have es:Z5 z y=Builtin.Str.partsBetween z (QfU z y 0 z.length<|z.length+1) y.length:=(XY<|ne_true_of_eq_false h1).trans<|XY<|ne_true_of_eq_false jS;refine nP Kw (By _ _ _) KU (Lg _ _) (meets_str_split_sep z y t t' h1 hy jS hzl (by rw[<- es];exact Ja<|Rk.pC<|by omega)) ?_
   rw[strsFrom_eq];exact fin (numbered s.toks _) _<|(numbered_texts _ _).trans es.symm
  ·exact nP Kw (By _ _ _) KU (Lg _ _) (meets_str_split_not_found z y t t' h1 hy jS)
    (fin [(z,t)] s.toks ((XY<|ne_true_of_eq_false h1).trans<|XZ jS).symm)
 ·exact nP Kw (By _ _ _) KU (Lg _ _) (meets_str_split_cannot_occur z y t t' h1)
   (fin [(z,t)] s.toks (XZ h1).symm)
def QCQ(K:Qa):V->List V->Hp->VK->Prop:=λx vs H Q=>∃sep p ts,x=.str sep/\vs=[.ref p]/\aA K H p ((ts:List Str).map V.str)/\tx sep ts=true/\Q (.str<|ZF sep ts) H
def ur:w4 X "str.join" (QCQ X.K):=by
 intro XI s σ H x vs v us Q I rx rv h;obtain⟨sep,p,ts,rfl,rfl,hp,au,q⟩:=h;obtain⟨t,rfl⟩:=rx;obtain⟨u,rfl,ru⟩:=rv.one;cases ru;obtain⟨its,AG,pl,hz⟩:=I.list hp;obtain⟨l,rfl,hl⟩:=WR AG;exact SC.join pl.isList hl au λt' k=>⟨.str<|ZF sep ts,H,I.tok k,⟨t',rfl⟩,q⟩
def QEQ(u:Nat):R2:=λx y H Q=>∃a b xs,x=.ref a/\y=.ref b/\H a=some (.lst xs)/\H b=some (.lst [])/\u<cLine/\Q (.bl (!xs.isEmpty)) H
def Qz3:aK X (Xm .NotEq) (QEQ X.A.units):=by
 intro XI s σ H x y v u Q I rx ry h;obtain⟨a,b,xs,rfl,rfl,ha,hb,hu,q⟩:=h;cases rx;cases ry;obtain⟨_,its,n,r1,e1⟩:=I.au a _ ha;obtain⟨_,hV,n2,r2,e2⟩:=I.au b _ hb;cases r2;have l1:s.heap.IsList a its.toArray:=⟨_,e1,rfl,_,rfl⟩;have l2:s.heap.IsList b #[]:=⟨_,e2,rfl,_,rfl⟩;cases r1 with
 |nil=>exact SeqAt.RcNeAt.lists (e:=λ_=>true) l1 l2 rfl hu (λj h1 h2=>X5 h2<|Kx j) _ _ _ _ ⟨.bl _,H,I,rfl,q⟩
 |cons _ _=>exact SeqAt.RcNeAt.lists_lengths l1 l2 (by simp) hu _ _ _ _ ⟨.bl _,H,I,rfl,q⟩
end
section
variable{κ:Type}[DecidableEq κ]
def il(kvs:List (κ×V))(k:κ):Option V:=(kvs.find? λkv=>decide (kv.1=k)).map (·.2)
def qL(kvs:List (κ×V))(k:κ)(v:V):List (κ×V):=
 if(kvs.any λkv=>decide (kv.1=k))=true then kvs.map (λkv=>if kv.1=k then(kv.1,v) else kv) else kvs++[(k,v)]
def V6{k:κ}(e:p.1=k):il (p::r) k=some p.2:=by simp[il,e]
def V5{k:κ}(e:¬p.1=k):il (p::r) k=il r k:=by simp[il,e]
def QjB(kvs:List (κ×V))(k:κ)(v:V):(qL kvs k v).length<=kvs.length+1:=by
 unfold qL;split
 ·rw[Qd];omega
 ·rw[Qg,Qw,O_];omega
def cY.fW(r:cY o u):o.isSome=u.isSome:=by
 cases o with
 |none=>cases u with
  |none=>rfl
  |some _=>exact(r).elim
 |some _=>cases u with
  |none=>exact(r).elim
  |some _=>rfl
def KV.val(r:KV kvs vs)(k:κ):cY (il kvs k) (valueAt vs k):=by
 induction r with
 |nil=>exact Jn
 |@cons p q ps qs h t ih=>
  obtain⟨h1,h2⟩:=h;by_cases e:p.1=k
  ·have e':=h1.symm.trans e;have b:valueAt (q::qs) k=some q.2:=by simp[valueAt,e']
   rw[V6 e,b];exact h2
  ·have e':¬q.1=k:=λz=>e<|h1.trans z
   have b:valueAt (q::qs) k=valueAt qs k:=by simp[valueAt,e']
   rw[V5 e,b];exact ih
def KV.any(r:KV kvs vs)(k:κ):(kvs.any λkv=>decide (kv.1=k))=vs.any λkv=>decide (kv.1=k):=by
 induction r with
 |nil=>rfl
 |cons h t ih=>rw[wN,wN,ih,h.1]
def KV.ED(r:KV kvs vs)(k:κ)(ry:RelV y u) :
  KV (kvs.map λkv=>if kv.1=k then(kv.1,y) else kv) (vs.map λkv=>if kv.1=k then(kv.1,u) else kv):=by
 induction r with
 |nil=>exact .nil
 |@cons p q ps qs h t ih=>
  rw[Yc,Yc];refine .cons ?_ ih
  obtain⟨h1,h2⟩:=h;by_cases e:p.1=k
  ·rw[XZ e,XZ<|h1.symm.trans e];exact⟨h1,ry⟩
  ·rw[XY e,XY λz=>e<|h1.trans z];exact⟨h1,h2⟩
def KV.put{kvs:List (κ×V)}{vs:List (κ×Xc)}(r:KV kvs vs)(k:κ){y:V}{u:Xc}(ry:RelV y u):KV (qL kvs k y) (stored vs k u):=by
 unfold qL stored;rw[r.any k];by_cases e:(vs.any λkv=>decide (kv.1=k))=true
 ·rw[XZ e,XZ e];exact r.ED k ry
 ·rw[XY e,XY e];exact Paired.snoc r ⟨rfl,ry⟩
end
def Bs(r:RelV (kV k) u):(aE P w).is k u=true:=by
 cases k with
 |inl i=>obtain⟨t,e⟩:=(r);subst e;exact Qjw P w i t
 |inr x=>obtain⟨t,e⟩:=(r);subst e;exact z_ P w x t
def Wg:∀{ks:List Key}{us:List Xc},ah (ks.map kV) us->ItemsAre (aE P w) ks us
 |[],_,r=>by rw[Ck] at r;cases r;exact .nil
 |k::ks,_,r=>by
  cases r with
  |cons h t=>exact .cons (Bs h)<|Wg t
abbrev KT (H:Hp):List (List Key×V)->List (List Key×Xb×Xc)->Prop:=Zy λp q=>p.1=q.1/\H q.2.1=some (.tup<|p.1.map kV)/\RelV p.2 q.2.2
def KT.val(r:KT H kvs xs)(k:List Key):cY (il kvs k) ((atKey xs k).map (·.2)):=by
 induction r with
 |nil=>exact Jn
 |@cons p q ps qs h t ih=>
  obtain⟨h1,_,h2⟩:=h;by_cases e:p.1=k
  ·have e':=h1.symm.trans e;have b:atKey (q::qs) k=some q.2:=by simp[atKey,e']
   rw[V6 e,b];exact h2
  ·have e':¬q.1=k:=λz=>e<|h1.trans z
   have b:atKey (q::qs) k=atKey qs k:=by simp[atKey,e']
   rw[V5 e,b];exact ih
section
variable{P:QB}{w:Jf}{H:Hp}{h:Xl}{a:Xb}
def OM(ok:cz P w H h)(e:Rd H a u):aO P w H h a u:=e.ok ok
def Bq(ok:cz P w H h)(e:Rd H a<|.dK kvs):kvs.length<=Xj/\(a == Xv)=false/\∃vs,KV kvs vs/\h.DictOf (aE P w) a vs:=
 OM ok e
def QDE(ok:cz P w H h)(e:H a=some (.dK kvs)):kvs.length<=Xj/\(a == Xv)=false/\∃vs,KV kvs vs/\h.DictOf (aE P w) a vs:=Bq ok<|.inl e
def IW(ok:cz P w H h)(e:H a=some (.tup<|ks.map kV)):(XE<|aE P w).is h ks a:=by
 obtain⟨_,its,r,o,h1,h2,_,n,h3⟩:=(ok a _ e);exact⟨o,its.toArray,n,h1,h2,h3,by simpa using Wg r⟩
def G4(ok:cz P w H h)(e:Rd H a<|.dT kvs):kvs.length<=Xj/\(a == Xv)=false /\
  ∃xs,KT H kvs xs/\h.DictOfH (XE<|aE P w) a xs:=by
 obtain⟨z,y,xs,r,o,es,ep,h1,h2,h3,h4,h5⟩:=(OM ok e);refine⟨z,y,xs,r,o,es,ep,h1,h2,h3,h4,λx hx=>?_,h5⟩;have all:∀{l:List (List Key×V)}{m:List (List Key×Xb×Xc)},KT H l m->∀x∈m,(XE<|aE P w).is h x.1 x.2.1:=by
  intro l m q;induction q with
  |nil=>intro x hx;exact nomatch hx
  |@cons p q ps qs hq t ih=>
   intro x hx;rcases Qv.mp hx with e | hx
   ·subst e;exact IW ok (by rw[<- hq.1];exact hq.2.1)
   ·exact ih x hx
 exact all r x hx
end
def fQ(H:Hp)(a:Xb)(y:V)(r:Option V):Prop:=
 (∃kvs k,Rd H a (.dK kvs)/\y=kV k/\r=il kvs k)∨∃kvs k b,Rd H a (.dT kvs)/\y=.ref b/\H b=some (.tup<|k.map kV)/\r=il kvs k
def fQ.k{k:Key}(e:H a=some (.dK kvs)):fQ H a (kV k) (il kvs k):=.inl ⟨kvs,k,.inl e,rfl,rfl⟩
section
variable{X:Cx}{XI:List (Xb×Xp)}{σ:St}{H:Hp}{s:Xe}{a:Xb}{y v:V}{u r:Xc}{o:Option V}{A:JF}{E:Xc->Xe->Prop}
def Inv.big(I:Inv X XI σ H s):Xv<s.heap.objs.size:=by
 have h:=(I.mod.glob.keeps I.bk).lt;exact Nat.lt_trans (by decide) h
def QoP(hu:A.units+1<cLine)(I:Inv X XI σ H s)(g:fQ H a y<|some v)(ry:RelV y u)(h:∀w' s',Inv X XI σ H s'->RelV v w'->Q w' s') :
  Xh (Xg X.prog X.w) A (XA (.ref a) u) Q E s:=by
 rcases g with⟨kvs,k,e,ey,l⟩ | ⟨kvs,k,b,e,ey,eb,l⟩
 ·subst ey;obtain⟨z,hd,vs,rel,dd⟩:=Bq I.au e;obtain⟨w',hw,g8⟩:=cY.some_of (by rw[l];exact rel.val k);exact wpAny_getItem_of (Bs ry) dd.mapOf hw<|h w' _ (I.tok _) g8
 ·subst ey;cases(ry);obtain⟨z,hd,xs,rel,dd⟩:=G4 I.au e;obtain⟨w',hw,g8⟩:=cY.some_of (by rw[l];exact rel.val k);obtain⟨p,hp,hp2⟩:=Jk.mp hw;refine wpAny_getItem_heap (QBD hu) (IW I.au eb) dd hp ?_
  rw[hp2];exact h w' _ (I.tok _) g8
def QxN(I:Inv X XI σ H s)(mu:wZ<|H a)(hs:Yy a s.heap h')(he:∃q,h'.get? a=some q)(new:aO X.prog X.w (upd H a ob) h' a ob) :
  Inv X XI σ (upd H a ob) { s with heap:=h',toks:=t' }:=
 I.write mu (.inl rfl) (λb q hb z=>(hs.2 b hb).trans z) he new
def QAV(z:kvs.length<=Xj)(hd:(a == Xv)=false)(rel:KV kvs vs)(dd:h'.DictOf (aE P w) a vs) :
  aO P w H' h' a (.dK kvs):=⟨z,hd,vs,rel,dd⟩
end
def Ml(i:JO):Prop:=∀ov iv,subscripted i false ov iv=operate [ov,iv] (XA ov iv)
def UT{id:String} 
  (hl:typeLookup (.type T) "__getitem__" = pure (some<|.builtin id))(hs:Ml slice)
  (h:Xh (Xg prog w) A (eval value env) (λo s₁=>Xh (Xg prog w) A (eval slice env) (λi s₂=>s₂.TypeIs o T/\Xh (Xg prog w) A (XA o i) Q E s₂) E s₁) E s) :
  Xh (Xg prog w) A (eval (.Subscript value slice pos) env) Q E s:=by
 refine MA<|Xk h (λo s₁ h₁=>Xk h₁ (λi s₂ h₂=>?_) λ_ _ x=>x) λ_ _ x=>x;obtain⟨hT,h₂⟩:=h₂;refine Xa ?_
 refine Xa<|Im hT hl ?_;have fin:Xh (Xg prog w) A (subscripted slice false o i) (λr s₃=>Xh (Xg prog w) A (letTemporaryGo value o r >>= λ_=>pure r) Q E s₃) E s₂:=by
  rw[hs o i];exact wpAny_operating<|Xk h₂ (λr s₃ h₃=>Xa<|wpAny_letTemporaryGo<|wpAny_pure h₃) λ_ _ x=>x
 first
  |exact wpAny_pure<|Xa fin
  |exact Xa<|wpAny_pure<|Xa fin
  |exact Xa fin
def QjJ(I:Inv X XI σ H s)(g:fQ H a y o):s.TypeIs (.ref a) "dict" := by
 rcases g with⟨kvs,k,e,_,_⟩ | ⟨kvs,k,b,e,_,_,_⟩
 ·obtain⟨_,_,vs,_,dd⟩:=Bq I.au e;exact dd.typeIs
 ·obtain⟨_,_,xs,_,dd⟩:=G4 I.au e;exact dd.typeIs
def QCH(td ty:TE):TE:=λσ H Q=>td σ H λx H1=>ty σ H1 λy H2=>∃a v,x=.ref a/\fQ H2 a y (some v)/\Q v H2
section
variable{X:Cx}{o i e value:JO}{pos pos' cV:Pos}{td ty tv:TE}
def Qv3(hu:X.A.units+1<cLine)(ho:PE X o td)(hi:PE X i ty)(hs:Ml i):PE X (.Subscript o i pos) (QCH td ty):=by
 intro XI s σ H Q I h;refine UT QgF.lookup hs<|ax (ho XI s σ H _ I h) λu s1 ⟨x,H1,I1,rx,q1⟩=>ax (hi XI s1 σ H1 _ I1 q1) λiv s2 ⟨y,H2,I2,ry,a,v,ex,g,q2⟩=>?_;subst ex;obtain rfl:u=JM a:=rx;exact⟨QjJ I2 g,QoP hu I2 g ry λw' s3 I3 g8=>⟨v,H2,I3,g8,q2⟩⟩
end
def QsT(h:Xl)(hb:Xv<h.objs.size):aO P w H (h.push { cls:=.type "dict",data:=.dict #[] }) h.objs.size (.dK []):=
 ⟨Q6 _,beq_eq_false_iff_ne.mpr<|ir<|Qy hb,[],.nil,U4 h⟩
def HX:List (TE×TE)->St->Hp->(List (V×V)->Hp->Prop)->Prop
 |[],_,H,Q=>Q [] H
 |(tk,tv)::r,σ,H,Q=>tk σ H λx H1=>tv σ H1 λy H2=>HX r σ H2 λps H3=>Q ((x,y)::ps) H3
abbrev VV:List (V×V)->List (Xc×Xc)->Prop:=Zy λp q=>RelV p.1 q.1/\RelV p.2 q.2
def Ef(X:Cx)(pos:Pos)(keys:List<|Option JO)(values:List JO)(rN:List (TE×TE)):Prop:=
 ∀(XI:List (Xb×Xp))(s:Xe)(σ:St)(H:Hp)(Q:List (V×V)->Hp->Prop),Inv X XI σ H s->HX rN σ H Q ->
  Xh (Xg X.prog X.w) X.A (evalPairs<|pairTrees keys values X.env pos) (λvs s'=>∃ps H',Inv X XI σ H' s'/\VV ps vs/\Q ps H') X.xe s
def QvV:Ef X pos [] [] []:=λXI s σ H Q I h=>pairTrees_nil_walk ⟨[],H,I,.nil,h⟩
def VM(hk:PE X k tk)(hv:PE X v tv)(hr:Ef X pos ks vs rN) :
  Ef X pos (some k::ks) (v::vs) ((tk,tv)::rN):=λXI s σ H Q I h=>
 pairTrees_cons_walk (ax (hk XI s σ H _ I h) λu s1 ⟨x,H1,I1,rx,q1⟩=>ax (hv XI s1 σ H1 _ I1 q1) λw2 s2 ⟨y,H2,I2,ry,q2⟩=>
  ax (hr XI s2 σ H2 _ I2 q2) λws s3 ⟨ps,H3,I3,rel,q3⟩=>⟨(x,y)::ps,H3,I3,.cons ⟨rx,ry⟩ rel,q3⟩)
def yV(kvs more:List (Key×V)):List (Key×V):=more.foldl (λacc kv=>qL acc kv.1 kv.2) kvs
def KV.merge:∀{more:List (Key×V)}{rs:List (Key×Xc)}{kvs:List (Key×V)}{vs:List (Key×Xc)},KV more rs->KV kvs vs->KV (yV kvs more) (merged vs rs):=by
 intro more rs kvs vs r;induction r generalizing kvs vs with
 |nil=>intro q;exact q
 |@cons p q ps qs h t ih=>
  intro r0;have e:KV (qL kvs p.1 p.2) (stored vs q.1 q.2):=by
   have:=r0.put p.1 h.2;rw[<- h.1];exact this
  exact ih e
def QdE:∀(more kvs:List (Key×V)),(yV kvs more).length<=kvs.length+more.length
 |[],kvs=>by show kvs.length<=kvs.length+0;omega
 |p::r,kvs=>by
  have h1:=QdE r<|qL kvs p.1 p.2;have h2:=QjB kvs p.1 p.2;show(yV (qL kvs p.1 p.2) r).length<=_;rw[Qw];omega
def XQ:∀{kvs:List (Key×V)}{ws:List (Xc×Xc)},VV (kvs.map λkv=>(kV kv.1,kv.2)) ws->∃rs,Carries (aE P w) ws rs/\KV kvs rs
 |[],_,r=>by rw[Ck] at r;cases r;exact⟨[],Jn,.nil⟩
 |p::kvs,_,r=>by
  cases r with
  |@cons a b as bs h t=>
   obtain⟨rs,c,q⟩:=XQ t;obtain⟨b1,b2⟩:=b;exact⟨(p.1,b2)::rs,⟨Bs h.1,rfl,c⟩,.cons ⟨rfl,h.2⟩ q⟩
def QCF(rN:List (TE×TE)):TE:=λσ H Q=>∀p,H p=none->HX rN σ (upd H p<|.dK []) λps H2=>H2 p=some (.dK [])/\∃kvs:List (Key×V),ps=kvs.map (λkv=>(kV kv.1,kv.2))/\kvs.length<=15/\Q (.ref p) (upd H2 p<|.dK<|yV [] kvs)
def Qv2(h:Ef X pos keys values rN)(ls:keys.all (·.isSome)=true)(hl:keys.length=values.length)(h0:keys≠[])
  (h15:keys.length<=15):PE X (.Dict keys values pos) (QCF rN):=by
 intro XI s σ H Q I q;have hn:=I.au.fresh<|Qf s.heap.objs.size;have I1:=I.laid (t':=s.toks) (λ_ _ q=>Qe _ q) (Qf _)<|QsT s.heap I.big;refine wpAny_Dict_walk (knd:=aE X.prog X.w) ls hl h0 h15<|ax (h XI _ σ _ _ I1<|q _ hn) λws s2 ⟨ps,H2,I2,rel,e,kvs,ep,lk,q2⟩=>?_;subst ep;obtain⟨rs,c,rk⟩:=XQ rel;obtain⟨z,hd,vs0,r0,dd⟩:=QDE I2.au e;cases r0;refine⟨rs,c,dd,λh' Oo hs=>⟨.ref s.heap.objs.size,_,?_,rfl,q2⟩⟩;have hz:(yV [] kvs).length<=Xj:=by
  have h1:=QdE kvs [];rw[O_] at h1;rw[ZE];omega
 have he:∃q,h'.get? s.heap.objs.size=some q:=let ⟨q,_,_,hq,_⟩:=Oo;⟨q,hq⟩
 exact QxN I2 (by rw[e];exact Jn) hs he<|QAV hz hd (rk.merge .nil) Oo
end L2




namespace L2
open PySem.Calls
structure BD (P:QB) (w:Jf) (K:Qa) (d:Xb) (vs:List (Key×Xc)):Prop where
 jw:∀h:Xl,K.In h->h.DictOf (aE P w) d vs
 Fe:(d == Xv)=false
section
variable{X:Cx}
def QES(P:QB)(w:Jf)(K:Qa)(neg:Bool):R2:=λx y H Q=>∃z d vs,x=.str z/\y=.ref d/\BD P w K d vs/\Q (.bl<|if neg then !(valueAt vs<|Z6 z).isSome else(valueAt vs<|Z6 z).isSome) H
def P2:aK X (Xm .In) (QES X.prog X.w X.K false):=by
 intro XI s σ H x y v u Q I rx ry h;obtain⟨z,d,vs,rfl,rfl,b,q⟩:=h;obtain⟨t,rfl⟩:=rx;cases(ry);exact wpAny_in_of (z_ X.prog X.w z t) b.Fe (b.jw _ I.bP).mapOf ⟨.bl _,H,I.tok _,rfl,q⟩
def QCE(P:QB)(w:Jf)(K:Qa)(td ty:TE):TE:=λσ H Q=>td σ H λx H1=>ty σ H1 λy H2=>∃d z vs f,x=.ref d/\y=.str z/\BD P w K d vs/\valueAt vs (Z6 z)=some (.ref f)/\Q (.ref f) H2
def Uq(ho:PE X o td)(hi:PE X i ty)(hs:Ml i):PE X (.Subscript o i pos) (QCE X.prog X.w X.K td ty):=by
 intro XI s σ H Q I h;refine UT QgF.lookup hs<|ax (ho XI s σ H _ I h) λu s1 ⟨x,H1,I1,rx,q1⟩=>ax (hi XI s1 σ H1 _ I1 q1) λiv s2 ⟨y,H2,I2,ry,d,z,vs,f,ex,ey,b,hf,q2⟩=>?_;subst ex;subst ey;obtain rfl:u=JM d:=rx;obtain⟨t,rfl⟩:=ry;exact⟨(b.jw _ I2.bP).typeIs,wpAny_getItem_of (z_ X.prog X.w z t) (b.jw _ I2.bP).mapOf hf ⟨.ref f,H2,I2.tok _,rfl,q2⟩⟩
def QE7(X:Cx)(f:Xb)(sp:Sp):Prop:=∃k fd ps,aI X.prog X.w X.K X.mg X.base (Rx.aQ X.prog X.w) k f fd ps sp/\ao k X.A/\Q7 X.K (.ref f)=true/\Binds X.K fd ps []
def QyV(M:Xb->Sp->Prop)(i:Nat)(E:XK)(t:TA):TE:=λσ H Q=>∃f sp,σ[i]? = some (some<|.ref f)/\M f sp/\t σ H λvs H1=>sp vs H1 Q E
def VI(hM:∀f sp,M f sp->QE7 X f sp)(hv:PE X (.Name x p)<|bV i)(hx:Y6 (Rx.aQ X.prog X.w) X E)(ha:PA X (e::es) t)
  (he:Xi (e::es) X.env=(false,eval e X.env)::Xi es X.env:=by rfl)(hpl:(Xq pos<|Xi es X.env).any (·.1)=false:=by rfl):PE X (.Call (.Name x p) (e::es) [] pos) (QyV M i E t):=by
 intro XI s σ H Q I h;obtain⟨f,sp,hi,mf,h⟩:=h;obtain⟨k,fd,ps,F,hr,hk,hb⟩:=hM f sp mf;refine ZD<|ax (hv XI s σ H (λv H1=>v=.ref f/\t σ H1 λvs H1=>sp vs H1 Q E) I ⟨_,hi,rfl,h⟩) λv s1 ⟨y,H1,I1,r1,ey,q1⟩=>?_;subst ey;cases(r1);refine Yj I.ok.mod.mM hk (ax (ha pos XI s1 σ H1 _ I1 q1) λus s2 ⟨vs,H2,I2,r,q⟩=>⟨I2.bP,?_⟩) he hpl;exact y_ F hr hb .nil hx I2 r (by rw[JW];exact q)
def Qem:aF X (.type "int") (λxs H Q=>∃z n,xs=[.str z]/\zP z=some n/\z.length<=640/\Q (.int n) H):=by
 intro XI s σ H xs us Q I r h;obtain⟨z,n,rfl,hz,hl,q⟩:=h;obtain⟨u,rfl,t,rfl⟩:=vals1 r;exact PySem.W.KIN.call_text hz hl ⟨.int n,H,I.tok _,⟨_,rfl⟩,q⟩
def M1(c:Str)(ta tb:TE):TE:=λσ H Q=>ta σ H λx H1=>∃i:Int,x=.int i/\i.natAbs.log2<1920/\(Qb<|toString i).length+c.length<=1000/\tb σ H1 λy H2=>∃k:Int,y=.int k/\k.natAbs.log2<1920/\(Qb<|toString k).length<=1000/\Q (.str<|Yl++Qb (toString i)++c++Qb (toString k)) H2
def QC1{a b:JO}{ta tb:TE}{c:Str}{j}{p1 pc p2 pos:Pos}(ha:PE X a ta)(hb:PE X b tb):PE X (.JoinedStr [.FormattedValue a (-1) none p1,.Constant (.str c) j pc,.FormattedValue b (-1) none p2] pos) (M1 c ta tb):=by
 intro XI s σ H Q I h;refine JoinedStr_many<|HS<|O8<|ax (ha XI s σ H _ I h) λu s1 ⟨x,H1,I1,rx,i,ex,hi,hli,q1⟩=>?_;subst ex;obtain⟨t,rfl⟩:=rx;refine P8 hi ?_
 have I2:=I1.tok<|s1.toks+1+1;have z0:Yl.length=0:=rfl;have ll:∀x y:Str,(x++y).length=x.length+y.length:=λx y=>by
  show(x++y).cps.size=_;rw[zU,LA];rfl
 refine⟨by rw[ll];exact Ja<|Rk.pC<|by omega,HS<|Tp ⟨?_,HS<|O8<|ax (hb XI _ σ H1 _ (I2.tok _) q1) λu s2 ⟨y,H2,I3,ry,k,ey,hk,hl,q2⟩=>?_⟩⟩
 ·rw[ll,ll];exact Ja (Rk.pC<|by omega)
 subst ey;obtain⟨t',rfl⟩:=ry;refine P8 hk ⟨?_,joinParts_nil ⟨.str _,H2,(I3.tok _).tok _,⟨_,rfl⟩,q2⟩ ?_⟩
 all_goals (rw[ll,ll,ll,z0];exact Ja<|Rk.pC<|by omega)
end
def vD(P:Params):List (Str×Tok×Xb)->List XH
 |[]=>[]
 |p::r=>⟨PyData.keyHash P p.1,.str p.1 p.2.1,.ref p.2.2⟩::vD P r
def DV(zs:List (Str×Tok×Xb)):List (Key×Xc):=zs.map λp=>(Z6 p.1,.ref p.2.2)
def VW:∀(zs:List (Str×Tok×Xb))(e:XH),e∈vD w.params zs->∃k,(aE P w).is k e.key=true/\e.hash=(aE P w).hash k
 |[],_,h=>nomatch h
 |p::r,e,h=>by
  rcases Qv.mp h with rfl | h
  ·exact⟨Z6 p.1,z_ P w p.1 p.2.1,rfl⟩
  ·exact VW r e h
def XS:∀zs:List (Str×Tok×Xb),Pairs (aE P w) (vD w.params zs) (DV zs)
 |[]=>.nil
 |p::r=>.cons (z_ P w p.1 p.2.1) rfl<|XS r
def QBm{K:Qa}(zs:List (Str×Tok×Xb))(h:K.lookup d=some ⟨.type "dict",none,.dict (vD w.params zs).toArray n,#[]⟩)(nd:(zs.map (·.1)).Nodup)(ns:(d == Xv)=false):BD P w K d (DV zs):=
 ⟨λhp X=>⟨_,_,_,X _ _ h,⟨rfl,rfl,rfl⟩,rfl,λe he=>VW zs e<|Yk.mp he,XS zs,by
  have e:(DV zs).map (·.1)=(zs.map (·.1)).map Z6:=by
   unfold DV;rw[Q4,Q4];rfl
  rw[e];exact W2 _ (λa b h z=>h<|O2 z) nd⟩,ns⟩
end L2
namespace Rx
open PySem.Calls L2
def QyR(ta:TE)(tb:TX):TX:=λσ H Q Ex=>ta σ H λx H1=>tb σ H1 (λy H2=>∀t H',ag H2 H'->H2 t=none->H' t=some (.tup [x,y])->Q (.ref t) H') Ex
def Qrx{x1}(ha:PE X.jm a ta)(hb:wY X b tb)(h1:Xi [a,b] X.env=(false,eval a X.env)::Xi [b] X.env:=by rfl)(h2:Xi [b] X.env=(false,eval b X.env)::Xi [] X.env:=by rfl) :
  wY X (.Tuple [a,b] x1 pos) (QyR ta tb):=by
 intro XI s σ H Q Ex I h;refine O5 ?_
 rw[h1];refine Dh<|Xk (ha XI s σ H _ (I.cQ _) h) (λu s1 ⟨x,H1,J1,r1,q1⟩=>?_) λ_ _ z=>Q9 z;have I1:=J1.a7;rw[h2];refine Dh<|Xk (hb XI s1 σ H1 _ _ I1 q1) (λv s2 ⟨y,H2,I2,r2,q2⟩=>(LB ⟨?_,?_⟩)) λ_ _ z=>z
 ·show 2<=Xj;rw[ZE];decide
 have hf:=I2.au.fresh<|Qf _;refine⟨.ref s2.heap.objs.size,upd H2 s2.heap.objs.size<|.tup [x,y],I2.laid (λb u e=>Qe _ e) (Qf _) ?_,rfl,q2 _ _ (Jl hf) hf QC⟩;exact⟨by show 2<=Xj;rw[ZE];decide,[u,v],.cons r1<|.cons r2 .nil,⟨_,Qo _ rfl,rfl,rfl,_,rfl⟩⟩
end Rx
namespace Dl
open L2 _root_.Rd Rk
structure Ei (wg:DG):Prop where h:∀d δ Q,wg d δ Q->wg d δ λδ'=>(∀(j:Nat) x,δ'[j]? = some x->(∃e,x=.v e)∨δ[j]? = some x)/\Q δ'
def QsJ(i:Nat):Ei (gN i):=⟨λd δ Q h=>⟨λj x e=>by
 by_cases z:j=i
 ·subst z;exact .inl ⟨d,bu e⟩
 ·rw[iL z] at e;exact .inr e,h⟩⟩
def Ts(hf:i8 cap ix=true)(hi:i∈ix):cap[i]? = some none:=by
 have:=JZ.mp hf i hi;split at this
 ·assumption
 ·cases this
def Cy(hf:i8 cap ix=true)(h:(eO cap δ)[i]? = some x)(hx:x≠.no):i∉ix:=λz=>by
 rcases Kn h with⟨_,e⟩ | ⟨j,hj,_⟩
 ·exact hx e
 ·rw[Ts hf z] at hj;cases hj
section
variable{K:Qa}{σ σ4:L2.St}{δ δ4:aU}{cap:List (Option Nat)}{ix:List Nat}{A1:Xb->Prop}{H3 H5 H6:Hp}
def PJ(hP:∀a,Yo σ δ a->A1 a)(hf:i8 cap ix=true)(j4:∀j,j∉ix->σ4[j]? = (dj cap σ)[j]?)(gk:∀(j:Nat) x,δ4[j]? = some x->(∃e,x=.v e)∨(eO cap δ)[j]? = some x)(h:Av (dr A1 cap σ δ H3) σ4 δ4 a):A1 a:=by
 rcases h with z | ⟨i,h1,h2⟩
 ·exact z
 ·refine(BR (cap:=cap) (H:=H3) hP).mp ?_
  rcases h2 with h2 | ⟨ds,h2⟩
  ·rcases gk i _ h2 with⟨e,z⟩ | z
   ·cases z
   ·exact .inr ⟨i,by rw[<- j4 i (Cy hf z nofun)];exact h1,.inl z⟩
  ·rcases gk i _ h2 with⟨e,z⟩ | z
   ·cases z
   ·exact .inr ⟨i,by rw[<- j4 i (Cy hf z nofun)];exact h1,.inr ⟨ds,z⟩⟩
def Qxw(hP:∀a,Yo σ δ a->A1 a)(hf:i8 cap ix=true)(j4:∀j,j∉ix->σ4[j]? = (dj cap σ)[j]?)(gk:∀(j:Nat) x,δ4[j]? = some x->(∃e,x=.v e)∨(eO cap δ)[j]? = some x)
  (ri:Rel K (dr A1 cap σ δ H6) (dj cap σ) H6<|eO cap δ)(r5:Rel K (dr A1 cap σ δ H3) σ4 H5 δ4)(kk:∀a o,¬A1 a->H5 a=some o->H6 a=some o):Rel K (dr A1 cap σ δ H6) σ4 H6 δ4 where
 len:=r5.len
 iX:=ri.iX
 cI:=ri.cI
 iF:=ri.iF
 kx:=ri.kx
 sl:=λi o x h1 h2=>by
  have iv:∀{a:Xb},Av (dr A1 cap σ δ H6) σ4 δ4 a->A1 a:=λ{a} z=>PJ hP hf j4 gk z
  rcases gk i x h2 with⟨d,rfl⟩ | hx
  ·obtain⟨v,e,q⟩:=r5.sl i o _ h1 h2;exact⟨v,e,q.mv (λa o n e=>kk a o (λz=>n<|.inl z) e) λa z=>.inl<|.inl<|iv z⟩
  ·by_cases hn:x=.no
   ·subst hn;trivial
   ·have h1':(dj cap σ)[i]? = some o:=by rw[<- j4 i (Cy hf hx hn)];exact h1
    have h:=ri.sl i o x h1' hx;cases x with
    |no=>trivial
    |v d=>obtain⟨v',e,q'⟩:=h;exact⟨v',e,q'.mv (λ_ _ _ e=>e) λa z=>.inl<|.inl<|iv z⟩
    |own ds=>obtain⟨l,xs,e,e2,q',f⟩:=h;exact⟨l,xs,e,e2,q'.mv (λ_ _ _ e=>e) λa z=>.inl<|.inl<|iv z,f⟩
    |pk ds=>obtain⟨l,xs,e,e2,q',f⟩:=h;exact⟨l,xs,e,e2,q'.mv (λ_ _ _ e=>e) λa z=>.inl<|.inl<|iv z,f⟩
    |cZ=>exact h
    |nZ=>exact h
 inj:=λi j a ds h1 h2 _=>by
  rcases gk i _ h1 with⟨e,z⟩ | z
  ·cases z
  ·rcases Kn z with⟨_,e⟩ | ⟨j,hj,e⟩
   ·cases e
   ·exfalso
    cases e2:δ[j]? with
    |none=>rw[e2] at e;cases e
    |some y=>rw[e2] at e;cases y<;>cases e
end
def Qp4{K:Qa}{T:aU->Prop}(yq:Ei wg)
  (hf:i8 cap ix=true)(rel:Rel K F σ H1 δ)(hA:∀a,Av F σ δ a->A1 a)(hN:∀a,A1 a->Av F σ δ a∨H1 a=none)(dm:∀a,A1 a->∃xs,H3 a=some (.lst xs))(kp:Kp σ δ H1 H3)(dx:DA A1 H3 x d)
  (h:wg d (eO cap δ) λδ4=>wt δ4 (λb=>if b=true then T δ4 else N) XF)
  (hT:∀σ4 δ4 H5,T δ4->Rel K (dr A1 cap σ δ H3) σ4 H5 δ4->Kp σ δ H3 H5->(∀j,j∉ix->σ4[j]? = (dj cap σ)[j]?)->σ4.length=(dj cap σ).length->(∀(j:Nat) x,δ4[j]? = some x->(∃e,x=.v e)∨(eO cap δ)[j]? = some x)->inner σ4 H5 kk)(hF:N->∀H5,Kp σ δ H3 H5->kk H5) :
  ku (dj cap σ) (tG ix K wg) (tT K E0 wt) inner x H3 kk:=by
 have ri:=HC (cap:=cap) rel hA hN dm kp;have iv:∀{a:Xb},Av (dr A1 cap σ δ H3) (dj cap σ) (eO cap δ) a->A1 a:=λ{a}=>(BR λa z=>hA a<|gX z).mp
 refine⟨dr A1 cap σ δ H3,eO cap δ,d,_,ri,dx.mv (λ_ _ _ e=>e) λa z=>.inl<|iv z,yq.h _ _ _ h,λδ4 ⟨g4,h4⟩ σ4 r4 iP l4 j4=>⟨Rg hf l4 j4,dr A1 cap σ δ H3,δ4,_,XF,r4,h4,λb hb H5 r5 sg=>?_,tu⟩⟩;have cB:∀{b:Xb},Yo σ4 δ4 b->Yo σ δ b:=λz=>IX r4 (λb o _ e1 e2=>by rw[e2] at e1;cases e1) z
 have K5:Kp σ δ H3 H5:=by
  refine⟨λb o n e=>sg.1 b o (λz=>n<|cB z) e,λb hb=>?_⟩;by_cases z:Yo σ4 δ4 b
  ·exact sg.2 b z
  ·obtain⟨n,e⟩:=kp.2 b hb;exact⟨n,sg.1 _ _ z e⟩
 exact nG hb (λz=>hT σ4 δ4 H5 z r5 K5 j4 l4 g4) λz=>hF z H5 K5
def QxG{K:Qa} 
  (xZ:A1 p)(hP:∀a,Yo σ δ a->A1 a)(FH:H1 p=none)(dH:¬Yo σ δ p)(lp:Lp σ δ A1 p H1 H5 acc)(hl:acc.length<Xj)(r5:Rel K (dr A1 cap σ δ H3) σ4 H5 δ4)(cB:∀b,Yo σ4 δ4 b->Yo σ δ b)
  (h:we δ4 G XF)(hk:∀e,G e->∀H',Lp σ δ A1 p H1 H' (acc++[e])->(∀b o,¬A1 b->H5 b=some o->H' b=some o)->kk H'):oR p (tX .D K E0 we) σ4 H5 kk:=by
 refine⟨dr A1 cap σ δ H3,δ4,G,XF,r5,h,λe he v H6 r6 p9 dv=>?_,tu⟩;have Fw:Kp σ δ H5 H6:=by
  refine⟨λb o n e=>p9.1 b o (λz=>n<|cB b z) e,λb hb=>?_⟩;by_cases z:Yo σ4 δ4 b
  ·exact p9.2 b z
  ·obtain⟨n,e⟩:=lp.kp.2 b hb;exact⟨n,p9.1 _ _ z e⟩
 obtain⟨k6,ys,e6,q6⟩:=lp.step hP dH Fw;have up:∀{b:Xb}{o:HO},¬A1 b->H6 b=some o->upd H6 p (.lst<|ys++[v]) b=some o:=λ{b o} n e=>by rw[QH λz=>n (by rw[z];exact xZ)];exact e
 refine⟨ys,e6,by rw[q6.length];exact hl,hk e he _ ⟨⟨λb o n e=>?_,λb hb=>?_⟩,ys++[v],QC,aG.app (q6.mv (λ_ _=>up) λa z=>.inl z)<|.cons (DA.mv dv (λa o n e=>up (λz=>n<|.inl z) e) λa z=>.inl<|.inl z) .nil⟩ λb o n e=>up n<|p9.1 b o (λz=>n<|hP b<|cB b z) e⟩
 ·rw[QH (λz=>by rw[z,FH] at e;cases e)];exact k6.1 b o n e
 ·rw[QH λz=>dH (by rw[<- z];exact hb)];exact k6.2 b hb
def GV:Nat:=1000000
@[irreducible] def Ah(aJ:List Xd)(jN:DG)(jM:DT)(we:DE)(δ4:aU)(acc:List Xd)(N:List Xd->Prop):Prop:=∃Jv:Nat->List Xd->Prop,Jv 0 acc /\
 (∀(j:Nat) bz d2,aJ[j]? = some d2->Jv j bz->bz.length<GV/\jN d2 δ4 λδ5=>jM δ5 (λb=>if b=true then we δ5 (λe=>Jv (j+1)<|bz++[e]) XF else Jv (j+1) bz) XF)/\∀bz,Jv aJ.length bz->N bz
@[irreducible] def BH(items:List Xd)(wg:DG)(wt:DT)(wi2:DI)(jN:DG)(jM:DT)(we:DE)(δ:aU)(Q:Xd->Prop):Prop:=∃Iv:Nat->List Xd->Prop,Iv 0 [] /\
 (∀(i:Nat) acc d,items[i]? = some d->Iv i acc->wg d δ λδ4=>wt δ4 (λb=>if b=true then wi2 δ4 (λaJ=>Ah aJ jN jM we δ4 acc<|Iv<|i+1) XF else Iv (i+1) acc) XF)/\∀acc,Iv items.length acc->Q (.list acc)
def Ri(cap:List<|Option Nat)(wi:DI)(wg:DG)(wt:DT)(wi2:DI)(jN:DG)(jM:DT)(we:DE):DE:=λδ Q EX=>wi δ (λitems=>BH items wg wt wi2 jN jM we (eO cap δ) Q) EX
section
variable{X:Cx}{E:XK}
def Qsz:GV<=Xj:=QQ (by decide) tE
end
def QDs(G:Xd->Option Xd)(hl:acc.length+aJ.length<GV)
  (h:∀d∈aJ,∀(k1:Prop)(k2:Xd->Prop),(G d=none->k1)->(∀e,G d=some e->k2 e)->jN d δ4 λδ5=>jM δ5 (λb=>if b=true then we δ5 k2 XF else k1) XF)(q:N<|acc++aJ.filterMap G) :
  Ah aJ jN jM we δ4 acc N:=by
 unfold Ah;refine⟨λi bz=>bz=acc++(aJ.take i).filterMap G,by simp,λi bz d hd e=>?_,λbz e=>by rw[e,YX];exact q⟩;have e:=e;have hs:(aJ.take<|i+1).filterMap G=(aJ.take i).filterMap G++(G d).toList:=by
  rw[z8,hd];cases e2:G d<;>simp[e2]
 refine⟨?_,h d (Je hd) _ _ (λe2=>?_) λe' e2=>?_⟩
 ·have:=Mf G<|aJ.take i;have h2:(aJ.take i).length<=aJ.length:=by rw[Df];exact Pc _ _
  rw[e,Qg];omega
 ·show bz=acc++(aJ.take<|i+1).filterMap G;rw[hs,e2,e];simp
 ·show bz++[e']=acc++(aJ.take<|i+1).filterMap G;rw[hs,e2,e];simp
def K0:∀ms:List Int,aG A H (ms.map V.int) (ms.map .int)
 |[]=>.nil
 |m::ms=>.cons (.int m)<|K0 ms
def QoT{K:Qa}(hf:i8 cap ix=true)(σ:L2.St)(H:Hp)(Q:VK)(h:tX .F K E (jx cap wi wg wt we) σ H Q) :
  kQ cap (tI .P K E wi) (tG ix K wg) (tT K E0 wt) (tX .D K E0 we) σ H Q:=by
 obtain⟨F,δ,R,EX,rel,hw,k,o⟩:=h;refine⟨F,δ,_,EX,rel,hw,λitems hC J H1 aC bO ⟨ln,it⟩ p hp=>?_,o⟩;unfold oZ at hC;obtain⟨Iv,i0,step,fin⟩:=hC;have dH:¬Yo σ δ p:=λz=>by obtain⟨xs,e⟩:=aC.fc<|gX z;rw[hp] at e;cases e
 let A1:Xb->Prop:=λa=>Av F σ δ a∨a=p
 have hP:∀a,Yo σ δ a->A1 a:=λa z=>.inl<|gX z
 have hN:∀a,A1 a->Av F σ δ a∨H1 a=none:=λa z=>z.elim .inl λz=>.inr (by rw[z];exact hp)
 have ju:∀{H2:Hp},Kp σ δ H1 H2->(∃ys,H2 p=some (.lst ys))->∀a,A1 a->∃xs,H2 a=some (.lst xs):=λ{H2} k2 e2 a z=>by
  rcases z with z | z
  ·exact(aC.kp k2).fc z
  ·rw[z];exact e2
 refine q_ items.length (λi H2=>i<=items.length/\∃acc,Iv i acc/\acc.length<=i/\Lp σ δ A1 p H1 H2 acc) ⟨Q6 _,[],i0,Qf _,Kp.same aC<|Jl hp,[],QC,.nil⟩ (λi H2 hi ⟨_,acc,iv,hl,lp⟩=>?_) λH2 ⟨_,acc,iv,hl,lp⟩=>?_
 ·obtain⟨k2,ys,e2,q2⟩:=lp;obtain⟨go,_⟩:=it H2 A1 (λb o n e=>k2.1 b o n e) hN<|ju k2 ⟨ys,e2⟩;have hd:=Qc hi;obtain⟨g1,g2⟩:=go i _ hd;refine⟨g1,λx H3 y kk hk=>?_⟩;obtain⟨s3,dx⟩:=g2 x H3 y;have xT:=Kp.same (aC.kp k2) s3;have jn:=Lp.step hP dH ⟨k2,ys,e2,q2⟩ xT;refine UY hf aC (λa z=>.inl z) hN (ju jn.kp ⟨ys,s3 _ _ e2⟩) jn.kp dx (step i acc _ hd iv) (λσ4 δ4 H5 h5 r5 k5 cB=>?_) λh5 H5 k5=>hk _ ⟨hi,acc,h5,by omega,jn.step hP dH k5⟩
  exact Ry (.inr rfl) hP hp dH (jn.step hP dH k5) (by omega) r5 cB h5 λe he H' xQ=>hk _ ⟨hi,acc++[e],he,by rw[Qg];show _+1<=_;omega,xQ⟩
 ·obtain⟨k2,ys,e2,q2⟩:=lp;obtain⟨_,st⟩:=it H2 A1 (λb o n e=>k2.1 b o n e) hN<|ju k2 ⟨ys,e2⟩;refine⟨st,k _ (fin acc iv) (.ref p) H2 (aC.kp k2) (bO.trans k2) ⟨.lst (λz=>?_) e2<|q2.mv (λ_ _ _ e=>e) λa z=>.inl<|.inl z,λl e1 _=>?_⟩⟩
  ·obtain⟨xs,e⟩:=aC.fc z;rw[hp] at e;cases e
  ·cases e1;exact uj bO hp
def QEl{K:Qa}(σ:L2.St)(H:Hp)(Q:VK)(h:tX .D K E w σ H Q):tX .F K E w σ H Q:=by
 obtain⟨F,δ,R,EX,rel,hw,k,o⟩:=h;exact⟨F,δ,R,EX,rel,hw,λd hd v H' r kp vk=>k d hd v H' r kp vk.1,o⟩
section
variable{X:Cx}{E:XK}
def QvL(M:List Str)(cap:List<|Option Nat)(i:Nat)(hN:X.N.Nodup)(hi:QI .P X E tg iter wi)(hb:∀cl ex s3 H3 C,QG ix (bG X M scope cl ex s3 H3 C) tg wg/\wW (bG X M scope cl ex s3 H3 C) E0 ifs wt/\QE .D (bG X M scope cl ex s3 H3 C) E0 elt we)(oz:X.N[i]? = some y:=by rfl)(ou:X.env.scope.names.lookup y=some .local:=by rfl)(hc:X.calm=true:=by rfl)(ok:ny X.N X.env.scope M scope cap=true:=by rfl)(hf:i8 cap ix=true:=by rfl)(hs:∀x,Xo iter X.env x=pure x:=by intro _;rfl)(jR:Xw (.ListComp elt [⟨tg,iter,ifs,0⟩] scope pos) (some<|.Name y py) b_.line X.env=pure true:=by rfl):QS X E (.Assign [.Name y py] (.ListComp elt [⟨tg,iter,ifs,0⟩] scope pos) b_) (DQ i<|jx cap wi wg wt we):=
 ⟨IA<|PS.imp (PS.imp (Qru hN oz ou hc ok hi.h (λcl ex s3 H3 C=>⟨(hb cl ex s3 H3 C).1.h,(hb cl ex s3 H3 C).2.1.h,(hb cl ex s3 H3 C).2.2.h⟩) hs jR) λD σ H q=>QoT hf σ H _ q) λD σ H q=>QEl σ H _ q⟩
end
def Ql2{K:Qa}(yq:Ei wg)(hf:i8 cap ix=true)(jS:i8 cap vh=true)(hd:vh.all (λi => !ix.contains i)=true)(σ:L2.St)(H:Hp)(Q:VK)(h:tX .F K E (Ri cap wi wg wt wi2 jN jM we) σ H Q) :
  RM cap (tI .P K E wi) (tG ix K wg) (tT K E0 wt) (tI .D K E0 wi2) (tG vh K jN) (tT K E0 jM) (tX .D K E0 we) σ H Q:=by
 obtain⟨F,δ,R,EX,rel,hw,k,o⟩:=h;refine⟨F,δ,_,EX,rel,hw,λitems hC J H1 aC bO ⟨ln,it⟩ p hp=>?_,o⟩;unfold BH at hC;obtain⟨Iv,i0,step,fin⟩:=hC;have dH:¬Yo σ δ p:=λz=>by obtain⟨xs,e⟩:=aC.fc<|gX z;rw[hp] at e;cases e
 let A1:Xb->Prop:=λa=>Av F σ δ a∨a=p
 have hP:∀a,Yo σ δ a->A1 a:=λa z=>.inl<|gX z
 have hN:∀a,A1 a->Av F σ δ a∨H1 a=none:=λa z=>z.elim .inl λz=>.inr (by rw[z];exact hp)
 have ju:∀{H2:Hp},Kp σ δ H1 H2->(∃ys,H2 p=some (.lst ys))->∀a,A1 a->∃xs,H2 a=some (.lst xs):=λ{H2} k2 e2 a z=>by
  rcases z with z | z
  ·exact(aC.kp k2).fc z
  ·rw[z];exact e2
 refine q_ items.length (λi H2=>i<=items.length/\∃acc,Iv i acc/\Lp σ δ A1 p H1 H2 acc) ⟨Q6 _,[],i0,Kp.same aC<|Jl hp,[],QC,.nil⟩ (λi H2 hi ⟨_,acc,iv,lp⟩=>?_) λH2 ⟨_,acc,iv,lp⟩=>?_
 ·obtain⟨k2,ys,e2,q2⟩:=lp;obtain⟨go,_⟩:=it H2 A1 (λb o n e=>k2.1 b o n e) hN<|ju k2 ⟨ys,e2⟩;have fA:=Qc hi;obtain⟨g1,g2⟩:=go i _ fA;refine⟨g1,λx H3 y kk hk=>?_⟩;obtain⟨s3,dx⟩:=g2 x H3 y;have xT:=Kp.same (aC.kp k2) s3;have jn:=Lp.step hP dH ⟨k2,ys,e2,q2⟩ xT;refine Qp4 yq hf aC (λa z=>.inl z) hN (ju jn.kp ⟨ys,s3 _ _ e2⟩) jn.kp dx (step i acc _ fA iv) (λσ4 δ4 H5 h5 r5 k5 j4 l4 g4=>?_) λh5 H5 k5=>hk _ ⟨hi,acc,h5,jn.step hP dH k5⟩
  have av4:∀{H:Hp}{a:Xb},Av (dr A1 cap σ δ H) σ4 δ4 a->A1 a:=λ{H a} z=>PJ hP hf j4 g4 z
  refine⟨dr A1 cap σ δ H3,δ4,_,XF,r5,h5,λaJ hJ J2 H7 rel7 Fu ⟨ln2,p_⟩=>?_,tu⟩;unfold Ah at hJ;obtain⟨Jv,z0,xk,fin2⟩:=hJ;have xA:∀{b:Xb},Yo σ4 δ4 b->Yo σ δ b:=λ{b} z=>by
   obtain⟨j,z1,z2⟩:=z;rcases g4 j _ z2 with⟨e,z⟩ | z
   ·cases z
   ·exact ug ⟨j,by rw[<- j4 j (Cy hf z nofun)];exact z1,z⟩
  have NN:Kp σ δ H5 H7:=by
   refine⟨λb o n e=>Fu.1 b o (λz=>n<|xA z) e,λb hb=>?_⟩;by_cases z:Yo σ4 δ4 b
   ·exact Fu.2 b z
   ·obtain⟨n,e⟩:=k5.2 b hb;exact⟨n,Fu.1 _ _ z e⟩
  refine q_ aJ.length (λj H8=>j<=aJ.length/\∃bz,Jv j bz/\Lp σ δ A1 p H1 H8 bz/\∀b o,¬A1 b->H7 b=some o->H8 b=some o) ⟨Q6 _,acc,z0,(jn.step hP dH k5).step hP dH NN,λ_ _ _ e=>e⟩ (λj H8 hj ⟨_,bz,jv,p8,xv⟩=>?_) λH8 ⟨_,bz,jv,p8,xv⟩=>?_
  ·obtain⟨Ay,e8,q8⟩:=p8.at_;obtain⟨F8,_⟩:=p_ H8 A1 (λb o n e=>xv b o (λz=>n<|.inl z) e) (λb z=>.inl<|.inl z)<|ju p8.kp ⟨Ay,e8⟩;have hd2:=Qc hj;obtain⟨g3,g5⟩:=F8 j _ hd2;refine⟨g3,λx2 H9 y2 kk2 N1=>?_⟩;obtain⟨s9,dx2⟩:=g5 x2 H9 y2;have k89:=Kp.same (aC.kp p8.kp) s9;have xP:=p8.step hP dH k89;have ri:=HC (cap:=cap) aC (λa z=>.inl z) hN (ju xP.kp ⟨Ay,s9 _ _ e8⟩) xP.kp;have r9:=Qxw hP hf j4 g4 ri r5 λa o n e=>s9 _ _<|xv a o n<|NN.1 a o (λz=>n<|hP a z) e
   obtain⟨vp,hw2⟩:=xk j bz _ hd2 jv;refine⟨dr A1 cap σ δ H9,δ4,_,_,r9,dx2.mv (λ_ _ _ e=>e) λa z=>.inl<|av4 z,hw2,λδ5 h6 σ5 Np iE l5 j5=>⟨BE l5 λi v e=>?_,dr A1 cap σ δ H9,δ5,_,XF,Np,h6,λb hb Aj r11 sh=>?_,tu⟩⟩
   ·by_cases z:i∈vh
    ·have n1:i∉ix:=λz2=>by
      have:=JZ.mp hd i z;simp[z2] at this
     rw[j4 i n1] at e;rcases Ko e with⟨_,e2⟩ | ⟨j,vq,_⟩
     ·cases e2
     ·rw[Ts jS z] at vq;cases vq
    ·rw[j5 i z];exact e
   ·have cB:∀{b:Xb},Yo σ5 δ5 b->Yo σ δ b:=λz=>IX Np (λb o _ e1 e2=>by rw[e2] at e1;cases e1) z
    have MN:Kp σ δ H9 Aj:=by
     refine⟨λb o n e=>sh.1 b o (λz=>n<|cB z) e,λb hb=>?_⟩;by_cases z:Yo σ5 δ5 b
     ·exact sh.2 b z
     ·obtain⟨n,e⟩:=xP.kp.2 b hb;exact⟨n,sh.1 _ _ z e⟩
    have xw:=λb o n e=>MN.1 b o (λz=>n<|hP b z)<|s9 _ _<|xv b o n e
    exact nG hb (λz=>(QxG (.inr rfl) hP hp dH (xP.step hP dH MN) (QM vp Qsz) r11 (λb=>cB) z λe he H' xQ kk'=>N1 _ ⟨hj,bz++[e],he,xQ,λb o n e=>kk' b o n<|xw b o n e⟩)) λz=>N1 _ ⟨hj,bz,z,xP.step hP dH MN,xw⟩
  ·obtain⟨Ay,e8,q8⟩:=p8.at_;obtain⟨_,eY⟩:=p_ H8 A1 (λb o n e=>xv b o (λz=>n<|.inl z) e) (λb z=>.inl<|.inl z)<|ju p8.kp ⟨Ay,e8⟩;exact⟨eY,hk _ ⟨hi,bz,fin2 bz jv,p8⟩⟩
 ·obtain⟨k2,ys,e2,q2⟩:=lp;obtain⟨_,st⟩:=it H2 A1 (λb o n e=>k2.1 b o n e) hN<|ju k2 ⟨ys,e2⟩;refine⟨st,k _ (fin acc iv) (.ref p) H2 (aC.kp k2) (bO.trans k2) ⟨.lst (λz=>?_) e2<|q2.mv (λ_ _ _ e=>e) λa z=>.inl<|.inl z,λl e1 _=>?_⟩⟩
  ·obtain⟨xs,e⟩:=aC.fc z;rw[hp] at e;cases e
  ·cases e1;exact uj bO hp
section
variable{X:Cx}{E:XK}
def Qrs(M:List Str)(cap:List<|Option Nat)(i:Nat)(hN:X.N.Nodup)(yq:Ei wg)(hi:QI .P X E tg iter wi)(hb:∀cl ex s3 H3 C,QG ix (bG X M scope cl ex s3 H3 C) tg wg/\wW (bG X M scope cl ex s3 H3 C) E0 ifs wt/\QI .D (bG X M scope cl ex s3 H3 C) E0 jh aY wi2/\QG vh (bG X M scope cl ex s3 H3 C) jh jN/\wW (bG X M scope cl ex s3 H3 C) E0 dO jM/\QE .D (bG X M scope cl ex s3 H3 C) E0 elt we)(oz:X.N[i]? = some y:=by rfl)(ou:X.env.scope.names.lookup y=some .local:=by rfl)(hc:X.calm=true:=by rfl)(ok:ny X.N X.env.scope M scope cap=true:=by rfl)(hf:i8 cap ix=true:=by rfl)(jS:i8 cap vh=true:=by rfl)(hd:vh.all (λi => !ix.contains i)=true:=by rfl)(hs:∀x,Xo iter X.env x=pure x:=by intro _;rfl)(vj:∀env x,Xo aY env x=pure x:=by intro _ _;rfl)(jR:Xw (.ListComp elt [⟨tg,iter,ifs,0⟩,⟨jh,aY,dO,0⟩] scope pos) (some<|.Name y py) b_.line X.env=pure true:=by rfl):QS X E (.Assign [.Name y py] (.ListComp elt [⟨tg,iter,ifs,0⟩,⟨jh,aY,dO,0⟩] scope pos) b_) (DQ i<|Ri cap wi wg wt wi2 jN jM we):=
 ⟨IA<|PS.imp (PS.imp (W' hN oz ou hc ok hi.h (λcl ex s3 H3 C=>⟨(hb cl ex s3 H3 C).1.h,(hb cl ex s3 H3 C).2.1.h,(hb cl ex s3 H3 C).2.2.1.h,(hb cl ex s3 H3 C).2.2.2.1.h,(hb cl ex s3 H3 C).2.2.2.2.1.h,(hb cl ex s3 H3 C).2.2.2.2.2.h⟩) hs vj jR) λD σ H q=>Ql2 yq hf jS hd σ H _ q) λD σ H q=>QEl σ H _ q⟩
end
end Dl


namespace Dl
open L2 _root_.Rd Rk
def Yz(L:List (Int×Int)):iS (L.map Rk.pairD)=true:=Iq.mpr λd hd=>by
 obtain⟨i,_,rfl⟩:=Qq.mp hd;rfl
end Dl


namespace Dl
open L2 _root_.Rd Rk
def Nm:Xd->Nat
 |.int _=>0
 |.tuple _=>1
 |_=>2
def tj(i j:Int):Ordering:=if i<j then .lt else if i=j then .eq else .gt
def QE4(i j:Nat):Ordering:=if i<j then .lt else if i=j then .eq else .gt
def ax(o:Ordering)(p:Ordering):Ordering:=match o with
 |.eq=>p
 |o=>o
mutual
def m_:Xd->Xd->Ordering
 |.int i,.int j=>tj i j
 |.tuple a,.tuple b=>o3 a b
 |x,y=>QE4 (Nm x)<|Nm y
def o3:List Xd->List Xd->Ordering
 |[],[]=>.eq
 |[],_::_=>.lt
 |_::_,[]=>.gt
 |x::xs,y::ys=>ax (m_ x y)<|o3 xs ys
end
def xV:Ordering->Bool
 |.lt=>true
 |_=>false
def vf(x y:Xd):Bool:=xV<|m_ x y
end Dl
namespace L2
open PySem.Calls _root_.Rd _root_.Rk Rt
section
variable{X:Cx}
def Qnl(bs:List Bool):((QD bs.length).any λi=>(bs[i]?).getD false)=bs.any id:=by
 rw[JX,YY,YY];constructor
 ·rintro⟨i,hi,h⟩;have hl:=Jw.mp hi;rw[Qc hl] at h;exact⟨bs[i],Jz hl,h⟩
 ·rintro⟨b,hb,h⟩;obtain⟨i,hi⟩:=ZP.mp hb;exact⟨i,Jw.mpr (QX.mp hi).1,by rw[hi];exact h⟩
def Qs9:aF X (.builtin "any") (λxs H Q=>∃(p:Xb)(bs:List Bool),xs=[.ref p]/\aA X.K H p (bs.map V.bl)/\X.calm=true/\Q (.bl<|bs.any id) H):=by
 intro XI s σ H xs us Q I r h;obtain⟨p,bs,rfl,hp,hc,q⟩:=h;obtain⟨u,rfl,ru⟩:=vals1 r;cases ru;obtain⟨its,rv,pl,hz⟩:=I.list hp;have hl:=pl.isList;have hb:=U_ rv;have df:p<s.heap.objs.size:=by obtain⟨_,e,_⟩:=hl;exact Ql e
 refine call_any_walk<|C_ hl ?_;refine⟨s.heap.objs.size,[s.heap.objs.size,p],[s.heap.objs.size],its.toArray.size,_,_,λi=>(bs[i]?).getD false,rfl,Walks.list (A:=X.A.in1) (I.ok.hd hc) _ p (Qy df) its.toArray,
  ⟨⟨_,Qo _ rfl,rfl,rfl⟩,hl.push _⟩,λi v s' Q' E' hP hQ=>?_,λh' tk hk=>?_⟩
 ·obtain⟨b,e,rfl⟩:=hb.get i v (by simpa using hP);simp only[e] at hQ;exact JT hQ
 ·have e:((QD its.toArray.size).any λi=>(bs[i]?).getD false)=bs.any id:=by
   rw[Qk,hb.length];exact Qnl bs
  rw[e];exact⟨.bl _,H,I.kept<|QCn hk,rfl,q⟩
end
end L2
namespace Dl
open L2 _root_.Rd Rk Rt
def QBj:Xn "any" = some (.builtin "any"):=PyProof.Rows.boot_any
@[irreducible] def DK:List Xd->(Xd->Prop)->Prop
 |[.list ds],Q=>∃bs,wm ds=some bs/\Q (.bool<|bs.any id)
 |_,_=>False
def QBh{K:Qa}(hc:cm=true):iZ (λxs H Q=>∃(p:Xb)(bs:List Bool),xs=[.ref p]/\aA K H p (bs.map V.bl)/\cm=true/\Q (.bl<|bs.any id) H) DK:=λA P H vs ds R Q ln dm q h k=>by
 unfold DK at h;split at h
 ·obtain⟨v,rfl,hv⟩:=kW q;obtain⟨bs,hb,hR⟩:=h;rw[cj hb] at hv;obtain⟨l,xs,rfl,e,qq⟩:=hv.list;rw[QoN qq] at e;exact⟨l,bs,rfl,aA.of e,hc,k _ hR _ H (ag.refl H) (.bl _) i_⟩
 ·exact h.elim
def any_map(l:List α)(g:α->Bool):(l.map g).any id=l.any g:=by rw[zE];rfl
def Qx9{items:List Xd}(h:ds=[.list<|items.map λd=>.bool<|g d])(q:Q<|.bool<|items.any g):DK ds Q:=by
 subst h;unfold DK;refine⟨items.map g,?_,by rw[any_map];exact q⟩;rw[show items.map (λd=>rA<|g d)=(items.map g).map rA by rw[Q4];rfl,Qpa]
end Dl
namespace Rk
open L2 _root_.Rd Dl Rt
def Ab(h w:Int):Xd->Bool
 |.tuple [a,b]=>k_ a 0 (h - 1)&&k_ b 0 (w - 1)
 |_=>false
def QAF(q:Ab h w d=true):∃p:Int×Int,d=pairD p/\0<=p.1/\p.1<h/\0<=p.2/\p.2<w:=by
 cases d<;>first | (cases q;done) | skip
 rename_i ds
 match ds,q with
 |[a,b],q=>
  have q:=Qz.mp (q);obtain⟨i,rfl,i1,i2⟩:=QAJ q.1;obtain⟨j,rfl,j1,j2⟩:=QAJ q.2;exact⟨(i,j),rfl,i1,by omega,j1,by omega⟩
 |[],q=>cases q
 |[_],q=>cases q
 |_::_::_::_,q=>cases q
def QAE(h1:0<=p.1)(h2:p.1<h)(h3:0<=p.2)(h4:p.2<w):Ab h w (pairD p)=true:=by
 show(k_ (.int p.1) 0 (h - 1)&&k_ (.int p.2) 0 (w - 1))=true;rw[Br h1<|by omega,Br h3<|by omega];rfl
def fw:Xd->Int×Int
 |.tuple [.int a,.int b]=>(a,b)
 |_=>(0,0)
def eX(L:List (Int×Int)):Xd:=.tuple<|L.map pairD
def cu(p q:Int×Int):Prop:=p.1<q.1∨(p.1=q.1/\p.2<q.2)
instance AH (p q:Int×Int):Decidable (cu p q):=by unfold cu;exact inferInstance
def K_(p q:Int×Int):Q3 (pairD p) (pairD q)=decide (p=q):=by
 show((p.1 == q.1)&&((p.2 == q.2)&&true))=_;obtain⟨a,b⟩:=p;obtain⟨c,d⟩:=q;by_cases h1:a=c
 ·by_cases h2:b=d
  ·subst h1 h2;simp
  ·simp[h2]
 ·simp[h1]
def wL(cs:List (Int×Int))(p:Int×Int):((cs.map pairD).any λc=>Q3 c<|pairD p)=decide (p∈cs):=by
 rw[zE,JX,YY,decide_eq_true_iff];constructor
 ·rintro⟨c,hc,h⟩;have:=X2 (by rw[<- K_];exact h);rw[<- this];exact hc
 ·intro h;refine⟨p,h,?_⟩;show Q3 (pairD p) (pairD p)=true;rw[K_];simp
def cX(h w:Int)(cs:List (Int×Int)):Xd:=.tuple [.int h,.int w,.tuple<|cs.map pairD]
def P7:DF:=λargs R _=>∃(h w:Int)(d:Xd),args=[.v<|.int h,.v<|.int w,.v d]/\R (.bool<|Ab h w d)
def gG(r n:Nat)(f:Nat->Nat->Bool):List (Int×Int):=((QD n).filter<|f r).map λ(c:Nat)=>((r:Int),(c:Int))
def af(h w:Nat)(f:Nat->Nat->Bool):List (Int×Int):=(QD h).flatMap λr=>gG r w f
def Ea(f:Nat->Nat->Bool)(i j:Nat)(b:Bool):Nat->Nat->Bool:=λr c=>if r=i/\c=j then b else f r c
def L1(h w:Nat)(f:Nat->Nat->Bool):af (h+1) w f=af h w f++gG h w f:=by
 unfold af;rw[CT];simp
def zI:p∈gG r n f↔∃c:Nat,c<n/\f r c=true/\p=((r:Int),(c:Int)):=by
 unfold gG;rw[Qq];constructor
 ·rintro⟨c,hc,rfl⟩;have hc:=Q2.mp hc;exact⟨c,Jw.mp hc.1,hc.2,rfl⟩
 ·rintro⟨c,hc,hf,rfl⟩;exact⟨c,Q2.mpr ⟨Jw.mpr hc,hf⟩,rfl⟩
def JY:p∈af h w f↔∃r c:Nat,r<h/\c<w/\f r c=true/\p=((r:Int),(c:Int)):=by
 unfold af;rw[ZN];constructor
 ·rintro⟨r,hr,hp⟩;obtain⟨c,hc,hf,rfl⟩:=zI.mp hp;exact⟨r,c,Jw.mp hr,hc,hf,rfl⟩
 ·rintro⟨r,c,hr,hc,hf,rfl⟩;exact⟨r,Jw.mpr hr,zI.mpr ⟨c,hc,hf,rfl⟩⟩
def rC{h w:Nat}{f:Nat->Nat->Bool}{p:Int×Int}(q:p∈af h w f):0<=p.1/\p.1<h/\0<=p.2/\p.2<w:=by
 obtain⟨r,c,hr,hc,_,rfl⟩:=JY.mp q;exact⟨RY _,by omega,RY _,by omega⟩
def Vg(r n:Nat)(f:Nat->Nat->Bool):(gG r n f).length<=n:=by
 unfold gG;rw[Qd];exact QQ (Yv _ _) (by rw[QR];exact Qf _)
def wR(w:Nat)(f:Nat->Nat->Bool):∀h,(af h w f).length<=h*w
 |0=>Q6 _
 |h+1=>by
  have:=wR w f h;have:=Vg h w f;rw[L1,Qg,Cp];omega
def Qfs(r n:Nat)(f:Nat->Nat->Bool):(gG r n f).filter (λp=>decide (p.1=(r:Int)))=gG r n f:=List.filter_eq_self.mpr λp hp=>by
 obtain⟨c,_,_,rfl⟩:=zI.mp hp;exact X1 rfl
def Qft(h:r≠k)(f:Nat->Nat->Bool):(gG r n f).filter (λp=>decide (p.1=(k:Int)))=[]:=LW.mpr λp hp=>by
 obtain⟨c,_,_,rfl⟩:=zI.mp hp;rw[X0<|by omega];exact Qx
def XR(w k:Nat)(f:Nat->Nat->Bool):∀h,(af h w f).filter (λp=>decide (p.1=(k:Int)))=if k<h then gG k w f else[]
 |0=>rfl
 |h+1=>by
  rw[L1,List.filter_append,XR w k f h];by_cases z:k=h
  ·subst z;rw[XY<|by omega,Qfs,XZ<|by omega];rfl
  ·rw[Qft λe=>z e.symm,JW];by_cases z2:k<h
   ·rw[XZ z2,XZ<|by omega]
   ·rw[XY z2,XY<|by omega]
def QvR(r n:Nat)(f:Nat->Nat->Bool):(gG r n f).Pairwise cu:=by
 refine W2 (R:=λa b=>a<b) _ (λa b hab=>.inr ⟨rfl,by omega⟩) ?_
 exact J5 _ List.pairwise_lt_range
def aH(w:Nat)(f:Nat->Nat->Bool):∀h,(af h w f).Pairwise cu
 |0=>.nil
 |h+1=>by
  rw[L1];refine YJ.mpr ⟨aH w f h,QvR h w f,λp hp q hq=>?_⟩;obtain⟨r,c,hr,_,_,rfl⟩:=JY.mp hp;obtain⟨c',_,_,rfl⟩:=zI.mp hq;exact .inl (by omega)
def nJ(h:cu p q):p≠q:=λe=>by subst e;rcases h with z | z<;>omega
def jY(cs:List (Int×Int))(r:Int):List (Int×Int):=cs.filter λp=>decide (p.1=r)
def lR(cells L:List (Int×Int)):List (List (Int×Int)):=(cells.filter λc => !decide (c.2∈L.map (·.2))).map λc=>L++[c]
def fO(cs:List (Int×Int)):Nat->List (List (Int×Int))
 |0=>[[]]
 |i+1=>fO cs i++(fO cs i).flatMap (lR<|jY cs i)
def QsN(cells L:List (Int×Int)):(lR cells L).length<=cells.length:=by
 unfold lR;rw[Qd];exact Yv _ _
def Cv{f:α->List β}:∀{xs:List α},(∀x∈xs,(f x).length<=k)->(xs.flatMap f).length<=xs.length*k
 |[],_=>Q6 _
 |x::xs,h=>by
  have h1:=h x<|.head _;have h2:=Cv λy hy=>h y<|.tail _ hy
  rw[ZH,Qg,Qw,Cp];omega
def Vq(h:∀r,(jY cs r).length<=k):∀i,(fO cs i).length<=(k+1)^i
 |0=>Qf _
 |i+1=>by
  have h1:=Vq h i;have h2:=Cv (xs:=fO cs i) λL _=>QQ (QsN (jY cs i) L)<|h i
  show(fO cs i++(fO cs i).flatMap (lR<|jY cs i)).length<=_;rw[Qg,Nat.pow_succ,Nat.mul_add];have h3:=Tr k h1;omega
def rm:M∈lR cells L↔∃c∈cells,c.2∉L.map (·.2)/\M=L++[c]:=by
 unfold lR;rw[Qq];constructor
 ·rintro⟨c,hc,rfl⟩;have hc:=Q2.mp hc;exact⟨c,hc.1,by simpa using hc.2,rfl⟩
 ·rintro⟨c,hc,hn,rfl⟩;exact⟨c,Q2.mpr ⟨hc,by simpa using hn⟩,rfl⟩
def LG:∀i,∀L∈fO cs i,L.length<=i
 |0,L,h=>by rw[Qm.mp h];exact Qf _
 |i+1,L,h=>by
  rcases QV.mp (h) with z | z
  ·exact RG<|LG i L z
  ·obtain⟨M,hM,hL⟩:=ZN.mp z;obtain⟨c,_,_,rfl⟩:=rm.mp hL;have:=LG i M hM;rw[Qg];exact Nat.succ_le_succ this
def US(cs:List (Int×Int)):∀i,[]∈fO cs i
 |0=>.head _
 |i+1=>QV.mpr<|.inl<|US cs i
def Qx8(ns:List Int)(i:Int):((ns.map Qr).any λe=>Q3 e<|.int i)=decide (i∈ns):=by
 rw[zE,JX,YY,decide_eq_true_iff];constructor
 ·rintro⟨c,hc,h⟩;have:c=i:=by simpa [Q3] using h
  rw[<- this];exact hc
 ·intro h;refine⟨i,h,?_⟩;show(i == i)=true;simp
def Qjf(w h:Nat)(f:Nat->Nat->Bool)(r:Int):(jY (af h w f) r).length<=w:=by
 by_cases z:0<=r
 ·obtain⟨k,rfl⟩:∃k:Nat,r=k:=⟨r.toNat,by omega⟩
  unfold jY;rw[XR];split
  ·exact Vg _ _ _
  ·exact Q6 _
 ·have:jY (af h w f) r=[]:=LW.mpr λp hp e=>by
   have:=rC hp;have:=X2 e;omega
  rw[this];exact Q6 _
def yO:∀{xs:List α},(∀x∈xs,g x=if p x=true then some (k x) else none)->xs.filterMap g=(xs.filter p).map k
 |[],_=>rfl
 |x::xs,h=>by
  have ih:=yO λy hy=>h y<|.tail _ hy
  by_cases z:p x=true
  ·rw[List.filterMap_cons_some<|by rw[h x<|.head _,XZ z],ih,VZ z];rfl
  ·rw[List.filterMap_cons_none<|by rw[h x<|.head _,XY z],ih,LR z]
@[irreducible] def Bk:List Xd->(Xd->Prop)->Prop:=GX
def Qs8:iZ (λxs H Q=>∃i j,xs=[.int i,.int j]/\Q (.int<|if j<i then j else i) H) Bk:=by unfold Bk;exact QxY
def Qxf(e:(if j<i then j else i)=k)(h:Q<|.int k):Bk [.int i,.int j] Q:=by
 unfold Bk;show Q<|.int<|if j<i then j else i;rw[e];exact h
def Cw(g:Int×Int->Bool)(cs:List (Int×Int)):(cs.map pairD).filterMap (λd=>if g (fw d)=true then some d else none)=(cs.filter g).map pairD:=by
 rw[z4];exact yO λp _=>rfl
def QxF(L:List (Int×Int)):(L.map pairD).isEmpty=L.isEmpty:=by cases L<;>rfl
def QxV(G:Xd->List Xd)(k:Nat)(hl:(items.flatMap G).length<=k)
  (h:∀d∈items,∀(acc:List Xd)(N:List Xd->Prop),acc.length+(G d).length<=k->N (acc++G d)->wg d δ λδ4=>wt δ4 (λb=>if b=true then wi2 δ4 (λaJ=>Ah aJ jN jM we δ4 acc N) XF else N acc) XF)(q:Q<|.list<|items.flatMap G) :
  BH items wg wt wi2 jN jM we δ Q:=by
 unfold BH;refine⟨λi acc=>acc=(items.take i).flatMap G,by simp,λi acc d hd e=>?_,λacc e=>by rw[e,YX];exact q⟩;have e:=e;have hs:(items.take<|i+1).flatMap G=(items.take i).flatMap G++G d:=by
  rw[z8,hd];simp
 refine h d (Je hd) acc _ ?_ (by show acc++G d=_;rw[hs,e])
 have h1:(items.flatMap G).length=((items.take<|i+1).flatMap G).length+((items.drop<|i+1).flatMap G).length:=by
  rw[<- Qg,<- Tq,UM]
 rw[hs,<- e,Qg] at h1;omega
end Rk
namespace Rv
def QyY:isSubtype (.type "range_iterator") (.type "reversed")=pure false:=by rw[zO];kernel_rfl
section
variable{prog:QB}{w:Jf}{A:JF}{E:Xc->Xe->Prop}{s:Xe}
def qU(a b:Int):Xp:={ cls:=.type "range_iterator",data:=.fields #[rawInt<|a+(Zn a b 1 - 1)*1,rawInt<|Zn a b 1,rawInt<|-1] }
def Ql5(hr:IsRange s.heap r 0 j 1 t u v)(h0 : -1000<=j)(h1:j<=1000)
  (h:Q (.ref s.heap.objs.size) { s with heap:=s.heap.push (qU 0 j) }):Xh (Xg prog w) A (call (.builtin "range.__reversed__") [.ref r]) Q E s:=by
 refine Zk LL ⟨_,hr,rfl⟩ F.entry_range_reversed ?_<|F.args_range_reversed_1 _
 refine Xa<|ZM rfl ?_;refine Xa ?_
 refine Xa<|wo hr rfl rfl ?_;refine Xa<|ZM rfl ?_;refine Xa<|wo hr rfl rfl ?_;refine Xa<|ZM rfl ?_;refine Xa<|wo hr rfl rfl ?_;refine Xa<|ZM rfl ?_;refine wpAny_pure ?_
 dsimp only
 have hz:Zn 0 j 1=if 0<j then j else 0:=by rw[Hx];split<;>omega
 have vx:∀x:Int,-2000<=x->x<=2000->Ju x=true:=λx a b=>by
  unfold Ju;simp only[Jp,X4];omega
 have hs:(Ju 0&&Ju j&&Ju 1&&Ju (-1)&&Ju (0 - 1)&&Ju (Zn 0 j 1))=true:=by
  rw[vx 0 (by decide)<|by decide,vx j (by omega)<|by omega,vx 1 (by decide)<|by decide,vx (-1) (by decide)<|by decide,vx (0 - 1) (by decide)<|by decide,vx _ (by rw[hz];split<;>omega) (by rw[hz];split<;>omega)];rfl
 rw[hs];exact Xa<|Jt<|wpAny_pure ⟨_,rfl,h⟩
def Qtb(hr:IsRange s.heap r 0 j 1 t u v)(h0 : -1000<=j)(h1:j<=1000)
  (h:Q (.ref s.heap.objs.size) { s with heap:=s.heap.push (qU 0 j) }):Xs (Xg prog w) A (.call (.builtin "reversed.__new__") ⟨[.type "reversed",.ref r],[]⟩) (wants Q E) s:=by
 have hT:s.TypeIs (.ref r) "range" := ⟨_,hr,rfl⟩;refine Ik ?_
 refine Xa<|ZM (F.newCall_reversed_1 _)<|wpAny_pure ⟨uD F.plain_reversed_new _,Yf F.entry_reversed_new ?_⟩;refine Xa<|ZM (newClass_reversed _) ?_;refine Xa (ZM (by first | rfl | kernel_rfl) ?_);refine Xa (ZM (by first | rfl | kernel_rfl) ?_);refine Xa<|Im hT LL.lookup ?_;refine Xa<|ZM (LL.bind _) ?_
 try dsimp only
 first
 |rw[XY (Qx)]
 |(rw[XY<|show ¬((zY "range.__reversed__" == Zi)=true) from Qx])
 refine Xa<|wpAny_rule ?_;refine Xa<|Ql5 hr h0 h1 ?_
 first
 |exact wpAny_pure h
 |exact Xa<|wpAny_pure<|wpAny_pure h
def Qo7(hr:IsRange s.heap r 0 j 1 t u v)(h0 : -1000<=j)(h1:j<=1000)
  (h:Q (.ref s.heap.objs.size) { s with heap:=s.heap.push (qU 0 j) }):Xh (Xg prog w) A (call (.type "reversed") [.ref r]) Q E s:=by
 refine callType_other (Q₁:=λobj s₁=>obj=.ref s.heap.objs.size/\s₁={ s with heap:=s.heap.push (qU 0 j) }) (by decide) F.create_reversed ⟨_,_,F.mro_reversed⟩ F.made_reversed QyY (F.typeCall_reversed_1 _) (Qtb hr h0 h1 ⟨rfl,rfl⟩) ?_
 rintro obj s₁ ⟨rfl,rfl⟩;exact⟨⟨_,Qo _ rfl,rfl⟩,h⟩
end
end Rv
namespace L2
def MO(n:Nat):It:=⟨λi _=>i<n,λi H x H'=>H'=H/\x=.int ((n:Int) - 1 - i),λi _=>n<=i⟩
def QmJ{K:Qa}(it:Xb)(n:Nat):Turn P w K tg (MO n) [it] it (λi h=>GO h it ((n:Int) - 1+(i:Nat)*(-1)) ((n:Int) - (i:Nat))<|-1) where
 mem:=by simp
 obj:=λi h st b hb=>by
  have e:b=it:=by simpa using hb
  subst e;exact⟨_,st,λv z=>by
   have z':=z;cases z'⟩
 keep:=λi h h' st k=>k it (by simp) _ st
 item:=by
  intro X hP hw hK hc i XI s σ H E I hf st hg;subst hP hw hK;obtain⟨f0,f1,f2,f3,f4,f5⟩:=hf it (by simp);have W:=QCa (prog:=X.prog) (w:=X.w) (I.ok.hd hc) it (n - 1) (-1) n;refine W.item i s _ _ hg st λv h' tk hv bH kk=>?_
  obtain⟨t,rfl⟩:=hv;have I1:Inv X XI σ H { s with heap:=h',toks:=tk }:=I.turned (λb o hb e=>kk b o (by simpa using hb) e) f0 f1 f3 f4 f5;refine⟨_,rfl,yM bH rfl rfl (by decide) ⟨.int<|n - 1 - i,H,I1,⟨t,?_⟩,⟨rfl,rfl⟩,bH,λb hb=>(hf b hb).1⟩⟩;rw[show n - 1+i*(-1)=(n:Int) - 1 - i by omega]
 done:=by
  intro X hP hw hK hc i XI s σ H E I hf st hg;obtain⟨f0,f1,f2,f3,f4,f5⟩:=hf it (by simp);exact R5 (I.ok.hd hc) st (by have:n<=i:=hg;omega) λh' eb=>⟨rfl,I.turned (λb o hb e=>eb b o hb e) f0 f1 f3 f4 f5⟩
 self:=λ_ _ _ _ _ st h=>LN st h
def QDx(ta:TA):TI:=λσ H R=>ta σ H λvs H1=>∃(r:Xb)(j:Int),vs=[.ref r]/\H1 r=some (.rV 0 j) /\ -1000<=j/\j<=1000/\R (MO j.toNat) H1
section
variable{X:Cx}{tg:JO}
def QvX(hg:Gl X "reversed")(hm:X.mg "reversed" = none)(ha:PA X [a] ta)(hs:Xi [a] X.env=[(false,eval a X.env)]:=by rfl):PI X tg (.Call (.Name "reversed" p) [a] [] pos) (QDx ta):=by
 intro XI s σ H R I h;refine Call_<|ph I hg hm boot_reversed<|J4 (ax (ha pos XI s σ H _ I h) λus s1 ⟨vs,H1,I1,r1,q1⟩=>?_) hs rfl;obtain⟨r,j,e,hr,q1,q2,q⟩:=q1;subst e;obtain⟨u,rfl,ru⟩:=vals1 r1;cases(ru);obtain⟨t1,t2,t3,e⟩:=I1.au r _ hr;refine Rv.Qo7 (e) q1 q2 ?_
 have hz:Zn 0 j 1=(j.toNat:Int):=by rw[Hx];split<;>omega
 have NP:GO (s1.heap.push<|Rv.qU 0 j) s1.heap.objs.size ((j.toNat:Int) - 1+(0:Int)*(-1)) ((j.toNat:Int) - (0:Int)) (-1):=by
  have:=Qo (h:=s1.heap) (o:=Rv.qU 0 j) rfl;unfold Rv.qU at this;rw[hz,show 0+((j.toNat:Int) - 1)*1=(j.toNat:Int) - 1+(0:Int)*(-1) by omega] at this;rw[show(j.toNat:Int) - (0:Int)=(j.toNat:Int) by omega];unfold Rv.qU;rw[hz,show 0+((j.toNat:Int) - 1)*1=(j.toNat:Int) - 1+(0:Int)*(-1) by omega];exact this
 refine LN NP ?_
 refine⟨s1.heap.objs.size,[s1.heap.objs.size],_,_,H1,rfl,I1.kept λb o e=>Qe _ e,QmJ _ j.toNat,NP,λb hb=>?_,q⟩;have e:b=s1.heap.objs.size:=by simpa using hb
 subst e;exact I1.ib (Qf _)<|I1.au.fresh<|Qf _
end
section
variable{X:Cx}
def Vf:V->List V->Hp->VK->Prop:=λx vs H Q=>∃l xs y,x=.ref l/\vs=[.int 0,y]/\H l=some (.lst xs)/\xs.length<Xj/\Q .aL (upd H l<|.lst (y::xs))
def QlP:MM X "list.insert" Vf:=by
 intro XI s σ H x vs v us Q I rx rv h;obtain⟨l,xs,y,rfl,rfl,hH,hz,q⟩:=h;cases rx;cases rv with
 |cons r0 rv=>
  obtain⟨u,rfl,ru⟩:=ah.one rv;obtain⟨t,rfl⟩:=r0;obtain⟨z,its,n,r,hl,e⟩:=I.bF hH;refine nP F.slot_list_insert ⟨_,e,rfl⟩ F.entry_list_insert (F.args_list_insert_3 _ _ _) (AutoSeq1.list_insert_list_int_val_1 l its.toArray n 0 t u (by decide) (by rw[Qk];omega)) ⟨e,?_⟩;refine⟨.aL,_,I.sf hH e (by simp) (.cons ru r) ?_,rfl,q⟩;rw[Qw];omega
end
end L2
namespace Dl
open L2 _root_.Rd Rk
section
variable{X:Cx}{E:XK}{st:Ze}{i:Nat}{we:DE}
def vF(n:Nat):List Xd:=(QD n).map λ(i:Nat)=>.int<|(n:Int) - 1 - i
def CC(n:Nat):(vF n).length=n:=by unfold vF;rw[Qd,QR]
def KA{n i:Nat}{d:Xd}(h:(vF n)[i]? = some d):i<n/\d=.int ((n:Int) - 1 - i):=by
 unfold vF at h;rw[Qt] at h;by_cases z:i<n
 ·rw[JN z] at h;exact⟨z,(QF h).symm⟩
 ·rw[Jq (by rw[QR];omega)] at h;cases h
def QDG(w:DE):DI:=λδ Q EX=>w δ (λd=>match d with
 |.int j=>(-1000<=j/\j<=1000)/\Q (vF j.toNat)
 |_=>False) EX
def QDq(h:n<=Xj):Ag A S (MO n) (vF n) H1:=by
 refine⟨by rw[CC];exact h,λH2 A' _ _ _=>⟨λi d hd=>?_,?_⟩⟩
 ·obtain⟨hi,rfl⟩:=KA hd;refine⟨hi,λx H3 hy=>?_⟩;obtain⟨rfl,rfl⟩:=hy;exact⟨ag.refl _,.int _⟩
 ·rw[CC];exact Qf _
def T9{m:Md}{tg e:JO}{w:DE}{p p2 pos n8:Pos}(hg:Gl X "reversed")(hm:X.mg "reversed" = none)(yh:Gl X "range")(yd:X.mg "range" = none)(h:QE .P X E e w)(hs:notStar e=true:=by rfl):QI m X E tg (.Call (.Name "reversed" p) [.Call (.Name "range" p2) [e] [] n8] [] pos) (QDG w):=⟨by
 refine PI.imp (QvX hg hm<|a_ (Qry yh yd (a_ h.h Qp hs) (by rw[nN hs];rfl)) Qp) λσ H R _ ⟨F,δ,R',EX,rel,hw,k,o⟩=>?_
 refine⟨F,δ,_,EX,rel,hw,λd hd v H' ai kp vk=>?_,o⟩;cases d<;>first | exact(hd).elim | skip
 obtain⟨⟨h1,h2⟩,hR⟩:=hd;rw[DP.int vk];exact⟨_,rfl,λr H2 s2 n2 e2=>⟨r,_,rfl,e2,h1,h2,k _ hR _ H2 (ai.same s2) (kp.trans<|Kp.same ai s2)<|QDq<|Ja<|Rk.Zv<|by omega⟩⟩⟩
def My(i:Nat)(we:DE):DS:=λD δ=>match δ[i]? with
 |some (.own ds)=>we δ (λd=>ds.length<1000000/\D.nx (δ.set i<|.own (d::ds))) D.ex
 |_=>False
def Qwg(h:PS X st<|Bu<|Ew X.K "list" Vf (bV i)<|dX (tX .D X.K E<|dC<|.int 0)<|dX (tX .D X.K E we) fj):PS X st (tS X.K E<|My i we):=by
 refine PS.imp h λD σ H ⟨F,δ,DD,rel,hw,en⟩=>?_
 unfold My at hw;split at hw
 ·rename_i ds hd
  obtain⟨x,hx⟩:=rel.lt hd;obtain⟨l,xs,rfl,e,q,f⟩:=rel.sl i _ _ hx hd;have np:=rel.bo hd hx;refine⟨.ref l,hx,.inl ⟨rfl,_,aA.of e⟩,F,δ,(λd=>d=.int 0),DD.ex,rel,rfl,λd hd0 v0 H0 EF kp0 vk0=>?_,en.ex⟩;subst hd0;cases vk0;refine⟨F,δ,_,DD.ex,EF,hw,λd ⟨hl,hn⟩ v H' ai kp vk=>?_,en.ex⟩;have kk:=kp0.trans kp;have q':=kk.qA q;refine⟨l,xs,v,rfl,rfl,kk.1 _ _ np e,QM (by rw[q.length];exact hl) tE,?_⟩;obtain⟨r2,st⟩:=ai.mut hd hx<|.cons vk q';exact en.nx.go _ hn _ _ r2<|(bg.kp kk).trans st
 ·exact hw.elim
def Qzu{y:Str}{e e0:JO}{we:DE}{apos XJ pos bM:Pos}(i:Nat)(h0:QE .D X E e0<|dC<|.int 0)(he:QE .D X E e we)(hN:X.N[i]? = some y:=by rfl)(hv:iY X.env.scope y:=by first | exact QJ rfl | exact QU (QJ rfl) | exact QU<|QU rfl)(hd:(y == ("__debug__" : Str))=false:=by decide)(bQ:(y == ("__classdict__" : Str))=false:=by decide)(NW:notStar e0=true:=by rfl)(gs:notStar e=true:=by rfl)(fg:attributeBase (.Name y bM) "insert" X.env (eval (.Name y bM) X.env)=eval (.Name y bM) X.env:=by rfl)(lj:((Xq XJ<|Xi [e0,e] X.env).all (λx => !x.1)&&(Xz XJ<|Xy [] X.env).all (λx=>x.1.isSome)&&decide ([e0,e].length+([]:List tz).length+(if([]:List tz).isEmpty then 0 else 1)<30))=true:=by rfl)(fe:(apos.endLine == XJ.line)=true:=by rfl)(jR:Xw (.Call (.Attribute (.Name y bM) "insert" apos) [e0,e] [] XJ) none pos.line X.env=pure false:=by rfl):QS X E (.Expr (.Call (.Attribute (.Name y bM) "insert" apos) [e0,e] [] XJ) pos) (My i we):=⟨Qwg<|Zp (i6 JD PySem.F.slot_list_insert PySem.F.type_list_insert QlP (pv i hN hv hd bQ) (a_ h0.h (a_ he.h Qp gs) NW) fg lj fe (nN NW) (by rw[nN gs];rfl)) jR⟩
end
end Dl
namespace Rk
open L2 _root_.Rd Dl Rt
def oY(B:Nat->Nat->Int)(t:Nat):List Nat->Nat->Int
 |[],_=>0
 |c::cs,k=>(if t.testBit c=true then 0 else B (t ||| 2^c) k)+oY B t cs k
def LH(B:Nat->Nat->Int)(t c k:Nat):∀cs:List Nat,oY B t (cs++[c]) k=oY B t cs k+(if t.testBit c=true then 0 else B (t ||| 2^c) k)
 |[]=>by show _+0=0+_;omega
 |d::cs=>by
  show _+oY B t (cs++[c]) k=_+oY B t cs k+_;rw[LH B t c k cs];omega
def fi(h:Nat)(F:Nat->Int):List Xd:=(QD<|h+1).map λ(k:Nat)=>.int<|F k
def jD(h w:Nat)(B:Nat->Nat->Int):List Xd:=(QD (2^w)).map λ(t:Nat)=>.list<|fi h<|B t
def qT(B:Nat->Nat->Int)(cols:List Nat)(t k:Nat):Int:=B t k+if k=0 then 0 else oY B t cols<|k - 1
def oV(cs:List (Int×Int))(r:Nat):List Nat:=(jY cs r).map λp=>p.2.toNat
def Wc(cs:List (Int×Int))(h:Nat):Nat->Nat->Nat->Int
 |0,_,k=>if k=0 then 1 else 0
 |i+1,t,k=>qT (Wc cs h i) (oV cs<|h - 1 - i) t k
def jE(cs:List (Int×Int))(h w:Nat):Nat->List Xd
 |0=>[.list<|jD h w<|Wc cs h 0]
 |i+1=>.list (jD h w<|Wc cs h<|i+1)::jE cs h w i
def sZ(ns:List Nat):List Xd:=ns.map λ(c:Nat)=>.int (c:Int)
def ky(cs:List (Int×Int))(h w:Nat):List Xd:=(QD<|min h w+1).map λ(k:Nat)=>.int<|Wc cs h h 0 k
def GY:DF:=λargs R _=>∃(h w:Nat)(cs:List (Int×Int)),args=[.v<|cX h w cs]/\R (.int ((min h w:Nat):Int))
def Pl:DF:=λargs R _=>∃(h w:Nat)(B:Nat->Nat->Int)(cols:List Nat)(t:Nat),args=[.v<|.list<|jD h w B,.v<|.list<|sZ cols,.v<|.int t]/\t<2^w/\(∀c∈cols,c<w)/\h<=6/\w<=6/\R (.list<|fi h<|qT B cols t)
def He:DF:=λargs R _=>∃(h w:Nat)(cs:List (Int×Int)),args=[.v<|cX h w cs]/\h<=6/\w<=6/\(∀p∈cs,0<=p.2/\p.2<w)/\R (.list<|jE cs h w h)
def Cb:DF:=λargs R _=>∃(h w:Nat)(cs:List (Int×Int)),args=[.v<|cX h w cs]/\h<=6/\w<=6/\(∀p∈cs,0<=p.2/\p.2<w)/\R (.list<|ky cs h w)
def rf(hk:k<=h):(fi h F)[k]? = some (.int<|F k):=by
 unfold fi;rw[Qt,JN<|by omega];rfl
def wJ(h:Nat)(F:Nat->Int):(fi h F).length=h+1:=by unfold fi;rw[Qd,QR]
def zx(ht:t<2^w):(jD h w B)[t]? = some (.list<|fi h<|B t):=by
 unfold jD;rw[Qt,JN ht];rfl
def zQ(e:∀k,k<=h->F k=G k):fi h F=fi h G:=by
 refine Ly λk hk=>?_
 rw[e k (by have:=Jw.mp hk;omega)]
def Qrm(hj:j<=h):(fi h F).set j (.int v)=fi h (λk=>if k=j then v else F k):=by
 apply z6
 intro k;rw[Lm];by_cases z:j=k
 ·subst z;rw[XZ rfl,XZ (by rw[wJ];omega),rf hj,XZ rfl]
 ·rw[XY z];by_cases z2:k<=h
  ·rw[rf z2,rf z2,XY λe=>z e.symm]
  ·rw[Jq (by rw[wJ];omega),Jq (by rw[wJ];omega)]
def QsZ(xs:List Xd):Dl.cutD xs none (some<|-1)=xs.take (xs.length - 1):=by
 unfold Dl.cutD;rw[HT.Vj]
 congr 1
 have e:HT.aX xs.length xs.length (some<|-1)=((-1:Int)+xs.length).toNat:=by unfold HT.aX;dsimp only;rw[XZ<|by decide]
 omega
def Qx3:∀t:Fin 64,∀c:Fin 6,CL ((t:Nat):Int) (1*2^((c:Nat):Int).toNat)=if(t:Nat).testBit c=true then 2^(c:Nat) else 0:=by decide
def QBk:∀t:Fin 64,∀c:Fin 6,Kv ((t:Nat):Int) (1*2^((c:Nat):Int).toNat)=(((t:Nat) ||| 2^(c:Nat):Nat):Int):=by decide
def OW(ht:t<2^w)(hc:c<w):t ||| 2^c<2^w:=Nat.or_lt_two_pow ht (Nat.pow_lt_pow_right (by decide) hc)
def Qro(h:Nat)(F:Nat->Int):Dl.cutD (fi h F) none (some<|-1)=(QD h).map λ(k:Nat)=>Qr (F k):=by
 rw[QsZ,wJ];unfold fi;rw[<- QBH,LC,Pa,Pp<|Hs h]
def Qyb{t:Nat}(ht:t<2^w)(hc:c<w)(w6:w<=6):CL (t:Int) (1*2^((c:Nat):Int).toNat)=if t.testBit c=true then 2^c else 0:=by
 have qk:2^w<=2^6:=ZB (by decide) w6;exact Qx3 ⟨t,by have e:2^6=64:=rfl;omega⟩ ⟨c,by omega⟩
def Qz0{t:Nat}(ht:t<2^w)(hc:c<w)(w6:w<=6):Kv (t:Int) (1*2^((c:Nat):Int).toNat)=((t ||| 2^c:Nat):Int):=by
 have qk:2^w<=2^6:=ZB (by decide) w6;exact QBk ⟨t,by have e:2^6=64:=rfl;omega⟩ ⟨c,by omega⟩
def Ci(w:Nat):(1*2^((w:Nat):Int).toNat:Int)=((2^w:Nat):Int):=by
 simp
def QBe(cs:List (Int×Int))(r:Nat)(hb:∀p∈cs,0<=p.2):(cs.map pairD).filterMap (λd=>if(fw d).1=(r:Int) then some (.int (fw d).2) else none)=sZ (oV cs r):=by
 unfold sZ oV jY;rw[z4,Q4];refine yO λp hp=>?_
 show(if p.1=r then some (Qr p.2) else none)=if decide (p.1=r)=true then some (Qr (p.2.toNat:Int)) else none
 rw[show(p.2.toNat:Int)=p.2 by have:=hb p hp;omega];by_cases z:p.1=r
 ·rw[XZ z,XZ<|X1 z]
 ·rw[XY z,XY<|by simpa using z]
def QxR{cs:List (Int×Int)}{w r c:Nat}(hb:∀p∈cs,0<=p.2/\p.2<w)(h:c∈oV cs r):c<w:=by
 obtain⟨p,hp,rfl⟩:=Qq.mp h;have:=hb p (Q2.mp hp).1;omega
def V3(cs:List (Int×Int))(h w:Nat):∀i,(jE cs h w i).length=i+1
 |0=>rfl
 |i+1=>by show(jE cs h w i).length+1=_;rw[V3 cs h w i]
def IK(cs:List (Int×Int))(h w:Nat):∀i,(jE cs h w i)[0]? = some (.list<|jD h w<|Wc cs h i)
 |0=>rfl
 |_+1=>rfl
def Qrn(cs:List (Int×Int))(h t:Nat):fi h (Wc cs h 0 t)=Qr 1::Q8 h (.int 0):=by
 apply z6
 intro k;cases k with
 |zero=>rw[rf<|Q6 _];rfl
 |succ k=>
  by_cases z:k+1<=h
  ·rw[rf z,V0,Dx,XZ<|by omega];rfl
  ·rw[Jq (by rw[wJ];omega),V0,Dx,XY<|by omega]
def QvF(h:Nat):(Q8 h [Qr 0]).flatten=Q8 h (.int 0):=by
 induction h with
 |zero=>rfl
 |succ h ih=>rw[Yb,Ll,ih];rfl
def SM{w:Nat}(h:w<=6) : -1000000<=(1*2^((w:Nat):Int).toNat:Int)/\(1*2^((w:Nat):Int).toNat:Int)<=1000000:=by
 have Nv:=ZB (n:=2) (by decide) h;rw[Ci];generalize 2^w=x at Nv;omega
def sumZ{α:Type}(f:α->Int):List α->Int
 |[]=>0
 |x::xs=>f x+sumZ f xs
def KO(f:α->Int):∀a b:List α,sumZ f (a++b)=sumZ f a+sumZ f b
 |[],b=>by show _=0+_;rw[uA];rfl
 |x::a,b=>by show _+sumZ f (a++b)=_+sumZ f a+_;rw[KO f a b];omega
def WS(f:β->Int)(g:α->List β):∀a:List α,sumZ f (a.flatMap g)=sumZ (λx=>sumZ f<|g x) a
 |[]=>rfl
 |x::a=>by rw[ZH,KO,WS f g a];rfl
def YK:∀{a:List α},(∀x∈a,f x=g x)->sumZ f a=sumZ g a
 |[],_=>rfl
 |x::a,h=>by show f x+_=g x+_;rw[h x<|.head _,YK λy hy=>h y<|.tail _ hy]
def KN(f g:α->Int):∀a:List α,sumZ (λx=>f x+g x) a=sumZ f a+sumZ g a
 |[]=>rfl
 |x::a=>by show(f x+g x)+sumZ _ a=f x+sumZ f a+(g x+sumZ g a);rw[KN f g a];omega
def wQ(f:α->Int)(p:α->Bool):∀a:List α,sumZ f (a.filter p)=sumZ (λx=>if p x=true then f x else 0) a
 |[]=>rfl
 |x::a=>by
  by_cases z:p x=true
  ·rw[VZ z];show f x+_=(if p x=true then f x else 0)+_;rw[XZ z,wQ f p a]
  ·rw[LR z];show _=(if p x=true then f x else 0)+_;rw[XY z,wQ f p a,uA]
def Vr(f:β->Int)(g:α->β):∀a:List α,sumZ f (a.map g)=sumZ (λx=>f<|g x) a
 |[]=>rfl
 |x::a=>by show _+sumZ f (a.map g)=_+_;rw[Vr f g a]
def sumZ_zero:∀a:List α,sumZ (λ_=>0) a=0
 |[]=>rfl
 |x::a=>by show 0+sumZ _ a=0;rw[sumZ_zero a];rfl
def Qf9(p:α->Bool):∀a:List α,sumZ (λx=>if p x=true then 1 else 0) a=((a.countP p:Nat):Int)
 |[]=>rfl
 |x::a=>by
  show(if p x=true then 1 else 0)+_=_;rw[Qf9 p a];by_cases z:p x=true
  ·rw[XZ z,List.countP_cons_of_pos z];omega
  ·rw[XY z,List.countP_cons_of_neg z];omega
def LI(B:Nat->Nat->Int)(t k:Nat)(g:α->Nat):∀a:List α,oY B t (a.map g) k=sumZ (λx=>if t.testBit (g x)=true then 0 else B (t ||| 2^g x) k) a
 |[]=>rfl
 |x::a=>by show _+oY B t (a.map g) k=_+_;rw[LI B t k g a]
def dG(L:List (Int×Int)):Nat:=L.foldl (λt p=>t ||| 2^p.2.toNat) 0
def Cz(L:List (Int×Int))(p:Int×Int):dG (L++[p])=dG L ||| 2^p.2.toNat:=by
 unfold dG;rw[List.foldl_append];rfl
def U'(c:Nat):∀(L:List (Int×Int))(t:Nat),(L.foldl (λt p=>t ||| 2^p.2.toNat) t).testBit c=(t.testBit c||decide (c∈L.map λp=>p.2.toNat))
 |[],t=>by simp
 |p::L,t=>by
  rw[O9,U' c L,Nat.testBit_or,Nat.testBit_two_pow,Bool.or_assoc]
  congr 1
  rw[Yc,JX];simp only[Kh,X4,Qv];constructor
  ·rintro(z | z)
   ·exact .inl z.symm
   ·exact .inr z
  ·rintro(z | z)
   ·exact .inl z.symm
   ·exact .inr z
def B_(L:List (Int×Int))(c:Nat):(dG L).testBit c=decide (c∈L.map λp=>p.2.toNat):=by
 unfold dG;rw[U'];simp
def CI:∀i,∀L∈fO cs i,∀p∈L,p∈cs
 |0,L,h,p,hp=>by rw[Qm.mp h] at hp;cases hp
 |i+1,L,h,p,hp=>by
  rcases QV.mp (h) with z | z
  ·exact CI i L z p hp
  ·obtain⟨M,hM,hL⟩:=ZN.mp z;obtain⟨c,hc,_,rfl⟩:=rm.mp hL;rcases QV.mp hp with y | y
   ·exact CI i M hM p y
   ·rw[Qm.mp y];exact(Q2.mp hc).1
def Ip{L:List (Int×Int)}{c:Int×Int}(hL:∀p∈L,0<=p.2)(hc:0<=c.2):(c.2.toNat∈L.map λp=>p.2.toNat)↔c.2∈L.map (·.2):=by
 rw[Qq,Qq];constructor
 ·rintro⟨p,hp,e⟩;refine⟨p,hp,?_⟩;have:=hL p hp;have e:=e;omega
 ·rintro⟨p,hp,e⟩;exact⟨p,hp,by rw[e]⟩
def u6(cs:List (Int×Int))(h r k:Nat)(L:List (Int×Int)):Int:=if L.length<=k then Wc cs h (h - r) (dG L) (k - L.length) else 0
def Qp6(hr:r<h)(hb:∀p∈cs,0<=p.2)(hL:∀p∈L,p∈cs) :
  u6 cs h r k L=u6 cs h (r+1) k L+sumZ (u6 cs h (r+1) k) (lR (jY cs r) L):=by
 have e1:h - r=(h - (r+1))+1:=by omega
 have e2:h - 1 - (h - (r+1))=r:=by omega
 unfold lR;rw[Vr,wQ];unfold u6;rw[e1];by_cases z:L.length<=k
 ·rw[XZ z,XZ z];show qT (Wc cs h<|h - (r+1)) (oV cs<|h - 1 - (h - (r+1))) (dG L) (k - L.length)=_;rw[e2];unfold qT
  congr 1
  by_cases z2:k - L.length=0
  ·rw[XZ z2];refine(Eq.trans (YK λc hc=>?_)<|sumZ_zero _).symm;rw[Qg,XY (show ¬(L.length+[c].length<=k) by show ¬(L.length+1<=k);omega)];split<;>rfl
  ·rw[XY z2];unfold oV;rw[LI];refine YK λc hc=>?_
   have jT:=hb c (Q2.mp hc).1;rw[B_,Cz,Qg,XZ (show L.length+[c].length<=k by show L.length+1<=k;omega)];have em:=Ip (λp hp=>hb p<|hL p hp) jT;by_cases y:c.2∈L.map (·.2)
   ·rw[XZ<|X1<|em.mpr y,XY<|by simpa using y]
   ·rw[XY (by rw[X4];exact λq=>y<|em.mp q),XZ<|by simpa using y];show _=Wc cs h (h - (r+1)) _ (k - (L.length+1));rw[show k - L.length - 1=k - (L.length+1) by omega]
 ·rw[XY z,XY z,uA];refine(Eq.trans (YK λc hc=>?_)<|sumZ_zero _).symm;rw[Qg,XY<|show ¬(L.length+[c].length<=k) by omega];split<;>rfl
def V7(hb:∀p∈cs,0<=p.2):∀r,r<=h->sumZ (u6 cs h r k) (fO cs r)=Wc cs h h 0 k
 |0,_=>by
  show(if 0<=k then Wc cs h (h - 0) (dG []) (k - 0) else 0)+0=_;rw[zC];rfl
 |r+1,hr=>by
  rw[<- V7 hb r (by omega)];show sumZ _ (fO cs r++(fO cs r).flatMap (lR<|jY cs r))=_;rw[KO,WS,<- KN];exact(YK λL hL=>Qp6 (by omega) hb<|CI r L hL).symm
def Mt(cs:List (Int×Int))(h k:Nat):Int:=(((fO cs h).countP λL=>L.length == k:Nat):Int)
def Qs2(hb:∀p∈cs,0<=p.2)(k:Nat):Mt cs h k=Wc cs h h 0 k:=by
 rw[<- V7 hb h (Qf _)];unfold Mt;rw[<- Qf9];refine YK λL _=>?_
 unfold u6;rw[Nat.sub_self];show(if(L.length == k)=true then 1 else 0)=if L.length<=k then(if k - L.length=0 then 1 else 0) else 0
 by_cases z:L.length=k
 ·rw[XZ<|by simpa using z,XZ<|by omega,XZ<|by omega]
 ·rw[XY<|by simpa using z];by_cases z2:L.length<=k
  ·rw[XZ z2,XY<|by omega]
  ·rw[XY z2]
def K6:∀(w:Nat)(l:List Nat),l.Nodup->(∀x∈l,x<w)->l.length<=w
 |0,l,_,h=>by
  cases l with
  |nil=>exact Qf _
  |cons a l=>exact X5 (h a<|.head _)<|Kx _
 |w+1,l,nd,h=>by
  by_cases z:w∈l
  ·have h1:=K6 w (l.erase w) (nd.erase w) λx hx=>by
    have:=h x<|List.mem_of_mem_erase hx;have cO:x≠w:=λe=>by subst e;exact(List.Nodup.not_mem_erase nd) hx
    omega
   have h2:=List.length_erase_of_mem z;omega
  ·have h1:=K6 w l nd λx hx=>by
    have:=h x hx;have cO:x≠w:=λe=>by subst e;exact z hx
    omega
   omega
def IJ:∀i,∀L∈fO cs i,(L.map (·.2)).Nodup
 |0,L,h=>by rw[Qm.mp h];exact .nil
 |i+1,L,h=>by
  rcases QV.mp (h) with z | z
  ·exact IJ i L z
  ·obtain⟨M,hM,hL⟩:=ZN.mp z;obtain⟨c,_,hn,rfl⟩:=rm.mp hL;rw[JA];refine Z4.mpr ⟨IJ i M hM,by simp,λa h1 b h2 e=>?_⟩;have h2:b=c.2:=by simpa using h2
   rw[e,h2] at h1;exact hn h1
def QmU{cs:List (Int×Int)}{w:Nat}(hb:∀p∈cs,0<=p.2/\p.2<w)(h:L∈fO cs i):L.length<=w:=by
 have nd:=IJ i L h;have hs:=CI i L h;have h1:=K6 w (L.map λp=>p.2.toNat) ?_ λx hx=>?_
 ·rwa [Qd] at h1
 ·have e:(L.map λp=>p.2.toNat)=(L.map (·.2)).map Int.toNat:=by rw[Q4];rfl
  rw[e];refine z7.mpr<|Yw (λ{a b} ha dP cO hz=>cO ?_) nd;obtain⟨p,hp,rfl⟩:=Qq.mp ha;obtain⟨q,hq,rfl⟩:=Qq.mp dP;have:=hb p<|hs p hp;have:=hb q<|hs q hq;have hz:=hz;omega
 ·obtain⟨p,hp,rfl⟩:=Qq.mp hx;have:=hb p<|hs p hp;omega
def Qs5(hd:d∈ky cs h w):∃i,d=.int i:=by
 obtain⟨k,_,rfl⟩:=Qq.mp hd;exact⟨_,rfl⟩
def Qs4(cs:List (Int×Int))(h w:Nat):(ky cs h w).length=min h w+1:=by unfold ky;rw[Qd,QR]
end Rk


namespace L2
section
variable{X:Cx}
def OI(K:Qa):List V->Hp->VK->Prop:=λxs H Q=>∃(p:Xb)(ns:List Int),xs=[.ref p]/\aA K H p (ns.map V.int)/\0<ns.length/\∀m,m∈ns->(∀y∈ns,y<=m)->Q (.int m) H
def Qo4(hc:X.calm=true):aF X (.builtin "max") (OI X.K):=by
 intro XI s σ H xs us Q I r h;obtain⟨p,ns,rfl,hp,hn,q⟩:=h;obtain⟨u,rfl,ru⟩:=vals1 r;cases ru;obtain⟨its,rv,pl,hz⟩:=I.list hp;have hi:=intsAre_of rv;obtain⟨ys,hx⟩:=hi.allInts.items;have ow:=hx ▸ pl.isList;have vi:ys.size=ns.length:=by
  have h1:its.toArray.size=(intItems ys).size:=by rw[hx]
  rw[Qk,hi.length] at h1;simp[intItems] at h1;omega
 have num:∀j m,ns[j]? = some m->numAt ys j=m:=λj m e=>by
  obtain⟨w,hw,g8⟩:=rv.get (by rw[Qt,e];rfl);have h2:(intItems ys)[j]? = some w:=by rw[<- hx,UK];exact hw
  unfold intItems at h2;rw[Array.getElem?_map] at h2;obtain⟨y,hy,ey⟩:=Jk.mp h2;unfold numAt;rw[hy];subst ey;obtain⟨t,et⟩:=g8;cases et;rfl
 refine max_intList (I.ok.hd hc) ow (by omega) λv h' tk hv hk=>?_
 rw[<- hx] at hv;rw[UK] at hv;have ab:=argBest_gt (numAt ys)<|ys.size - 1;generalize argBest (λi j=>decide (numAt ys i > numAt ys j)) (ys.size - 1)=b at *;obtain⟨x,Fz,rx⟩:∃x,(ns.map V.int)[b]? = some x/\RelV x v:=by
  have hlen:=rv.length;have df:=(QX.mp hv).1;cases e:(ns.map V.int)[b]? with
  |none=>
   have:=List.getElem?_eq_none_iff.mp e
   omega
  |some x=>
   obtain⟨w,hw,g8⟩:=rv.get e;rw[hw] at hv;cases hv;exact⟨x,rfl,g8⟩
 rw[Qt] at Fz;obtain⟨m,hm,rfl⟩:=Jk.mp Fz;refine⟨.int m,H,I.kept hk,rx,q m (Je hm) λy hy=>?_⟩;obtain⟨j,hj⟩:=ZP.mp hy;have hjl:=(QX.mp hj).1;have:=ab.2 j (by omega);rw[num b m hm,num j y hj] at this;exact this
end
end L2
namespace Dl
open L2 _root_.Rd Rk
@[irreducible] def Bj:List Xd->(Xd->Prop)->Prop
 |[.list ds],Q=>∃ns,uc ds=some ns/\0<ns.length/\∀m,m∈ns->(∀y∈ns,y<=m)->Q (.int m)
 |_,_=>False
def QxZ{K:Qa}:iZ (OI K) Bj:=λA P H vs ds R Q ln dm q h k=>by
 unfold Bj at h;split at h
 ·obtain⟨v,rfl,hv⟩:=kW q;obtain⟨bs,hb,h0,hR⟩:=h;rw[IY hb] at hv;obtain⟨l,xs,rfl,e,qq⟩:=hv.list;rw[wH qq] at e;exact⟨l,bs,rfl,aA.of e,h0,λm h1 h2=>k _ (hR m h1 h2) _ H (ag.refl H) (.int _) kL⟩
 ·exact h.elim
def Qxh{ns:List Int}(h:0<ns.length)(k:∀m,m∈ns->(∀y∈ns,y<=m)->Q (.int m)):Bj [.list<|ns.map Qr] Q:=by
 unfold Bj;exact⟨ns,ints_map ns,h,k⟩
end Dl
namespace Rk
open L2 _root_.Rd Dl Rt
def XT:∀{xs:List α},(∀x∈xs,f x=g x)->xs.flatMap f=xs.flatMap g
 |[],_=>rfl
 |x::xs,h=>by rw[ZH,ZH,h x<|.head _,XT λy hy=>h y<|.tail _ hy]
def lU(cs:List (Int×Int))(h w m:Nat):Prop:=m<=min h w/\0<Wc cs h h 0 m/\∀k,k<=min h w->0<Wc cs h h 0 k->k<=m
def u3(h w:Nat)(cs:List (Int×Int)):Prop:=h<=6/\w<=6/\∀p∈cs,0<=p.1/\p.1<h/\0<=p.2/\p.2<w
def HA:DF:=λargs R _=>∃(h w:Nat)(cs:List (Int×Int)),args=[.v<|cX h w cs]/\u3 h w cs/\∀m,lU cs h w m->R (.int (m:Int))
def u3.col(b:u3 h w cs):∀p∈cs,0<=p.2/\p.2<(w:Int):=λp hp=>(b.2.2 p hp).2.2
def u3.nn(b:u3 h w cs):∀p∈cs,0<=p.2:=λp hp=>(b.2.2 p hp).2.2.1
def P_(cs:List (Int×Int))(h:Nat):∀i t,Wc cs h i t 0=1
 |0,_=>rfl
 |i+1,t=>by
  show Wc cs h i t 0+(if 0=0 then 0 else _)=1;rw[P_ cs h i t];rfl
def gb:List (Int×Int)->List (Int×Int)->Prop
 |[],[]=>False
 |[],_::_=>True
 |_::_,[]=>False
 |p::L,q::M=>cu p q∨(p=q/\gb L M)
def I_:∀L:List (Int×Int),¬gb L L
 |[],h=>h
 |p::L,h=>by
  rcases h with z | z
  ·rcases z with z | z<;>omega
  ·exact I_ L z.2
def TC:∀{S T:List (Int×Int)}(c d:Int×Int),S.length=T.length->gb S T->gb (S++[c]) (T++[d])
 |[],[],_,_,_,h=>h.elim
 |[],_::_,_,_,e,_=>by cases e
 |_::_,[],_,_,e,_=>by cases e
 |p::S,q::T,c,d,e,h=>by
  rcases h with z | z
  ·exact .inl z
  ·exact .inr ⟨z.1,TC c d (by simpa using e) z.2⟩
def Vz:∀(S:List (Int×Int)){c d:Int×Int},cu c d->gb (S++[c]) (S++[d])
 |[],c,d,h=>.inl h
 |p::S,c,d,h=>.inr ⟨rfl,Vz S h⟩
def fz(S:List (Int×Int)):Int:=match S.getLast? with
 |some c=>c.1+1
 |none=>0
def bD(cs S:List (Int×Int)):List (Int×Int):=cs.filter λc=>decide (fz S<=c.1) && !decide (c.2∈S.map (·.2))
def fB(cs:List (Int×Int)):Nat->List (List (Int×Int))
 |0=>[[]]
 |k+1=>(fB cs k).flatMap λS=>(bD cs S).map λc=>S++[c]
structure Std (cs L:List (Int×Int)):Prop where
 sub:∀p∈L,p∈cs
 rows:L.Pairwise λp q=>p.1<q.1
 cols:(L.map (·.2)).Nodup
def Std.nil{cs:List (Int×Int)}:Std cs []:=⟨λp hp=>(nomatch hp),.nil,.nil⟩
def Std.init(h:Std cs<|S++[c]):Std cs S/\c∈cs/\(∀p∈S,p.1<c.1)/\c.2∉S.map (·.2):=by
 have r:=YJ.mp h.rows;have k:=h.cols;rw[JA] at k;have k:=Z4.mp k;refine⟨⟨λp hp=>h.sub p<|JS _ hp,r.1,k.1⟩,h.sub c<|by simp,λp hp=>r.2.2 p hp c<|by simp,λz=>?_⟩;exact k.2.2 c.2 z c.2 (by simp) rfl
def Std.snoc(h:Std cs S)(h1:c∈cs)(h2:∀p∈S,p.1<c.1)(h3:c.2∉S.map (·.2)):Std cs (S++[c]):=by
 refine⟨λp hp=>?_,YJ.mpr ⟨h.rows,by simp,λp hp q hq=>?_⟩,?_⟩
 ·rcases QV.mp hp with z | z
  ·exact h.sub p z
  ·rw[Qm.mp z];exact h1
 ·rw[Qm.mp hq];exact h2 p hp
 ·rw[JA];refine Z4.mpr ⟨h.cols,by simp,λa ha b hb e=>?_⟩;have hb:b=c.2:=by simpa using hb
  rw[e,hb] at ha;exact h3 ha
def Vx(h:S.Pairwise λp q=>p.1<q.1){c:Int×Int}:(∀p∈S,p.1<c.1)∨¬fz S<=c.1∨(S=[] ):=by
 by_cases z:S=[]
 ·exact .inr<|.inr z
 ·by_cases y:fz S<=c.1
  ·refine .inl λp hp=>?_
   obtain⟨T,d,rfl⟩:∃T d,S=T++[d]:=⟨S.dropLast,S.getLast z,(Jh z).symm⟩
   have y:d.1+1<=c.1:=by unfold fz at y;rw[Ux] at y;simpa using y
   rcases QV.mp hp with q | q
   ·have:=(YJ.mp h).2.2 p q d (by simp);omega
   ·rw[Qm.mp q];omega
  ·exact .inr<|.inl y
def QCN{c:Int×Int}(h:∀p∈S,p.1<c.1)(h0:0<=c.1):fz S<=c.1:=by
 unfold fz;cases e:S.getLast? with
 |none=>exact h0
 |some d=>
  have:=h d<|Uz e;show d.1+1<=c.1;omega
def vR(h0:∀p∈cs,0<=p.1):∀(k:Nat)(L:List (Int×Int)),L∈fB cs k↔Std cs L/\L.length=k
 |0,L=>by
  constructor
  ·intro h;rw[Qm.mp h];exact⟨.nil,rfl⟩
  ·rintro⟨_,h⟩;cases L with
   |nil=>exact .head _
   |cons a b=>cases h
 |k+1,L=>by
  show L∈(fB cs k).flatMap (λS=>(bD cs S).map λc=>S++[c])↔_;rw[ZN];constructor
  ·rintro⟨S,hS,hL⟩;obtain⟨c,hc,rfl⟩:=Qq.mp hL;obtain⟨st,hl⟩:=(vR h0 k S).mp hS;have hc:=Q2.mp hc;have km:=Qz.mp hc.2;refine⟨st.snoc hc.1 ?_<|by simpa using km.2,by rw[Qg,hl];rfl⟩;rcases Vx st.rows with z | z | z
   ·exact z
   ·exact X5 (X2 km.1) z
   ·rw[z];exact λp hp=>(nomatch hp)
  ·rintro⟨st,hl⟩;have cO:L≠[]:=λe=>by rw[e] at hl;cases hl
   obtain⟨S,c,rfl⟩:∃T d,L=T++[d]:=⟨L.dropLast,L.getLast cO,(Jh cO).symm⟩
   obtain⟨s1,s2,s3,s4⟩:=st.init;refine⟨S,(vR h0 k S).mpr ⟨s1,by rw[Qg] at hl;exact YO hl⟩,Qq.mpr ⟨c,Q2.mpr ⟨s2,?_⟩,rfl⟩⟩;rw[Jp];exact⟨X1<|QCN s3<|h0 c s2,by simpa using s4⟩
def Wb(hp:cs.Pairwise cu)(h0:∀p∈cs,0<=p.1):∀k,(fB cs k).Pairwise gb
 |0=>V1 _ _
 |k+1=>by
  show((fB cs k).flatMap λS=>(bD cs S).map λc=>S++[c]).Pairwise gb;rw[UL];refine⟨λS _=>?_,?_⟩
  ·exact z7.mpr<|(J5 _ hp).imp λh=>Vz S h
  ·refine Yw (λ{S T} hS hT h=>?_)<|Wb hp h0 k;intro x hx y hy;obtain⟨c,_,rfl⟩:=Qq.mp hx;obtain⟨d,_,rfl⟩:=Qq.mp hy;exact TC c d (by rw[((vR h0 k S).mp hS).2,((vR h0 k T).mp hT).2]) h
def uq(h0:∀p∈cs,0<=p.1):∀(i:Nat)(L:List (Int×Int)),L∈fO cs i↔Std cs L/\∀p∈L,p.1<(i:Int)
 |0,L=>by
  constructor
  ·intro h;rw[Qm.mp h];exact⟨.nil,λp hp=>(nomatch hp)⟩
  ·rintro⟨s,h⟩;cases L with
   |nil=>exact .head _
   |cons a b=>
    have h1:=h a<|.head _;have h2:=h0 a<|s.sub a<|.head _;exact X5 h1 (by omega)
 |i+1,L=>by
  show L∈fO cs i++(fO cs i).flatMap (lR<|jY cs i)↔_;rw[QV,ZN];constructor
  ·rintro(h | ⟨S,hS,hL⟩)
   ·obtain⟨a,b⟩:=(uq h0 i L).mp h;exact⟨a,λp hp=>by have:=b p hp;omega⟩
   ·obtain⟨c,hc,hn,rfl⟩:=rm.mp hL;obtain⟨a,b⟩:=(uq h0 i S).mp hS;have hc:=Q2.mp hc;have hr:=X2 hc.2;refine⟨a.snoc hc.1 (λp hp=>by rw[hr];exact b p hp) hn,λp hp=>?_⟩;rcases QV.mp hp with z | z
    ·have:=b p z;omega
    ·rw[Qm.mp z];omega
  ·rintro⟨s,h⟩;by_cases z:L=[]
   ·left
    rw[z];exact US cs i
   ·obtain⟨S,c,rfl⟩:∃T d,L=T++[d]:=⟨L.dropLast,L.getLast z,(Jh z).symm⟩
    obtain⟨s1,s2,s3,s4⟩:=s.init;have hc:=h c (by simp);by_cases y:c.1=i
    ·right
     exact⟨S,(uq h0 i S).mpr ⟨s1,λp hp=>by have:=s3 p hp;omega⟩,rm.mpr ⟨c,Q2.mpr ⟨s2,X1 y⟩,s4,rfl⟩⟩
    ·left
     refine(uq h0 i _).mpr ⟨s,λp hp=>?_⟩;rcases QV.mp hp with q | q
     ·have:=s3 p q;omega
     ·rw[Qm.mp q];omega
def SI(nd:cs.Nodup)(h0:∀p∈cs,0<=p.1):∀i,(fO cs i).Nodup
 |0=>by show[([]:List (Int×Int))].Nodup;simp
 |i+1=>by
  have ih:=SI nd h0 i;refine Z4.mpr ⟨ih,?_,λL hL M hM e=>?_⟩
  ·show List.Pairwise _ _;rw[UL];refine⟨λS _=>?_,ih.imp λ{S T} cO x hx y hy e=>?_⟩
   ·unfold lR;refine z7.mpr<|(J5 _<|J5 _ nd).imp λ{c d} cO e=>cO ?_;have:=List.append_inj_right' e rfl
    simpa using this
   ·obtain⟨c,_,_,rfl⟩:=rm.mp hx;obtain⟨d,_,_,rfl⟩:=rm.mp hy;exact cO<|List.append_inj_left' e rfl
  ·obtain⟨S,hS,hM⟩:=ZN.mp hM;obtain⟨c,hc,_,rfl⟩:=rm.mp hM;have hr:=X2 (Q2.mp hc).2;have:=((uq h0 i L).mp hL).2 c (by rw[e];simp);omega
end Rk


namespace Rk
open L2 _root_.Rd Dl Rt
structure GB (h w:Nat) (cs:List (Int×Int)):Prop where
 fM:u3 h w cs
 nY:cs.Pairwise cu
 few:(fO cs h).length<=200000
def GB.r0{h w:Nat}{cs:List (Int×Int)}(g:GB h w cs):∀p∈cs,0<=p.1:=λp hp=>(g.fM.2.2 p hp).1
def GB.rh(g:GB h w cs):∀p∈cs,p.1<(h:Int):=λp hp=>(g.fM.2.2 p hp).2.1
def T4(g:GB h w cs)(k:Nat):(fB cs k).Perm ((fO cs h).filter λL=>L.length == k):=by
 have nd:=SI (g.nY.imp nJ) g.r0 h;have s2:=Wb g.nY g.r0 k;have n2:=WZ (λ{S T} z (e:S=T)=>I_ S (by rw[<- e] at z;exact z)) s2;refine(Zg n2<|J5 _ nd).mpr λL=>?_
 rw[Q2,vR g.r0,uq g.r0];constructor
 ·rintro⟨a,b⟩;exact⟨⟨a,λp hp=>g.rh p<|a.sub p hp⟩,by simpa using b⟩
 ·rintro⟨⟨a,_⟩,b⟩;exact⟨a,by simpa using b⟩
def HG(g:GB h w cs)(k:Nat):((fB cs k).length:Int)=Wc cs h h 0 k:=by
 rw[<- Qs2 g.fM.nn];unfold Mt;rw[(T4 g k).length_eq,List.countP_eq_length_filter]
def QAS(g:GB h w cs)(k:Nat):(fB cs k).length<=200000:=by
 rw[(T4 g k).length_eq];exact QQ (Yv _ _) g.few
def Hl:DF:=λargs R _=>∃S:List (Int×Int),args=[.v<|eX S]/\R (.int<|fz S)
def QEj:DF:=λargs R _=>∃(h w:Nat)(cs S:List (Int×Int)),args=[.v<|cX h w cs,.v<|eX S]/\R (.list<|(bD cs S).map pairD)
def Qxn{S:List (Int×Int)}(h:S.getLast? = some c):gR (S.map pairD) (-1)=some (pairD c):=by
 obtain⟨xs,rfl⟩:=List.getLast?_eq_some_iff.mp h
 rw[JA];exact Kk _ _
def dM(cs:List (Int×Int)):Nat->List (Int×Int)->List (List (Int×Int))
 |0,S=>[S]
 |m+1,S=>(bD cs S).flatMap λc=>dM cs m<|S++[c]
def RB(cs:List (Int×Int)):∀(m j:Nat),(fB cs j).flatMap (dM cs m)=fB cs (j+m)
 |0,j=>by
  show(fB cs j).flatMap (λS=>[S])=fB cs j;rw[LS]
 |m+1,j=>by
  have h:=RB cs m<|j+1;rw[show j+1+m=j+(m+1) by omega] at h;rw[<- h];show(fB cs j).flatMap (λS=>(bD cs S).flatMap λc=>dM cs m<|S++[c])=((fB cs j).flatMap λS=>(bD cs S).map λc=>S++[c]).flatMap (dM cs m);rw[List.flatMap_assoc];refine XT λS _=>?_
  rw[Lq]
def QxC(cs:List (Int×Int))(k:Nat):dM cs k []=fB cs k:=by
 have h:=RB cs k 0;rw[Nat.zero_add] at h;rw[<- h];show _=[([]:List (Int×Int))].flatMap (dM cs k);simp
def S2(cs:List (Int×Int))(h:Nat):∀(i t:Nat),Wc cs h i t 0=1
 |0,_=>rfl
 |i+1,t=>by
  show Wc cs h i t 0+0=1;rw[S2 cs h i t];rfl
def QBz(g:GB h w cs)(hT:∀p∈T,p∈cs)(m:Nat):∀i,i<=h->Wc cs h i (dG T) (m+1)=sumZ (λc=>Wc cs h (h - (c.1+1).toNat) (dG<|T++[c]) m) (cs.filter λc=>decide (((h - i:Nat):Int)<=c.1) && !decide (c.2∈T.map (·.2)))
 |0,_=>by
  have e:cs.filter (λc=>decide (((h - 0:Nat):Int)<=c.1) && !decide (c.2∈T.map (·.2)))=[]:=by
   rw[LW];intro c hc;have:=g.rh c hc;rw[X0<|by omega];exact Qx
  rw[e];rfl
 |i+1,hi=>by
  show Wc cs h i (dG T) (m+1)+(if m+1=0 then 0 else oY (Wc cs h i) (dG T) (oV cs<|h - 1 - i)<|m+1 - 1)=_;rw[XY<|by omega,LC,QBz g hT m i<|by omega,wQ,wQ];unfold oV jY;rw[LI,wQ,<- KN];refine YK λc hc=>?_
  have em:=Ip (λp hp=>g.fM.nn p<|hT p hp)<|g.fM.nn c hc;by_cases y:c.2∈T.map (·.2)
  ·have bt:(dG T).testBit c.2.toNat=true:=by rw[B_];exact X1<|em.mpr y
   rw[X1 y,bt];simp
  ·have bn:(dG T).testBit c.2.toNat=false:=by rw[B_];exact X0 λq=>y<|em.mp q
   rw[X0 y,bn];simp only[Bool.not_false,J',X4,zZ,if_false];rw[Cz];by_cases z:c.1=((h - 1 - i:Nat):Int)
   ·rw[XY<|by omega,show h - (c.1+1).toNat=i by omega];omega
   ·rw[XY z,zC];by_cases z2:((h - i:Nat):Int)<=c.1
    ·rw[XZ z2,XZ<|by omega]
    ·rw[XY z2,XY<|by omega]
def Vy(g:α->List β):∀xs:List α,((xs.flatMap g).length:Int)=sumZ (λx=>((g x).length:Int)) xs
 |[]=>rfl
 |x::xs=>by
  rw[ZH,Qg];show _=((g x).length:Int)+sumZ _ xs;rw[<- Vy g xs];omega
def QvG(S:List (Int×Int))(c:Int×Int):fz (S++[c])=c.1+1:=by
 unfold fz;rw[Ux];rfl
def OL(g:GB h w cs)(st:Std cs S):0<=fz S/\fz S<=h:=by
 unfold fz;cases e:S.getLast? with
 |none=>exact⟨Hr _,by show(0:Int)<=h;omega⟩
 |some d=>
  have hd:=st.sub d<|Uz e;have a:=g.r0 d hd;have b:=g.rh d hd;exact⟨by show 0<=d.1+1;omega,by show d.1+1<=h;omega⟩
def Cc(st:Std cs S)(hc:c∈bD cs S):Std cs (S++[c]):=by
 have hc:=Q2.mp hc;have km:=Qz.mp hc.2;refine st.snoc hc.1 ?_ (by simpa using km.2)
 rcases Vx st.rows with z | z | z
 ·exact z
 ·exact X5 (X2 km.1) z
 ·rw[z];exact λp hp=>(nomatch hp)
def Uv(g:GB h w cs):∀(m:Nat)(S:List (Int×Int)),Std cs S->((dM cs m S).length:Int)=Wc cs h (h - (fz S).toNat) (dG S) m
 |0,S,_=>by rw[S2];rfl
 |m+1,S,st=>by
  have rb:=OL g st;show(((bD cs S).flatMap λc=>dM cs m<|S++[c]).length:Int)=_;rw[Vy,QBz g st.sub m _<|Nat.sub_le _ _];have e:(((h - (h - (fz S).toNat):Nat):Nat):Int)=fz S:=by omega
  rw[e];refine YK λc hc=>?_
  rw[Uv g m (S++[c])<|Cc st hc,QvG]
def Mi(f:Nat->Nat->Bool)(h6:h<=6)(w6:w<=6):GB h w (af h w f):=by
 refine⟨⟨h6,w6,λp hp=>rC hp⟩,aH w f h,QQ (Vq (λr=>Qjf w h f r) h) ?_⟩;have c:(w+1)^h<=7^h:=Nat.pow_le_pow_left (by omega) _;have d:7^h<=7^6:=ZB (by decide) h6;have e:7^6=117649:=rfl;omega
def Qvs(g:GB h w cs)(st:Std cs L):L.length<=min h w:=by
 have m:=(uq g.r0 h L).mpr ⟨st,λp hp=>g.rh p<|st.sub p hp⟩;have a:=LG h L m;have b:=QmU g.fM.col m;omega
def V2(cs:List (Int×Int))(h w:Nat):∀(i j:Nat),j<=i->(jE cs h w i)[j]? = some (.list<|jD h w<|Wc cs h<|i - j)
 |0,0,_=>rfl
 |i+1,0,_=>rfl
 |i+1,j+1,hj=>by
  show(jE cs h w i)[j]? = _;rw[V2 cs h w i j<|by omega,show i+1 - (j+1)=i - j by omega]
def Qz1:∀t:Fin 64,∀c:Fin 6,(t:Nat).testBit c=false->(t:Nat) ||| 2^(c:Nat)=t+2^(c:Nat):=by decide
def PR{w:Nat}(w6:w<=6):∀{T S:List (Int×Int)},(∀p∈T++S,0<=p.2/\p.2<w)->((T++S).map (·.2)).Nodup->dG T<2^w->((dG T:Nat):Int)+(S.map λp=>(1*2^p.2.toNat:Int)).sum=((dG (T++S):Nat):Int)/\dG (T++S)<2^w
 |T,[],_,_,h=>by rw[JW];exact⟨by show _+0=_;omega,h⟩
 |T,c::S,hb,nd,h=>by
  have hc:=hb c (by simp);have Nv:2^w<=2^6:=ZB (by decide) w6;have e64:2^6=64:=rfl;have nt:(dG T).testBit c.2.toNat=false:=by
   rw[B_];refine X0 λq=>?_
   have:=(Ip (λp hp=>(hb p<|JS _ hp).1) hc.1).mp q;rw[JA] at nd;exact(Z4.mp nd).2.2 _ this c.2 (.head _) rfl
  have eo:dG T ||| 2^c.2.toNat=dG T+2^c.2.toNat:=Qz1 ⟨dG T,by omega⟩ ⟨c.2.toNat,by omega⟩ nt;have lt:dG (T++[c])<2^w:=by rw[Cz];exact OW h (by omega)
  have e1:T++c::S=(T++[c])++S:=by simp
  have ih:=PR w6 (by rw[<- e1];exact hb) (by rw[<- e1];exact nd) lt;rw[e1];refine⟨?_,ih.2⟩;rw[<- ih.1,Yc,List.sum_cons,Cz];have:((2^c.2.toNat:Nat):Int)=2^c.2.toNat:=by simp
  omega
def Pj:DF:=λargs R _=>∃(h w:Nat)(cs S:List (Int×Int))(k:Nat),args=[.v<|.list<|jE cs h w h,.v<|eX S,.v<|.int k]/\GB h w cs/\Std cs S/\k<=h/\R (.int ((dM cs k S).length:Nat))
def T6:DF:=λargs R _=>∃(h w:Nat)(cs S:List (Int×Int))(m n:Nat),args=[.v<|cX h w cs,.v<|.list<|jE cs h w h,.v<|eX S,.v<|.int m,.v<|.int n]/\GB h w cs/\Std cs S/\m<h/\n<(dM cs (m+1) S).length/\∀c (n':Nat),c∈bD cs S->n'<(dM cs m<|S++[c]).length->(dM cs (m+1) S)[n]? = (dM cs m<|S++[c])[n']? -> R (.tuple [pairD c,.int n'])
def QxD(g:GB h w cs)(k:Nat):Wc cs h h 0 k=((fB cs k).length:Int):=(HG g k).symm
def lO(f:Nat->Nat->Bool):Nat->Nat->Bool:=λr c => !f r c
def cg(f:Nat->Nat->Bool)(h w:Nat):List Int:=(QD<|min h w+1).map λk=>Wc (af h w f) h h 0 k
end Rk
namespace Dl
open L2 _root_.Rd Rk
section
variable{X:Cx}{E:XK}{we:DE}{i:Nat}
def vN(we:DE)(i:Nat):DS:=λD δ=>match δ[i]? with
 |some (.own ds)=>we δ (λd=>D.rt<|.tuple [d,.list ds]) D.ex
 |_=>False
def QnL{x1}(he:PE X e<|tX .D X.K E we)(hf:PE X f<|bV i)(h1:notStar e=true)(h2:notStar f=true):PS X (.Return (some<|.Tuple [e,f] x1 cV) pos) (tS X.K E<|vN we i):=by
 refine PS.imp (JV<|Y1<|a_ he (a_ hf Qp h2) h1) λD σ H ⟨F,δ,DD,rel,hw,en⟩=>?_
 unfold vN at hw;split at hw
 ·rename_i ds hd
  obtain⟨x,hx⟩:=rel.lt hd;refine⟨F,δ,_,DD.ex,rel,hw,λd fA v H1 aC kp vk=>?_,en.ex⟩;obtain⟨l,xs,rfl,e,q,f⟩:=aC.sl i _ _ hx hd;refine⟨_,hx,by show 2<=1000;decide,λa H2 s2 n2 e2=>?_⟩;have aM:=aC.same s2;refine en.rt _ fA _ H2 aM.ke<|.tup (λz=>?_) e2<|.cons (Bp<|DA.same vk s2)<|.cons (.lst (λz=>?_) (s2 _ _ e)<|(q.same s2).mv (λ_ _ _ e=>e) λa z=>.inl<|.inl z) .nil
  ·obtain⟨ys,e'⟩:=aC.iX a z;rw[n2] at e';cases e'
  ·obtain⟨ys,e'⟩:=rel.cI l z;rw[f] at e';cases e'
 ·exact hw.elim
def Ve(i:Nat){x1}(he:QE .D X E e we)(hN:X.N[i]? = some x:=by rfl)(hv:iY X.env.scope x:=by first | exact QJ rfl | exact QU (QJ rfl) | exact QU<|QU rfl)(hd:(x == ("__debug__" : Str))=false:=by decide)(bQ:(x == ("__classdict__" : Str))=false:=by decide)(h1:notStar e=true:=by rfl) :
  QS X E (.Return (some<|.Tuple [e,.Name x bM] x1 cV) pos) (vN we i):=⟨QnL he.h (pv i hN hv hd bQ) h1 rfl⟩
end
end Dl


namespace Dl
open L2 _root_.Rd Rk
def N0:Xb->Prop:=λ_=>False
def vC(H:Hp)(o:Option V):Sl->Prop
 |.no=>True
 |.v d=>∃v,o=some v/\DA N0 H v d
 |_=>False
def zb{l₁:List α}{l₂:List β}(h:Zy F l₁ l₂)(i:Nat)(x y)(e:l₁[i]? = some x)(e':l₂[i]? = some y):F x y:=by
 induction h generalizing i with
 |nil=>simp at e
 |cons r _ ih=>
  cases i with
  |zero=>simp at e e';subst e e';exact r
  |succ i=>exact ih i e e'
def SN:∀{l₁:List α}{l₂:List β},Zy F l₁ l₂->l₁.length=l₂.length
 |_,_,.nil=>rfl
 |_,_,.cons _ t=>by rw[Qw,Qw,SN t]
def IE(p:Zy (vC H) σ δ)(h:Mn σ δ i a):False:=by
 obtain⟨h1,h2⟩:=h;rcases h2 with h2 | ⟨ds,h2⟩
 ·exact zb p i _ _ h1 h2
 ·exact zb p i _ _ h1 h2
def R_{K:Qa}(p:Zy (vC H) σ δ):Rel K ⟨H,N0,N0⟩ σ H δ where
 len:=SN p
 iX:=λ_ z=>z.elim
 cI:=λ_ z=>z.elim
 iF:=λ_ z=>z.elim
 kx:=λ_ _ _ e=>e
 sl:=λi o x e1 e2=>by
  have h:=zb p i o x e1 e2;cases x with
  |no=>exact Jn
  |v d=>
   obtain⟨v,rfl,q⟩:=h;exact⟨v,rfl,q.mv (λ_ _ _ e=>e) λa z=>z.elim (λz=>.inl z) λ⟨i,z⟩=>(IE p z).elim⟩
  |own ds=>exact h.elim
  |pk ds=>exact h.elim
  |cZ=>exact h.elim
  |nZ=>exact h.elim
 inj:=λi j a ds _ _ h=>(IE p h).elim
def Tx(p:Zy (vC H0) σ δ)(k:Kp σ δ H H'):ag H H':=λb o e=>k.1 b o (λ⟨i,h1,h2⟩=>IE p ⟨h1,.inl h2⟩) e
def AQ{K:Qa}(δ:aU)(p:Zy (vC H) σ δ)(hw:w δ (λb=>∀H',ag H H'->Q b H') XF):tT K E w σ H Q:=
 ⟨⟨H,N0,N0⟩,δ,_,XF,R_ p,hw,λb hb H' _ kp=>hb H'<|Tx p kp,λ_ z=>z.elim⟩
def AR{K:Qa}(δ:aU)(p:Zy (vC H) σ δ)(hw:w δ (λd=>∀v H',ag H H'->DA N0 H' v d->Q v H') XF):tX .F K E w σ H Q:=
 ⟨⟨H,N0,N0⟩,δ,_,XF,R_ p,hw,λd hd v H' _ kp vk=>hd v H' (Tx p kp)<|DA.mv vk.1 (λ_ _ _ e=>e) λa z=>z.elim,λ_ z=>z.elim⟩
def gZ(R:Xd->Prop)(EX:XP)(q:Zy (yH N0 N0 H) vs args)(h:f args R EX)(k:∀d,R d->∀v H',ag H H'->DA N0 H' v d->(fr=true->kd H H' v)->Q v H')(kx:∀C,EX C->∀H',ag H H'->Ex (.ref C) none H'):Zz fr f vs H Q Ex:=
 ⟨N0,N0,args,R,EX,λ_ z=>z.elim,λ_ z=>z.elim,q,h,λd hd v H' kq=>k d hd v H' λb o e=>kq.1 b o (λz=>z.elim) e,λC hC H' kq=>kx C hC H' λb o e=>kq.1 b o (λz=>z.elim) e⟩
mutual
def qt:Xd->Bool
 |.none=>true
 |.bool _=>true
 |.int _=>true
 |.str _=>true
 |.tuple ds=>nk ds
 |_=>false
def nk:List Xd->Bool
 |[]=>true
 |d::ds=>qt d&&nk ds
end
def QA1(k:∀a xs,H a=some (.tup xs)->H' a=some (.tup xs))(m:∀a,A' a->∃xs,H' a=some (.lst xs))(d:Xd)(x:V)(f:qt d=true)(q:DA A H x d):DA A' H' x d:=DA.rec (motive_1:=λx d _=>qt d=true->DA A' H' x d) (motive_2:=λxs ds _=>nk ds=true->aG A' H' xs ds) (λ_=>.aL) (λb _=>.bl b) (λi _=>.int i) (λz c _=>.str z c) (λ_ e _ q n=>.tup (λz=>by obtain⟨ys,e'⟩:=m _ z;rw[k _ _ e] at e';cases e') (k _ _ e)<|q n) (λ_ _ _ _ n=>Y0 n) (λ_ _ _ n=>Y0 n) (λ_=>.nil) (λ_ _ q qs n=>.cons (q (Qz.mp n).1)<|qs (Qz.mp n).2) q f
def QA0(k:∀a xs,H a=some (.tup xs)->H' a=some (.tup xs))(m:∀a,A' a->∃xs,H' a=some (.lst xs))(ds:List Xd)(xs:List V)(f:nk ds=true)(q:aG A H xs ds):aG A' H' xs ds:=aG.rec (motive_1:=λx d _=>qt d=true->DA A' H' x d) (motive_2:=λxs ds _=>nk ds=true->aG A' H' xs ds) (λ_=>.aL) (λb _=>.bl b) (λi _=>.int i) (λz c _=>.str z c) (λ_ e _ q n=>.tup (λz=>by obtain⟨ys,e'⟩:=m _ z;rw[k _ _ e] at e';cases e') (k _ _ e)<|q n) (λ_ _ _ _ n=>Y0 n) (λ_ _ _ n=>Y0 n) (λ_=>.nil) (λ_ _ q qs n=>.cons (q (Qz.mp n).1)<|qs (Qz.mp n).2) q f
def VX(h:∀d∈ds,qt d=true):nk ds=true:=by
 induction ds with
 |nil=>rfl
 |cons d ds ih=>
  show(qt d&&nk ds)=true;rw[h d<|.head _,ih λx hx=>h x<|.tail _ hx];rfl
def QsM(cs:List (Int×Int)):nk (cs.map Rk.pairD)=true:=VX λd hd=>by
 obtain⟨p,_,rfl⟩:=Qq.mp hd;rfl
def QDA(h w:Int)(cs:List (Int×Int)):qt (cX h w cs)=true:=by
 show(true&&(true&&(nk (cs.map Rk.pairD)&&true)))=true;rw[QsM];rfl
def yK(q:DA A H v<|cX h w cs):∃a c ps,v=.ref a/\H a=some (.tup [.int h,.int w,.ref c])/\H c=some (.tup ps)/\DA A H (.ref c) (.tuple<|cs.map Rk.pairD):=by
 cases q with
 |tup n e q=>cases q with
  |cons q1 q=>cases q with
   |cons q2 q=>cases q with
    |cons q3 q=>
     cases q;cases q1;cases q2;cases q3 with
     |tup n2 e2 q2=>exact⟨_,_,_,rfl,e,e2,.tup n2 e2 q2⟩
end Dl
namespace L2
open PySem.Calls
section
variable(P:QB)(w:Jf)(K:Qa)(mg:Str->Option Xc)(base:Xl)
structure ar (CX:jg) (k:Nat) (x:Str) (sp:Sp):Prop where
 ex:∃f fd ps,mg x=some (.ref f)/\aI P w K mg base CX k f fd ps sp/\Binds K fd ps []/\Q7 K (.ref f)=true
structure aD (CX:jg) (k:Nat) (C:Xb) (m:Str) (sp:Sp):Prop where
 ex:∃f fd ps,iw K C m f/\aI P w K mg base CX k f fd ps sp/\Binds K fd ps []
structure mh (k:Nat) (C:Xb) (x:Str) (sp:Sp):Prop where
 ex:∃f fd ps,Mk K C f/\aI P w K mg base aq k f fd ps sp/\Binds K fd ps []/\mg x=some (.ref C)
end
structure az (P:QB) (w:Jf) (K:Qa) (mg:Str->Option Xc) (base:Xl) (x:Str) (st:Ze):Prop where
 ex:∃f fd,mg x=some (.ref f)/\iz K x x st f fd
structure bX (P:QB) (w:Jf) (K:Qa) (mg:Str->Option Xc) (base:Xl) (C:Xb) (m qual:Str) (st:Ze):Prop where
 ex:∃f fd,iw K C m f/\iz K m qual st f fd
def w9(x qual:Str)(st:Ze)(ps:List Str):Prop:=∀(kV doc pm:Xc)(an:Option Xb)(aj ct:Xc)(us:List Xc),us.length=ps.length->bindArgs (Yp x qual (uh st) (ZS st) (QL st) .none kV doc pm an aj ct) ⟨us,[]⟩=pure (ps.zip us)
def nV{p:List Xc->Prop}(h:∀a,p [a])(us:List Xc)(e:us.length=1):p us:=by
 obtain _ | ⟨a,_ | _⟩:=us<;>first | exact h _ | cases e
def u5{p:List Xc->Prop}(h:∀a b,p [a,b])(us:List Xc)(e:us.length=2):p us:=by
 obtain _ | ⟨a,us⟩:=us
 ·cases e
 ·exact nV (p:=λl=>p (a::l)) (λb=>h a b) us<|YO e
def u4{p:List Xc->Prop}(h:∀a b c,p [a,b,c])(us:List Xc)(e:us.length=3):p us:=by
 obtain _ | ⟨a,us⟩:=us
 ·cases e
 ·exact u5 (p:=λl=>p (a::l)) (λb=>h a b) us<|YO e
def us5{p:List Xc->Prop}(h:∀a b c d e,p [a,b,c,d,e])(us:List Xc)(e:us.length=5):p us:=by
 obtain _ | ⟨a,_ | ⟨b,us⟩⟩:=us
 ·cases e
 ·cases e
 ·exact u4 (p:=λl=>p (a::b::l)) (λc=>h a b c) us<|YO<|YO e
section
variable{P:QB}{w:Jf}{K:Qa}{mg:Str->Option Xc}{base:Xl}{x:Str}{st:Ze}{k:Nat}{sp:Sp}{C:Xb}{m qual:Str}
def fG(N:List Str)(n:Nat)(F:az P w K mg base x st)
  (XL:∀{f:Xb}(aj:Xc)(A:JF)(outer:List Env)(s:Xe)(H:Hp)(vs:List V)(Q:VK)(E:XK),N.Nodup->ao k (A.deeper<|envOfC x (QL st) s.heap.objs.size f aj)->sp vs H Q E ->
   ∃t,aV (bS aq P w K mg base N x (QL st) f aj A outer s H E).jm (ZS st) t/\t { nx:=λ_ H'=>Q .aL H',rt:=Q } (start N vs) H)
  (S:Ya N (N.take n) (QL st):=by exact⟨rfl,rfl,rfl,by decide,rfl,by decide,by decide⟩)
  (len:∀vs H Q E,sp vs H Q E->vs.length=(N.take n).length:=by
   intro _ _ _ _ h
   first | (obtain⟨rfl,_⟩:=h;rfl) | (obtain⟨_,rfl,_⟩:=h;rfl) | (obtain⟨_,_,rfl,_⟩:=h;rfl) | (obtain⟨_,_,_,rfl,_⟩:=h;rfl) | (obtain⟨_,_,_,_,rfl,_⟩:=h;rfl) | (obtain⟨_,_,_,_,_,rfl,_⟩:=h;rfl) | (obtain⟨_,_,_,_,_,_,rfl,_⟩:=h;rfl) | (obtain⟨_,_,_,_,_,_,_,rfl,_⟩:=h;rfl) | (obtain⟨_,_,_,_,_,_,_,_,rfl,_⟩:=h;rfl))
  (b:w9 x x st (N.take n):=by exact λ_ _ _ _ _ _=>by first | exact nV λ_=>rfl | exact u5 λ_ _=>rfl | exact u4 λ_ _ _=>rfl):ar P w K mg base aq (k+1) x sp:=by
 obtain⟨f,fd,e,F⟩:=F.ex;exact⟨f,fd,_,e,F.ok S len λaj A outer s H vs Q E hr h=>XL aj A outer s H vs Q E S.nd hr h,F.binds b,F.kp⟩
def mJ(N:List Str)(n:Nat)(F:az P w K mg base x st)
  (XL:∀{f:Xb}(aj:Xc)(A:JF)(outer:List Env)(s:Xe)(H:Hp)(vs:List V)(Q:VK)(E:XK),N.Nodup->ao k (A.deeper<|envOfC x (QL st) s.heap.objs.size f aj)->sp vs H Q E ->
   ∃t,aV (bS (Rx.aQ P w) P w K mg base N x (QL st) f aj A outer s H E) (ZS st) t/\t { nx:=λ_ H'=>Q .aL H',rt:=Q } (start N vs) H)
  (S:Ya N (N.take n) (QL st):=by exact⟨rfl,rfl,rfl,by decide,rfl,by decide,by decide⟩)
  (len:∀vs H Q E,sp vs H Q E->vs.length=(N.take n).length:=by
   intro _ _ _ _ h
   first | (obtain⟨_,_,_,_,rfl,_⟩:=h;rfl) | (obtain⟨_,_,_,_,_,_,_,_,rfl,_⟩:=h;rfl))
  (b:w9 x x st (N.take n):=by exact λ_ _ _ _ _ _=>by first | exact nV λ_=>rfl | exact u4 λ_ _ _=>rfl):ar P w K mg base (Rx.aQ P w) (k+1) x sp:=by
 obtain⟨f,fd,e,F⟩:=F.ex;exact⟨f,fd,_,e,Rx.Fc F S len λaj A outer s H vs Q E hr h=>XL aj A outer s H vs Q E S.nd hr h,F.binds b,F.kp⟩
def vc(N:List Str)(n:Nat)(F:bX P w K mg base C m qual st)
  (XL:∀{f:Xb}(aj:Xc)(A:JF)(outer:List Env)(s:Xe)(H:Hp)(vs:List V)(Q:VK)(E:XK),N.Nodup->ao k (A.deeper<|envOfC qual (QL st) s.heap.objs.size f aj)->sp vs H Q E ->
   ∃t,aV (bS aq P w K mg base N qual (QL st) f aj A outer s H E).jm (ZS st) t/\t { nx:=λ_ H'=>Q .aL H',rt:=Q } (start N vs) H)
  (S:Ya N (N.take n) (QL st):=by exact⟨rfl,rfl,rfl,by decide,rfl,by decide,by decide⟩)
  (len:∀vs H Q E,sp vs H Q E->vs.length=(N.take n).length:=by
   intro _ _ _ _ h
   first | (obtain⟨_,_,rfl,_⟩:=h;rfl) | (obtain⟨_,_,_,_,rfl,_⟩:=h;rfl) | (obtain⟨_,_,_,_,_,_,rfl,_⟩:=h;rfl))
  (b:w9 m qual st (N.take n):=by exact λ_ _ _ _ _ _=>by first | exact nV λ_=>rfl | exact u5 λ_ _=>rfl):aD P w K mg base aq (k+1) C m sp:=by
 obtain⟨f,fd,e,F⟩:=F.ex;exact⟨f,fd,_,e,F.ok S len λaj A outer s H vs Q E hr h=>XL aj A outer s H vs Q E S.nd hr h,F.binds b⟩
def qH(N:List Str)(n:Nat)(F:bX P w K mg base C m qual st)
  (XL:∀{f:Xb}(aj:Xc)(A:JF)(outer:List Env)(s:Xe)(H:Hp)(vs:List V)(Q:VK)(E:XK),N.Nodup->ao k (A.deeper<|envOfC qual (QL st) s.heap.objs.size f aj)->sp vs H Q E ->
   ∃t,aV (bS (Rx.aQ P w) P w K mg base N qual (QL st) f aj A outer s H E) (ZS st) t/\t { nx:=λ_ H'=>Q .aL H',rt:=Q } (start N vs) H)
  (S:Ya N (N.take n) (QL st):=by exact⟨rfl,rfl,rfl,by decide,rfl,by decide,by decide⟩)
  (len:∀vs H Q E,sp vs H Q E->vs.length=(N.take n).length:=by
   intro _ _ _ _ h
   first | (obtain⟨_,_,_,_,rfl,_⟩:=h;rfl) | (obtain⟨_,_,_,_,_,_,_,_,rfl,_⟩:=h;rfl))
  (b:w9 m qual st (N.take n):=by exact λ_ _ _ _ _ _=>by first | exact nV λ_=>rfl | exact u5 λ_ _=>rfl | exact u4 λ_ _ _=>rfl):aD P w K mg base (Rx.aQ P w) (k+1) C m sp:=by
 obtain⟨f,fd,e,F⟩:=F.ex;exact⟨f,fd,_,e,Rx.Fc F S len λaj A outer s H vs Q E hr h=>XL aj A outer s H vs Q E S.nd hr h,F.binds b⟩
end
section
variable{X:Cx}{CX:jg}{E:XK}{k j:Nat}{C:Xb}{x m:Str}{sp:Sp}{p pos apos:Pos}{e o:JO}{es:List JO}{t:TA}{ta:TE}{pl:Sem Bool}
def wC(c:ar X.prog X.w X.K X.mg X.base CX k x sp)(hr:ao j X.A)(hx:Y6 CX X E)(ha:PA X (e::es) t)(h:k<=j:=by decide)(hg:Gl X x:=by rfl)(bE:(x == ("__debug__" : Str))=false:=by decide)(he:Xi (e::es) X.env=(false,eval e X.env)::Xi es X.env:=by rfl)(hpl:(Xq pos<|Xi es X.env).any (·.1)=false:=by rfl) :
  PE X (.Call (.Name x p) (e::es) [] pos) (yU sp [] E t):=by
 obtain⟨f,fd,ps,hm,F,hb,hk⟩:=c.ex;exact IB F (hr.mono h) hg hm hk hb .nil hx ha bE he hpl
def Zr(c:ar X.prog X.w X.K X.mg X.base aq k x sp)(hr:ao j X.A)(ha:PA X (e::es) t)(h:k<=j:=by decide)(hg:Gl X x:=by rfl)(bE:(x == ("__debug__" : Str))=false:=by decide)(he:Xi (e::es) X.env=(false,eval e X.env)::Xi es X.env:=by rfl)(hpl:(Xq pos<|Xi es X.env).any (·.1)=false:=by rfl) :
  PE X (.Call (.Name x p) (e::es) [] pos) (yU sp [] E0 t):=wC c hr dZ ha h hg bE he hpl
def Z1(he:PE X o ta)(cl:iM X.K C)(c:aD X.prog X.w X.K X.mg X.base CX k C m sp)(hr:ao j X.A)(hx:Y6 CX X E)(ha:PA X (e::es) t)(h:k<=j:=by decide)
  (gs:Xi (e::es) X.env=(false,eval e X.env)::Xi es X.env:=by rfl)(hpl:(Xq pos<|Xi es X.env).any (·.1)=false:=by rfl)
  (ht:eval (.Call (.Attribute o m apos) (e::es) [] pos) X.env=(do
   let ov <- eval o X.env
   Xu apos.atName
   let (f,first) <- Xt [ov] (XB ov m pl)
   XC pos f first (Xq pos<|Xi (e::es) X.env) (Xz pos<|Xy [] X.env)):=by rfl) :
  PE X (.Call (.Attribute o m apos) (e::es) [] pos) (Bv C m sp [] E ta t):=by
 obtain⟨f,fd,ps,hm,F,hb⟩:=c.ex;exact Qv0 he cl hm F (hr.mono h) hb .nil hx ha gs hpl ht
def JP(he:PE X o ta)(cl:iM X.K C)(c:aD X.prog X.w X.K X.mg X.base CX k C m sp)(hr:ao j X.A)(hx:Y6 CX X E)(h:k<=j:=by decide)
  (ht:eval (.Call (.Attribute o m apos) [] [] pos) X.env=(do
   let ov <- eval o X.env
   Xu apos.atName
   let (f,first) <- Xt [ov] (XB ov m pl)
   XC pos f first (Xq pos<|Xi [] X.env) (Xz pos<|Xy [] X.env)):=by rfl) :
  PE X (.Call (.Attribute o m apos) [] [] pos) (Bv C m sp [] E ta fj):=by
 obtain⟨f,fd,ps,hm,F,hb⟩:=c.ex;exact Qrz he cl hm F (hr.mono h) hb .nil hx ht
def ip(i:Nat)(hN:X.N.Nodup)(he:PE X e te)(hi:X.N[i]? = some x:=by rfl)(hx:Loc X.env.scope x:=by first | exact QJ rfl | exact QU rfl)(hs:Xw e (some<|.Name x pos') pos.line X.env=pure false:=by rfl)(hf:X.fn x=true∨X.env.scope.names.lookup x=some .local:=by first | exact .inl rfl | exact .inr rfl | assumption) :
  PS X (.Assign [.Name x pos'] e pos) (nq te<|Yu i):=i9 hN hi hx he hs hf
def i7(i:Nat)(hN:X.N.Nodup)(hi:X.N[i]? = some x:=by rfl)(hx:Loc X.env.scope x:=by first | exact QJ rfl | exact QU rfl)(hf:X.fn x=true∨X.env.scope.names.lookup x=some .local:=by first | exact .inl rfl | exact .inr rfl | assumption):PG X (.Name x pos) (Yu i):=ZC hN hi hx hf
def HP(c:mh X.prog X.w X.K X.mg X.base k C x sp)(hr:ao j X.A)(h:k+1<=j:=by decide)(hg:Gl X x:=by rfl)(bE:(x == ("__debug__" : Str))=false:=by decide):PE X (.Call (.Name x p) [] [] pos) (Ph C sp [] E0 fj):=by
 obtain⟨f,fd,ps,M,F,hb,hm⟩:=c.ex;exact QrA M F (hr.mono h) hg hm hb .nil dZ bE
end
end L2


namespace Dl
open L2 _root_.Rd Rk
section
variable{P:QB}{w:Jf}{K:Qa}{mg:Str->Option Xc}{base:Xl}{x:Str}{st:Ze}{k:Nat}{fD:DF}
def eA(N:List Str)(n:Nat)(fr:Bool)(F:az P w K mg base x st)
  (XL:∀{f:Xb}(aj:Xc)(A:JF)(outer:List Env)(s:Xe)(H:Hp)(E:XK),N.Nodup->ao k (A.deeper<|envOfC x (QL st) s.heap.objs.size f aj)->(A.deeper<|envOfC x (QL st) s.heap.objs.size f aj).units+60<cLine->(A.deeper<|envOfC x (QL st) s.heap.objs.size f aj).in1.units+60<cLine ->
   ∃wd,ka (bS aq P w K mg base N x (QL st) f aj A outer s H E).jm E0 (ZS st) wd/\∀args R EX,fD args R EX->wd (qN fr R XF) (kg N args))
  (S:Ya N (N.take n) (QL st):=by exact⟨rfl,rfl,rfl,by decide,rfl,by decide,by decide⟩)
  (len:∀args R EX,fD args R EX->args.length=(N.take n).length:=by
   intro _ _ _ h
   first | (obtain⟨rfl,_⟩:=h;rfl) | (obtain⟨_,rfl,_⟩:=h;rfl) | (obtain⟨_,_,rfl,_⟩:=h;rfl) | (obtain⟨_,_,_,rfl,_⟩:=h;rfl) | (obtain⟨_,_,_,_,rfl,_⟩:=h;rfl) | (obtain⟨_,_,_,_,_,rfl,_⟩:=h;rfl) | (obtain⟨_,_,_,_,_,_,rfl,_⟩:=h;rfl) | (obtain⟨_,_,_,_,_,_,_,rfl,_⟩:=h;rfl))
  (b:w9 x x st (N.take n):=by exact λ_ _ _ _ _ _=>by first | exact nV λ_=>rfl | exact u5 λ_ _=>rfl | exact u4 λ_ _ _=>rfl | exact us5 λ_ _ _ _ _=>rfl):ar P w K mg base aq (k+1) x (Zz fr fD):=by
 obtain⟨f,fd,e,F⟩:=F.ex;exact⟨f,fd,_,e,okQ fr F S len λaj A outer s H E hr=>XL aj A outer s H E S.nd hr (ao.rK hr)<|ao.xW hr,F.binds b,F.kp⟩
def DW(N:List Str)(n:Nat)(fr:Bool)(F:az P w K mg base x st)
  (XL:∀{f:Xb}(aj:Xc)(A:JF)(outer:List Env)(s:Xe)(H:Hp)(E:XK),N.Nodup->ao k (A.deeper<|envOfC x (QL st) s.heap.objs.size f aj)->(A.deeper<|envOfC x (QL st) s.heap.objs.size f aj).units+60<cLine->(A.deeper<|envOfC x (QL st) s.heap.objs.size f aj).in1.units+60<cLine ->
   ∃wd,ka (bS (Rx.aQ P w) P w K mg base N x (QL st) f aj A outer s H E) E (ZS st) wd/\∀args R EX,fD args R EX->wd (qN fr R EX) (kg N args))
  (S:Ya N (N.take n) (QL st):=by exact⟨rfl,rfl,rfl,by decide,rfl,by decide,by decide⟩)
  (len:∀args R EX,fD args R EX->args.length=(N.take n).length:=by
   intro _ _ _ h
   first | (obtain⟨_,rfl,_⟩:=h;rfl) | (obtain⟨_,_,_,rfl,_⟩:=h;rfl))
  (b:w9 x x st (N.take n):=by exact λ_ _ _ _ _ _=>by first | exact nV λ_=>rfl | exact u5 λ_ _=>rfl | exact u4 λ_ _ _=>rfl):ar P w K mg base (Rx.aQ P w) (k+1) x (Zz fr fD):=by
 obtain⟨f,fd,e,F⟩:=F.ex;exact⟨f,fd,_,e,QEW fr F S len λaj A outer s H E hr=>XL aj A outer s H E S.nd hr (ao.rK hr)<|ao.xW hr,F.binds b,F.kp⟩
end
section
variable{X:Cx}{CX:jg}{E:XK}{k j:Nat}{x:Str}{p pos:Pos}{e:JO}{es:List JO}{fD:DF}{wa:me}
def SQ(c:ar X.prog X.w X.K X.mg X.base CX k x<|Zz false fD)(hr:ao j X.A)(hx:Y6 CX X E)(ha:nT X E (e::es) wa)(h:k<=j:=by decide)(hg:Gl X x:=by rfl)(bE:(x == ("__debug__" : Str))=false:=by decide)(he:Xi (e::es) X.env=(false,eval e X.env)::Xi es X.env:=by rfl)(hpl:(Xq pos<|Xi es X.env).any (·.1)=false:=by rfl):QE .D X E (.Call (.Name x p) (e::es) [] pos) (o4 fD wa):=by
 obtain⟨f,fd,ps,hm,F,hb,hk⟩:=c.ex;exact Qzz F (hr.mono h) hg hm hk hb hx ha bE he hpl
def eT(c:ar X.prog X.w X.K X.mg X.base aq k x<|Zz false fD)(hr:ao j X.A)(ha:nT X E (e::es) wa)(h:k<=j:=by decide)(hg:Gl X x:=by rfl)(bE:(x == ("__debug__" : Str))=false:=by decide)(he:Xi (e::es) X.env=(false,eval e X.env)::Xi es X.env:=by rfl)(hpl:(Xq pos<|Xi es X.env).any (·.1)=false:=by rfl):QE .D X E (.Call (.Name x p) (e::es) [] pos) (o4 fD wa):=SQ c hr OY ha h hg bE he hpl
def lX(c:ar X.prog X.w X.K X.mg X.base aq k x<|Zz true fD)(hr:ao j X.A)(ha:nT X E (e::es) wa)(h:k<=j:=by decide)(hg:Gl X x:=by rfl)(bE:(x == ("__debug__" : Str))=false:=by decide)(he:Xi (e::es) X.env=(false,eval e X.env)::Xi es X.env:=by rfl)(hpl:(Xq pos<|Xi es X.env).any (·.1)=false:=by rfl):QE .F X E (.Call (.Name x p) (e::es) [] pos) (o4 fD wa):=by
 obtain⟨f,fd,ps,hm,F,hb,hk⟩:=c.ex;exact QvP F (hr.mono h) hg hm hk hb OY ha bE he hpl
end
end Dl
namespace Rk
open L2 _root_.Rd Dl Rt
def gV(p q:Int×Int):Bool:=decide (p.1=q.1)||decide (p.2=q.2)
def Kj(h:gV p q=true):gV q p=true:=by
 unfold gV at h ⊢;rw[Kh,X4,X4] at h ⊢;exact h.elim (λe=>.inl e.symm) λe=>.inr e.symm
inductive dS (cs:List (Int×Int)):(Int×Int)->(Int×Int)->Prop
 |refl {a:Int×Int}:a∈cs->dS cs a a
 |step {a b c:Int×Int}:dS cs a b->c∈cs->gV b c=true->dS cs a c
def dS.right(h:dS cs a b):b∈cs:=by
 cases h with
 |refl h=>exact h
 |step _ h _=>exact h
def dS.trans(h:dS cs a b)(k:dS cs b c):dS cs a c:=by
 induction k with
 |refl _=>exact h
 |step _ h1 h2 ih=>exact .step ih h1 h2
def dS.symm(h:dS cs a b):dS cs b a:=by
 induction h with
 |refl h=>exact .refl h
 |step h1 h2 h3 ih=>exact dS.trans (.step (.refl h2) h1.right<|Kj h3) ih
def dS.mono(s:∀p∈cs,p∈ds)(h:dS cs a b):dS ds a b:=by
 induction h with
 |refl h=>exact .refl<|s _ h
 |step _ h2 h3 ih=>exact .step ih (s _ h2) h3
def SK(h:cu p q)(k:cu q p):False:=by
 obtain⟨a,b⟩:=p;obtain⟨c,d⟩:=q;have h:a<c∨(a=c/\b<d):=h;have k:c<a∨(c=a/\d<b):=k;omega
def QvW{T:List (Int×Int)}(hs:S.Pairwise cu)(ht:T.Pairwise cu)(h:∀y,y∈S↔y∈T):S=T:=by
 have p:=(Zg (hs.imp nJ)<|ht.imp nJ).mpr h;exact ZQ (λa b _ _ h1 h2=>(SK h1 h2).elim) hs ht p
structure l_ (cs S:List (Int×Int)):Prop where
 nY:S.Pairwise cu
 has:∃x,x∈cs/\∀y,y∈S↔dS cs x y
def l_.same(hs:l_ cs S)(ht:l_ cs T)(h1:y∈S)(h2:y∈T):S=T:=by
 obtain⟨a,_,ha⟩:=hs.has;obtain⟨b,_,hb⟩:=ht.has;have ab:=((ha y).mp h1).trans ((hb y).mp h2).symm;exact QvW hs.nY ht.nY λz=>by
  rw[ha,hb];exact⟨λq=>ab.symm.trans q,λq=>ab.trans q⟩
def K'(dm:∀a,A a->∃xs,H a=some (.lst xs)):∀{ys:List V}{M:List (Int×Int)},aZ H ys (M.map pairD)->aG A H ys (M.map pairD)
 |[],[],_=>.nil
 |y::ys,p::M,.cons q qs=>by
  refine .cons ?_<|K' dm qs
  cases q with
  |tup e q2=>
   refine .tup (λz=>?_) e ?_
   ·obtain⟨xs,e2⟩:=dm _ z;rw[e] at e2;cases e2
   ·cases q2 with
    |cons a b=>
     cases b with
     |cons b c=>cases c;cases a;cases b;exact .cons (.int _)<|.cons (.int _) .nil
@[irreducible] def BO:List Xd->(Xd->Prop)->Prop:=λds Q=>∃L:List (Int×Int),ds=[.list<|L.map pairD]/\L.Nodup/\L.length<64/\(∀p∈L,0<=p.2/\p.2<64)/\∀M:List (Int×Int),M.Perm L->M.Pairwise cu->Q (.list<|M.map pairD)
def Vm(h1:L.Nodup)(h2:L.length<64)(h3:∀p∈L,0<=p.2/\p.2<64)(k:∀M:List (Int×Int),M.Perm L->M.Pairwise cu->Q (.list<|M.map pairD)):BO [.list<|L.map pairD] Q:=by
 unfold BO;exact⟨L,rfl,h1,h2,h3,k⟩
def Va:iZ SW BO:=λA P H vs ds R Q ln dm q h k=>by
 unfold BO at h;obtain⟨L,rfl,h1,h2,h3,hR⟩:=h;obtain⟨v,rfl,hv⟩:=kW q;obtain⟨l,xs,rfl,e,qq⟩:=hv.list;refine⟨l,xs,L,rfl,e,zG _ _ (Yz L) qq,h1,h2,h3,λt ys M H2 s n e2 Ge pm pw=>?_⟩;have Gf:∀a,A a->∃xs,H2 a=some (.lst xs):=λa z=>by obtain⟨xs,e⟩:=dm a z;exact⟨xs,s _ _ e⟩
 have pl:M.Pairwise cu:=by
  have hb:=λp hp=>h3 p<|pm.mem_iff.mp hp
  refine Yw (λ{a b} ha dP hc=>?_) pw;have:=hb a ha;have:=hb b dP;have hc:64*a.1+a.2<64*b.1+b.2:=hc;show a.1<b.1∨(a.1=b.1/\a.2<b.2);omega
 refine k _ (hR M pm pl) _ H2 s (.lst (λz=>?_) e2<|K' Gf Ge)<|q0 n;obtain⟨xs,e⟩:=dm t z;rw[n] at e;cases e
end Rk
namespace Dl
open L2 _root_.Rd Rk
@[irreducible] def Ed(t:DT)(wb:DS)(D:qS)(δ:aU):Prop:=∃Iv:Nat->aU->Prop,(∃m,Iv m δ)/\∀m δ,Iv m δ->t δ (λb=>if b=true then wb { D with nx:=λδ'=>∃m',m'<m/\Iv m' δ',ct:=λδ'=>∃m',m'<m/\Iv m' δ',bk:=D.nx } δ else D.nx δ) D.ex
def HE(t:DT)(wb:DS):DS:=λD δ=>Ed t wb D δ
section
variable{X:Cx}{E:XK}
def QnK(hp:v8 (Xg X.prog X.w) X.A X.env X.xe)(hc:PT X c<|tT X.K E t)(hb:aV X body<|tS X.K E wb):PS X (.While c body [] pos) (tS X.K E<|HE t wb):=by
 refine PS.imp (VN hp hc hb) λD σ H ⟨F,δ,DD,rel,hw,en⟩=>?_
 unfold HE Ed at hw;obtain⟨Iv,⟨m0,i0⟩,step⟩:=hw;refine⟨λm σ' H'=>∃δ',Iv m δ'/\Rel X.K F σ' H' δ'/\bg F σ H δ σ' H' δ',⟨m0,δ,i0,rel,bg.refl⟩,?_⟩;rintro m σ' H' ⟨δ',iv,r',bH⟩;refine⟨F,δ',_,DD.ex,r',step m δ' iv,λb hb H1 aC bO=>?_,en.ex⟩;have u9:=bH.trans<|bg.kp bO;cases b with
 |true=>
  show if true=true then _ else _
  exact⟨λσ2 H2=>∃δ2,(∃m',m'<m/\Iv m' δ2)/\Rel X.K F σ2 H2 δ2/\bg F σ H δ σ2 H2 δ2,λσ2 H2 ⟨δ2,⟨m',hm,h2⟩,r2,s2⟩=>⟨m',hm,δ2,h2,r2,s2⟩,F,δ',_,aC,hb,⟨⟨λδ6 h6 σ6 H6 r6 s6=>⟨δ6,h6,r6,u9.trans s6⟩⟩,en.rt,en.kU,(en.step u9).nx,⟨λδ6 h6 σ6 H6 r6 s6=>⟨δ6,h6,r6,u9.trans s6⟩⟩,en.ex⟩⟩
 |false=>
  show if false=true then _ else _
  exact(en.step u9).nx.go δ' hb σ' H1 aC bg.refl
def K9(hp:v8 (Xg X.prog X.w) X.A X.env X.xe)(hc:QT X E c t)(hb:ka X E body wb):QS X E (.While c body [] pos) (HE t wb):=⟨QnK hp hc.h hb.h⟩
end
def Ib(Iv:Nat->aU->Prop)(m0:Nat)(h0:Iv m0 δ)
  (hs:∀m δ,Iv m δ->t δ (λb=>if b=true then wb { D with nx:=λδ'=>∃m',m'<m/\Iv m' δ',ct:=λδ'=>∃m',m'<m/\Iv m' δ',bk:=D.nx } δ else D.nx δ) D.ex):Ed t wb D δ:=by
 unfold Ed;exact⟨Iv,⟨m0,h0⟩,hs⟩
end Dl
namespace Rk
open L2 _root_.Rd Dl Rt
def UU{P cells:List (Int×Int)}(nd:P.Nodup)(nc:cells.Nodup)(h:∀p∈P,p∈cells):P.length<=cells.length:=by
 have p:(cells.filter λc=>decide (c∈P)).Perm P:=(Zg (J5 _ nc) nd).mpr λy=>by
  rw[Q2,X4];exact⟨λq=>q.2,λq=>⟨h y q,q⟩⟩
 rw[<- p.length_eq];exact Yv _ _
structure ik (cells:List (Int×Int)) (x:Int×Int) (P N:List (Int×Int)):Prop where
 nd:P.Nodup
 reach:∀p∈P,dS cells x p
 has:x∈P
 sub:∀n∈N,n∈P
 fr:∀y∈P,y∉N->∀o∈cells,gV o y=true->o∈P
def qG(cells P N:List (Int×Int)):List (Int×Int):=cells.filter λo => !decide (o∈P)&&N.any λq=>gV o q
def ik.start(h:x∈cells):ik cells x [x] [x]:=⟨by simp,λp hp=>by rw[Qm.mp hp];exact .refl h,by simp,λn hn=>hn,λy hy hn=>X5 hy hn⟩
def ik.step(h:ik cells x P N)(nc:cells.Nodup):ik cells x (P++qG cells P N) (qG cells P N):=by
 have sy:∀{o:Int×Int},o∈qG cells P N↔o∈cells/\o∉P/\∃n∈N,gV o n=true:=λ{o}=>by
  unfold qG;rw[Q2,Jp,YY];constructor
  ·rintro⟨a,b,c⟩;exact⟨a,by simpa using b,c⟩
  ·rintro⟨a,b,c⟩;exact⟨a,by simpa using b,c⟩
 refine⟨Z4.mpr ⟨h.nd,J5 _ nc,λa ha b hb e=>?_⟩,λp hp=>?_,JS _ h.has,λn hn=>Qs _ hn,λy hy hn o ho ha=>?_⟩
 ·rw[e] at ha;exact(sy.mp hb).2.1 ha
 ·rcases QV.mp hp with q | q
  ·exact h.reach p q
  ·obtain⟨a,_,n,hn,F1⟩:=sy.mp q;exact .step (h.reach n<|h.sub n hn) a<|Kj F1
 ·rcases QV.mp hy with q | q
  ·by_cases z:y∈N
   ·by_cases w:o∈P
    ·exact JS _ w
    ·exact Qs _<|sy.mpr ⟨ho,w,y,z,ha⟩
   ·exact JS _<|h.fr y q z o ho ha
  ·exact X5 q hn
def ik.done(h:ik cells x P [])(y:Int×Int):y∈P↔dS cells x y:=by
 constructor
 ·exact h.reach y
 ·intro r;induction r with
  |refl _=>exact h.has
  |step r1 h2 h3 ih=>exact h.fr _ ih (by simp) _ h2<|Kj h3
structure mU (cs:List (Int×Int)) (T:List<|List (Int×Int)) (left:List (Int×Int)):Prop where
 nY:left.Pairwise cu
 sub:∀p∈left,p∈cs
 cl:∀x∈left,∀y,dS cs x y->y∈left
 pc:∀L∈T,l_ cs L
 Ox:∀y∈cs,y∈left∨∃L∈T,y∈L
 ord:T.Pairwise gb
 hd:∀L∈T,∃p r,L=p::r/\∀y∈left,cu p y
def mU.start(h:cs.Pairwise cu):mU cs [] cs:=⟨h,λp hp=>hp,λx _ y r=>r.right,λL hL=>(nomatch hL),λy hy=>.inl hy,.nil,λL hL=>(nomatch hL)⟩
def mU.rch(h:mU cs T left)(hx:x∈left)(r:dS cs x y):dS left x y:=by
 induction r with
 |refl _=>exact .refl hx
 |step r1 h2 h3 ih=>exact .step ih (h.cl x hx _<|.step r1 h2 h3) h3
def mU.step(h:mU cs T (x::left))(ms:M.Pairwise cu)(mm:∀y,y∈M↔dS (x::left) x y):mU cs (T++[M]) ((x::left).filter λc => !decide (c∈M)):=by
 have mc:∀y,y∈M↔dS cs x y:=λy=>by
  rw[mm];exact⟨λr=>r.mono h.sub,λr=>h.rch (.head _) r⟩
 have xl:=(Tf.mp h.nY).1;have fin:∀{y:Int×Int},y∈(x::left).filter (λc => !decide (c∈M))↔y∈x::left/\y∉M:=λ{y}=>by
  rw[Q2];constructor
  ·rintro⟨a,b⟩;exact⟨a,by simpa using b⟩
  ·rintro⟨a,b⟩;exact⟨a,by simpa using b⟩
 have xM:=(mm x).mpr<|.refl<|.head _;obtain⟨r,eM⟩:∃r,M=x::r:=by
  cases e:M with
  |nil=>rw[e] at xM;cases xM
  |cons p r=>
   rw[e] at ms xM;rcases Qv.mp xM with z | z
   ·exact⟨r,by rw[z]⟩
   ·have p1:=(Tf.mp ms).1 x z;have pl:=((mm p).mp (by rw[e];exact .head _)).right;rcases Qv.mp pl with w | w
    ·rw[w] at p1;exact X5 rfl<|nJ p1
    ·exact(SK p1<|xl p w).elim
 refine⟨J5 _ h.nY,λp hp=>h.sub p (fin.mp hp).1,λa ha y ry=>?_,λL hL=>?_,λy hy=>?_,?_,λL hL=>?_⟩
 ·obtain⟨a1,a2⟩:=fin.mp ha;exact fin.mpr ⟨h.cl a a1 y ry,λz=>a2<|(mc a).mpr<|((mc y).mp z).trans ry.symm⟩
 ·rcases QV.mp hL with z | z
  ·exact h.pc L z
  ·rw[Qm.mp z];exact⟨ms,x,h.sub x<|.head _,mc⟩
 ·rcases h.Ox y hy with z | ⟨L,hL,z⟩
  ·by_cases w:y∈M
   ·exact .inr ⟨M,by simp,w⟩
   ·exact .inl<|fin.mpr ⟨z,w⟩
  ·exact .inr ⟨L,JS _ hL,z⟩
 ·refine YJ.mpr ⟨h.ord,V1 _ _,λL hL S hS=>?_⟩;rw[Qm.mp hS,eM];obtain⟨p,q,rfl,hp⟩:=h.hd L hL;exact .inl<|hp x<|.head _
 ·rcases QV.mp hL with z | z
  ·obtain⟨p,q,e,hp⟩:=h.hd L z;exact⟨p,q,e,λy hy=>hp y (fin.mp hy).1⟩
  ·rw[Qm.mp z];refine⟨x,r,eM,λy hy=>?_⟩;obtain⟨y1,y2⟩:=fin.mp hy;rcases Qv.mp y1 with w | w
   ·rw[w] at y2;exact X5 xM y2
   ·exact xl y w
def mU.done(h:mU cs T []):∀y∈cs,∃L∈T,y∈L:=λy hy=>(h.Ox y hy).elim nofun id
def GH(cs:List (Int×Int)):Prop:=cs.Pairwise cu/\cs.length<=36/\∀p∈cs,0<=p.2/\p.2<64
def PQ:DF:=λargs R _=>∃(c:Int×Int)(L:List (Int×Int)),args=[.v<|pairD c,.v<|.list<|L.map pairD]/\R (.bool<|L.any λq=>gV c q)
def Us:DF:=λargs R _=>∃(x:Int×Int)(cells:List (Int×Int)),args=[.v<|pairD x,.v<|.list<|cells.map pairD]/\x∈cells/\GH cells/\∀M,M.Pairwise cu->(∀y,y∈M↔dS cells x y)->R (eX M)
def BK:DF:=λargs R _=>∃(h w:Nat)(f:Nat->Nat->Bool),args=[.v<|cX h w<|af h w f]/\h<=6/\w<=6/\R (cX h w<|af h w<|lO f)
def QsQ(ns:List Int):Q3 (.list<|ns.map Qr) (.list<|ns.map Qr)=true:=by
 show wV (ns.map Qr) (ns.map Qr)=true;induction ns with
 |nil=>rfl
 |cons x ns ih=>
  show(Q3 (.int x) (.int x)&&wV (ns.map Qr) (ns.map Qr))=true;rw[ih,J'];exact X1 rfl
def tF(f:Nat->Nat->Bool):Nat->Nat->Bool:=λr c=>f c r
end Rk
namespace Zt
structure a6 (h:Xl) (a:Xb) (es:Array (Int×Xc)) (ep:Nat) (t:SetTable):Prop where
 at_:∃o,h.get? a=some o/\o.ExactSet/\o.data=.set es ep t
 ft:t.fits es.size=true
def Sm(m:Nat):List Nat:=(QD 6).filter m.testBit
def tb(m:Nat)(led:Bool):SetTable:={ mask:=if 5<=(Sm m).length then 31 else 7,place:=(Sm m).toArray,dummies:=#[],finger:=0,led:=led,moves:=if 5<=(Sm m).length then 1 else 0,plain:=true }
def tp(m v:Nat)(led:Bool):SetTable:={ tb m led with place:=(Sm<|m ||| 2^v).toArray }
def cN(es:Array (Int×Xc))(S:List Nat):Prop:=∃cq:List Tok,cq.length=S.length/\es.toList=Cm (λ(v:Nat)(tk:Tok)=>((v:Int),nR (v:Int) tk)) S cq
def cN.size(h:cN es S):es.size=S.length:=by
 obtain⟨cq,hl,e⟩:=h;rw[<- Q5,e,List.length_zipWith,hl,Nat.min_self]
def cN.ins(h:cN es S)(p v:Nat)(tk:Tok):cN (Jy es p ((v:Int),.int v tk)) (S.take p++v::S.drop p):=by
 obtain⟨cq,hl,e⟩:=h;refine⟨cq.take p++tk::cq.drop p,by simp[hl],?_⟩;rw[SetTable.toList_insertAt,e,List.zipWith_append<|by simp[hl],List.take_zipWith,List.drop_zipWith];rfl
def Qvb:∀{cq:List Tok},e∈Cm (λ(v:Nat)(tk:Tok)=>((v:Int),nR (v:Int) tk)) S cq->∃v∈S,∃tk,e=((v:Int),.int v tk):=by
 induction S with
 |nil=>intro cq h;cases cq<;>cases h
 |cons x S ih=>
  intro cq h;cases cq with
  |nil=>cases h
  |cons t cq=>
   rcases Qv.mp h with z | z
   ·exact⟨x,.head _,t,z⟩
   ·obtain⟨v,hv,r⟩:=ih z;exact⟨v,.tail _ hv,r⟩
def Qvc{v:Nat}(hv:v∈S):∀{cq:List Tok},cq.length=S.length->∃tk,((v:Int),nR (v:Int) tk)∈Cm (λ(v:Nat)(tk:Tok)=>((v:Int),nR (v:Int) tk)) S cq:=by
 induction S with
 |nil=>cases hv
 |cons x S ih=>
  intro cq hl;cases cq with
  |nil=>cases hl
  |cons t cq=>
   rcases Qv.mp hv with z | z
   ·subst z;exact⟨t,.head _⟩
   ·obtain⟨tk,h⟩:=ih z<|YO hl;exact⟨tk,.tail _ h⟩
def cN.has(h:cN es S)(hv:v∈S):∃tk,((v:Int),nR (v:Int) tk)∈es.toList:=by
 obtain⟨cq,hl,e⟩:=h;rw[e];exact Qvc hv hl
end Zt
namespace Rk
open L2 _root_.Rd Dl Rt
def tN(ns:List Int):Xd:=.tuple<|ns.map Qr
end Rk
namespace L2
open _root_.Rd _root_.Rk _root_.Rs
section
variable{X:Cx}
def Ue:List V->Hp->VK->Prop:=λxs H Q=>∃(l:Xb)(vs:List V)(L:List (Int×Int)),xs=[.ref l]/\H l=some (.tup vs)/\aZ H vs (L.map Rk.pairD)/\L.Nodup/\L.length<64/\(∀ij∈L,0<=ij.2/\ij.2<64) /\
 ∀(t:Xb)(ys:List V)(M:List (Int×Int))(H2:Hp),ag H H2->H t=none->H2 t=some (.lst ys)->aZ H2 ys (M.map Rk.pairD)->M.Perm L->M.Pairwise (λa b=>Rs.code a<Rs.code b)->Q (.ref t) H2
def QjQ:aF X (.builtin "sorted") Ue:=by
 intro XI s σ H xs us Q I r h;obtain⟨l,vs,L,rfl,hl,ds,nd,qk,hb,q⟩:=h;obtain⟨u,rfl,ru⟩:=vals1 r;cases ru;obtain⟨hz,its,rv,o,ho,hc,_,n,hd⟩:=I.au l _ hl;have pv:=Ld I.au ds rv;have lv:=ds.length;have li:=rv.length;have lp:=pv.len;refine Qei (.inr rfl) ho hc hd (by omega) λh' kp P E' hP=>?_
 refine Qcj (Qo _ rfl) (by omega) (λh2 k2=>?_) nd hb λp g ad h2 e k2 e2=>hP _ ?_
 ·exact(pv.keep kp).keep λb x e=>k2 b x (Qy<|Ql e)<|Qe _ e
 ·have I1:=I.kept (t':=s.toks) kp;have hf:=I1.au.fresh<|Qf _;have hp:∀i∈p.toList,i<vs.length:=λi hi=>by have:=Jw.mp<|g.perm.mem_iff.mp hi;omega
  have I2:=
   I1.laid (t':=s.toks) (λb x e'=>k2 b x (Qy<|Ql e')<|Qe _ e') (Qf _) (show aO X.prog X.w _ _ _ (.lst _) from⟨by rw[Qd,Q5,g.size];exact Ja<|Rk.Zv<|by omega,_,e,KQ λi hi=>Kb rv i<|hp i hi,e2⟩)
  have g':Good L.length p:=by rw[<- lp];exact g
  have GF:gK (λi=>Rs.code<|L.getD i (0,0)) p L.length:=by rw[<- lp];exact ad
  refine⟨.ref h'.objs.size,_,I2,rfl,q _ _ (p.toList.map λi=>L.getD i (0,0)) _ (Jl hf) hf QC (Kr λi hi=>(IV ds i<|hp i hi).same<|Jl hf) (Wd g')<|We g' GF λi j hi hj e=>?_⟩;have bi:0<=(L.getD i (0,0)).2/\(L.getD i (0,0)).2<64:=by rw[Qi,Qc hi];exact hb _<|Jz _
  have bj:0<=(L.getD j (0,0)).2/\(L.getD j (0,0)).2<64:=by rw[Qi,Qc hj];exact hb _<|Jz _
  unfold Rs.code at e;have e':L.getD i (0,0)=L.getD j (0,0):=v9 (by omega) (by omega);rw[Qi,Qi,Qc hi,Qc hj] at e';have pw:=ZT.mp nd;rcases Dq i j with z | z | z
  ·exact X5 e'<|pw i j hi hj z
  ·exact z
  ·exact X5 e'.symm<|pw j i hj hi z
end
end L2


namespace Rk
open L2 _root_.Rd Dl Rt
@[irreducible] def zw:List Xd->(Xd->Prop)->Prop:=λds Q=>∃L:List (Int×Int),ds=[.tuple<|L.map pairD]/\L.Nodup/\L.length<64/\(∀p∈L,0<=p.2/\p.2<64)/\∀M:List (Int×Int),M.Perm L->M.Pairwise cu->Q (.list<|M.map pairD)
def Qm6(h1:L.Nodup)(h2:L.length<64)(h3:∀p∈L,0<=p.2/\p.2<64)(k:∀M:List (Int×Int),M.Perm L->M.Pairwise cu->Q (.list<|M.map pairD)):zw [.tuple<|L.map pairD] Q:=by
 unfold zw;exact⟨L,rfl,h1,h2,h3,k⟩
def Qo1:iZ Ue zw:=λA P H vs ds R Q ln dm q h k=>by
 unfold zw at h;obtain⟨L,rfl,h1,h2,h3,hR⟩:=h;obtain⟨v,rfl,hv⟩:=kW q;obtain⟨l,xs,rfl,e,qq⟩:=hv.tuple;refine⟨l,xs,L,rfl,e,zG _ _ (Yz L) qq,h1,h2,h3,λt ys M H2 s n e2 Ge pm pw=>?_⟩;have Gf:∀a,A a->∃xs,H2 a=some (.lst xs):=λa z=>by obtain⟨xs,e⟩:=dm a z;exact⟨xs,s _ _ e⟩
 have pl:M.Pairwise cu:=by
  have hb:=λp hp=>h3 p<|pm.mem_iff.mp hp
  refine Yw (λ{a b} ha dP hc=>?_) pw;have:=hb a ha;have:=hb b dP;have hc:64*a.1+a.2<64*b.1+b.2:=hc;show a.1<b.1∨(a.1=b.1/\a.2<b.2);omega
 refine k _ (hR M pm pl) _ H2 s (.lst (λz=>?_) e2<|K' Gf Ge)<|q0 n;obtain⟨xs,e⟩:=dm t z;rw[n] at e;cases e
end Rk
namespace Rk
open L2 _root_.Rd
def top(i:Nat):Ze:=Qyy.main.body.getD i<|.Pass ⟨0,0,0,0⟩
abbrev Sr:Ze:=top 22
abbrev Ul:Ze:=top 23
abbrev Si:Ze:=top 26
abbrev OV:Ze:=top 27
abbrev Sn:Ze:=top 28
abbrev Nf:Ze:=top 31
abbrev OT:Ze:=top 32
abbrev Uk:Ze:=top 33
abbrev Ng:Ze:=top 34
abbrev Sg:Ze:=top 35
abbrev Uj:Ze:=top 37
abbrev OS:Ze:=top 39
abbrev Vk:Ze:=top 40
abbrev Sk:Ze:=top 41
abbrev xu:Ze:=top 42
abbrev OU:Ze:=top 43
abbrev Ui:Ze:=top 44
abbrev Pt:Ze:=top 45
abbrev Pu:Ze:=top 46
abbrev xn:Ze:=top 47
abbrev Sd:Ze:=top 51
abbrev xo:Ze:=top 57
abbrev xm:Ze:=top 58
abbrev Tz:Ze:=top 90
abbrev xR:Ze:=top 91
abbrev QAw:Ze:=top 92
abbrev QAx:Ze:=top 93
abbrev GU:Ze:=top 96
section
variable{P:QB}{w:Jf}{K:Qa}{mg:Str->Option Xc}{base:Xl}
def Qn8(F:az P w K mg base "_law_cell_at" Tz)(T:aB mg):ar P w K mg base aq 1 "_law_cell_at" (Vn K):=by
 refine fG ["_law_script", "_law_k"] 2 F λaj A outer s H vs Q E nD hr h=>?_
 obtain⟨a,ns,n,rfl,hs,hl,h0,k⟩:=h;refine⟨_,Qu (d_ (JK yR (pv 1) (Zc Zx rfl T.len iK<|Qj (pv 0) Qp)<|JE _) (QP<|JV<|fm Yn (pv 0) (pv 1) λ_ _=>rfl) Zu)<|QP<|JV Jj,?_⟩;refine⟨_,rfl,_,rfl,a,_,rfl,.inl hs,_,_,rfl,rfl,_,rfl,(QEg (λdf=>?_) λ_=>k 0)⟩;have FN:=X2 df;rw[Qd] at FN;obtain⟨j,rfl⟩:=Yh h0;have hj:j<ns.length:=by omega
 refine⟨_,rfl,_,rfl,a,_,_,.int ns[j],rfl,rfl,hs,Jc ?_,k _⟩;rw[Qt,Qc hj];rfl
def QAh(F:az P w K mg base "_law_pot" xR)(T:aB mg):ar P w K mg base aq 1 "_law_pot" PD:=by
 refine fG ["_law_cell", "_law_number", "_law_j", "_law_more"] 1 F λaj A outer s H vs Q E nD hr h=>?_
 obtain⟨c,rfl,k⟩:=h;refine⟨_,Qu (d_ (JK G8 (pv 0) (YQ HM Jj Jj)<|JE _) (QP<|JV<|P5<|Qj (YQ tY (pv 0)<|YQ HM Jj Jj) Qp) Zu)
  (Qu (i9 (i:=1) nD rfl (QJ rfl) Jj)
  (Qu (BZ JQ rfl (uE (by rfl) T.range<|Qj Jj Qp) (ZC (i:=2) nD rfl<|QJ rfl)
   (Qu (i9 (i:=3) nD rfl (QJ rfl)<|YQ yX (YQ vT (YQ tU (YQ tU (YQ yX (pv 0) Jj)<|YQ vT Jj<|pv 2) Jj) Jj) Jj)
   (Qu (i9 (i:=3) nD rfl (QJ rfl)<|YQ yX (YQ tU (YQ tU (YQ vT (pv 3)<|pv 3)<|YQ vT Jj<|pv 2) Jj) Jj)
   (QP<|i9 (i:=1) nD rfl (QJ rfl)<|YQ tU (YQ vT (pv 1) Jj)<|pv 3))))
  (QP<|JV<|P5<|Qj (pv 1) Qp))),?_⟩
 refine⟨_,rfl,_,_,rfl,rfl,⟨by decide,by decide,by decide⟩,_,_,rfl,rfl,_,rfl,?_⟩;refine QEg (λ_=>?_) λ_=>?_
 ·exact⟨_,rfl,_,_,rfl,rfl,⟨by decide,by decide,by decide⟩,_,_,rfl,rfl,by show 1<=Xj;decide,λp hp=>k p _ hp⟩
 ·refine⟨64,rfl,by decide,by decide,La (n:=64) (λi σ H2=>∃n v u,σ=[some<|.int c,some<|.int n,v,u]/\H2=H) ⟨0,none,none,rfl,rfl⟩ ?_ ?_⟩
  ·rintro i σ H2 hi ⟨n,v,u,rfl,rfl⟩;have b1:=VU ((c % 2147483629+7919*(0+(i:Int))+1)*48271) (m:=2147483647) (by decide);refine⟨_,rfl,_,_,rfl,rfl,by show(0:Int)<2147483629;decide,_,rfl,_,_,rfl,rfl,.inl ⟨by decide,by decide⟩,_,_,rfl,rfl,_,_,rfl,rfl,_,_,rfl,rfl,.inr ⟨by decide,by decide⟩,_,_,rfl,rfl,by show(0:Int)<2147483647;decide,?_⟩;refine⟨_,rfl,_,rfl,_,_,rfl,rfl,.inl ⟨by omega,by omega⟩,_,rfl,_,_,rfl,rfl,.inl ⟨by decide,by decide⟩,_,_,rfl,rfl,_,_,rfl,rfl,_,_,rfl,rfl,by show(0:Int)<2147483587;decide,?_⟩;exact⟨_,rfl,_,_,rfl,rfl,.inr ⟨by decide,by decide⟩,_,rfl,_,_,rfl,rfl,_,_,_,rfl,rfl⟩
  ·rintro σ H2 ⟨n,v,u,rfl,rfl⟩;exact⟨_,rfl,by show 1<=Xj;decide,λp hp=>k p _ hp⟩
def QwK(F:az P w K mg base "_law_take" QAw)(T:aB mg):ar P w K mg base aq 1 "_law_take" CG:=by
 refine fG ["_law_pot_here", "_law_far", "_law_found"] 2 F λaj A outer s H vs Q E nD hr h=>?_
 obtain⟨p,n,m,rfl,hp,h0,h1,k⟩:=h;refine⟨_,Qu (i9 (i:=2) nD rfl (QJ rfl)<|YQ yX (fm Yn (pv 0) Jj λ_ _=>rfl)<|pv 1)
  (Qu (pj (YQ QrY (fm Yn (pv 0) Jj λ_ _=>rfl)<|pv 1)<|HQ (pv 0) Jj CF)
  (QP<|JV<|pv 2)),?_⟩
 have b:=VU n h0;exact⟨_,rfl,p,_,_,_,rfl,rfl,aA.of hp,rfl,_,rfl,_,_,rfl,rfl,h0,_,rfl,p,_,_,_,rfl,rfl,aA.of hp,rfl,_,rfl,_,_,rfl,rfl,⟨h0,h1⟩,_,rfl,p,_,_,_,rfl,rfl,hp,rfl,_,rfl,k _ _ b.1 b.2⟩
end
end Rk
namespace Rk
open L2 _root_.Rd
open Dl
open Rt
def BC:DF:=λargs R _=>∃(h w:Nat)(f:Nat->Nat->Bool),args=[.v<|cX h w<|af h w f]/\h<=6/\w<=6/\R (cX w h<|af w h<|tF f)
structure Bo where
 h:Nat
 w:Nat
 f:Nat->Nat->Bool
def Bo.d(b:Bo):Xd:=cX b.h b.w<|af b.h b.w b.f
structure Bo.ok (b:Bo):Prop where
 h1:1<=b.h
 h6:b.h<=6
 w1:1<=b.w
 w6:b.w<=6
inductive bq where
 |put (x y:Xd) | take (x y:Xd) | row | col | turn | rest | aT
def bq.wd:bq->Str
 |.put _ _ => "put" | .take _ _ => "take" | .row => "row" | .col => "column" | .turn => "turn" | .rest => "rest" | .aT => "undo"
def bq.xf:bq->List Xd
 |.put x y=>[x,y] | .take x y=>[x,y] | _=>[]
def nI:Xd->Nat
 |.int i=>i.toNat
 |_=>0
def hZ(b:Bo)(x y:Xd):Bool:=Ab b.h b.w<|.tuple [x,y]
def DR:bq->Bo->Option Str
 |.put x y,b=>if hZ b x y=true then(if b.f (nI x) (nI y)=true then some "double" else none) else some "place"
 |.take x y,b=>if hZ b x y=true then(if b.f (nI x) (nI y)=true then none else some "cell") else some "place"
 |.row,b=>if b.h=6 then some "many" else none
 |.col,b=>if b.w=6 then some "many" else none
 |_,_=>none
def fF:bq->Bo->Bo
 |.put x y,b=>⟨b.h,b.w,Ea b.f (nI x) (nI y) true⟩
 |.take x y,b=>⟨b.h,b.w,Ea b.f (nI x) (nI y) false⟩
 |.row,b=>⟨b.h+1,b.w,λr c=>b.f r c&&decide (r<b.h)⟩
 |.col,b=>⟨b.h,b.w+1,λr c=>b.f r c&&decide (c<b.w)⟩
 |.turn,b=>⟨b.w,b.h,tF b.f⟩
 |.rest,b=>⟨b.h,b.w,lO b.f⟩
 |.aT,b=>b
def QAK(h:hZ b x y=true):∃r c:Nat,x=.int r/\y=.int c/\r<b.h/\c<b.w:=by
 obtain⟨p,e,h1,h2,h3,h4⟩:=QAF h;obtain⟨i,j⟩:=p;cases e;have h1:=h1;have h2:=h2;have h3:=h3;have h4:=h4;exact⟨i.toNat,j.toNat,by rw[Ls h1],by rw[Ls h3],by omega,by omega⟩
def QDt{r c:Nat}(hr:r<b.h)(hc:c<b.w):hZ b (.int r) (.int c)=true:=QAE (p:=(r,c)) (by omega) (by omega) (by omega) (by omega)
def Dg(pw:M.Pairwise cu)(m:∀p,p∈M↔p∈af h w g):M=af h w g:=by
 have n1:=pw.imp nJ;have n2:=(aH w g h).imp nJ;exact ZQ (λa b _ _ h1 h2=>by rcases h1 with x | x<;>rcases h2 with y | y<;>omega) pw (aH w g h)<|(Zg n1 n2).mpr m
def QoX(h w:Nat)(f:Nat->Nat->Bool):af (h+1) w (λr c=>f r c&&decide (r<h))=af h w f:=by
 refine(Dg (aH w _ _) λp=>?_);rw[JY,JY];constructor
 ·rintro⟨r,c,_,hc,e,rfl⟩;have e:=Qz.mp e;exact⟨r,c,X2 e.2,hc,e.1,rfl⟩
 ·rintro⟨r,c,hr,hc,e,rfl⟩;exact⟨r,c,by omega,hc,by rw[e,X1 hr];rfl,rfl⟩
def QoZ(h w:Nat)(f:Nat->Nat->Bool):af h (w+1) (λr c=>f r c&&decide (c<w))=af h w f:=by
 refine(Dg (aH (w+1) _ _) λp=>?_);rw[JY,JY];constructor
 ·rintro⟨r,c,hr,_,e,rfl⟩;have e:=Qz.mp e;exact⟨r,c,hr,X2 e.2,e.1,rfl⟩
 ·rintro⟨r,c,hr,hc,e,rfl⟩;exact⟨r,c,hr,by omega,by rw[e,X1 hc];rfl,rfl⟩
def Qs7{r c:Nat}:(af h w f).filter (λq => !decide (q=((r:Int),(c:Int))))=af h w (Ea f r c false):=by
 refine Dg ((aH w f h).filter _) λp=>?_
 rw[Q2,JY,JY];constructor
 ·rintro⟨⟨r',c',hr,hc,e,rfl⟩,z⟩;refine⟨r',c',hr,hc,?_,rfl⟩;have z:=X3 (by cases zz:decide (((r':Int),(c':Int))=((r:Int),(c:Int))) with | false=>rfl | true=>rw[zz] at z;cases z);show(if r'=r/\c'=c then false else f r' c')=true;rw[XY λy=>z<|by rw[y.1,y.2]];exact e
 ·rintro⟨r',c',hr,hc,e,rfl⟩;have e:(if r'=r/\c'=c then false else f r' c')=true:=e;by_cases y:r'=r/\c'=c
  ·rw[XZ y] at e;cases e
  ·rw[XY y] at e;refine⟨⟨r',c',hr,hc,e,rfl⟩,?_⟩;have:¬(((r':Int),(c':Int))=((r:Int),(c:Int))):=λz=>y ⟨by have:=(ZG z).1;omega,by have:=(ZG z).2;omega⟩
   rw[X0 this];rfl
def QoY(hr:r<h)(hc:c<w)(pm:M.Perm<|af h w f++[((r:Int),(c:Int))])(pw:M.Pairwise cu):M=af h w (Ea f r c true):=by
 refine Dg pw λp=>?_
 rw[pm.mem_iff,QV,Qm,JY,JY];constructor
 ·rintro(⟨r',c',qe,jT,e,rfl⟩ | rfl)
  ·refine⟨r',c',qe,jT,?_,rfl⟩;show(if r'=r/\c'=c then true else f r' c')=true;split
   ·rfl
   ·exact e
  ·exact⟨r,c,hr,hc,XZ ⟨rfl,rfl⟩,rfl⟩
 ·rintro⟨r',c',qe,jT,e,rfl⟩;have e:(if r'=r/\c'=c then true else f r' c')=true:=e;by_cases y:r'=r/\c'=c
  ·exact .inr (by rw[y.1,y.2])
  ·rw[XY y] at e;exact .inl ⟨r',c',qe,jT,e,rfl⟩
def QvS{f:Nat->Nat->Bool}(hf:f r c=false):(af h w f++[((r:Int),(c:Int))]).Nodup:=by
 refine Z4.mpr ⟨(aH w f h).imp nJ,zS.mpr ⟨Jo,List.nodup_nil⟩,λp hp q hq e=>?_⟩;rw[Qm] at hq;subst hq;subst e;obtain⟨r',c',_,_,e,z⟩:=JY.mp hp;have e1:=(ZG z).1;have e2:=(ZG z).2;rw[show r'=r by omega,show c'=c by omega,hf] at e;cases e
def QAt(hr:r<h)(hc:c<w):decide (((r:Int),(c:Int))∈af h w f)=f r c:=by
 rw[JX,X4,JY];constructor
 ·rintro⟨r',c',_,_,hf,e⟩;have e1:=(ZG e).1;have e2:=(ZG e).2;rw[show r=r' by omega,show c=c' by omega];exact hf
 ·intro hf;exact⟨r,c,hr,hc,hf,rfl⟩
def Bo.fM{b:Bo}(o:b.ok):u3 b.h b.w (af b.h b.w b.f):=⟨o.h6,o.w6,λp hp=>rC hp⟩
def ME(C:Xb):DF:=λargs R EX=>∃(b:Bo)(x y:Xd),args=[.v b.d,.v x,.v y]/\(hZ b x y=true->R .none)/\(hZ b x y=false->EX C)
def MG(C:Xb):DF:=λargs R EX=>∃n:Nat,args=[.v<|.int n]/\(n=6->EX C)/\(n≠6->R .none)
def R6(C:Xb):DF:=λargs R EX=>∃(b:Bo)(r c:Nat),args=[.v b.d,.v<|pairD ((r:Int),(c:Int))]/\r<b.h/\c<b.w/\(b.f r c=false->EX C)/\(b.f r c=true->R .none)
def QDZ(C:Xb):DF:=λargs R EX=>∃(b:Bo)(r c:Nat),args=[.v b.d,.v<|pairD ((r:Int),(c:Int))]/\r<b.h/\c<b.w/\(b.f r c=false->EX C)/\(b.f r c=true->R (fF (.take (.int r)<|.int c) b).d)
def R8:DF:=λargs R _=>∃(h w:Nat)(cs:List (Int×Int))(k:Nat),args=[.v<|cX h w cs,.v<|.int k]/\k<=min h w/\R .none
def CH:DF:=λargs R _=>∃(h w:Nat)(cs:List (Int×Int))(k n:Nat)(L:List (Int×Int)),args=[.v<|cX h w cs,.v<|.int k,.v<|.int n]/\GB h w cs/\k<=min h w/\(fB cs k)[n]? = some L/\R (eX L)
section
variable{P:QB}{w:Jf}{K:Qa}{mg:Str->Option Xc}{base:Xl}
def QrZ(F:az P w K mg base "is_whole" Sr)(T:aB mg) :
  ar P w K mg base aq 1 "is_whole" (Zz false RT):=by
 refine eA ["thing"] 1 false F λaj A outer s H E nD hr hU hI=>?_
 refine⟨_,Ji<|o9<|Hg (JC<|zd .int rfl T.isinstance (qp 0) rfl T.int BI)<|Bt<|QCV<|JC<|zd .bool rfl T.isinstance (qp 0) rfl T.bool Qx2,λargs R EX h=>?_⟩;obtain⟨d,rfl,hR⟩:=h;cases d<;>exact hR
def Qn1(F:az P w K mg base "is_whole_within" Ul)(T:aB mg)
  (c1:ar P w K mg base aq 1 "is_whole"<|Zz false RT) :
  ar P w K mg base aq 2 "is_whole_within" (Zz false zt):=by
 refine eA ["thing", "least", "most"] 3 false F λaj A outer s H E nD hr hU hI=>⟨_,Ji<|o9<|Hg (Jg<|eT c1 hr<|Ys (qv 0) Zf)<|Bt<|Zo<|QEV OZ OZ (qp 1) (qp 0)<|qp 2,λargs R EX h=>?_⟩
 obtain⟨d,a,b,rfl,hR⟩:=h;refine⟨d,rfl,?_⟩;cases d with
 |int i=>exact bI<|QBw hR
 |_=>exact hR
def Qr4(F:az P w K mg base "is_place" Si)(T:aB mg)
  (c1:ar P w K mg base aq 2 "is_whole_within"<|Zz false zt) :
  ar P w K mg base aq 3 "is_place" (Zz false P7):=by
 refine eA ["high", "wide", "thing"] 3 false F λaj A outer s H E nD hr hU hI=>?_
 refine⟨_,QZ (j3 (yF<|OF (o_<|pe<|JC<|zd .tuple rfl T.isinstance (qp 2) rfl T.tuple rg)<|SV<|gY HL (G9 hU) (JC<|l7 CZ BJ rfl T.len iK<|gc (qp 2) Js) (Jg JI)<|JE _) (Ji<|o9 MB) j_)
  (Ji<|o9<|Hg (Jg<|eT c1 hr<|Ys (bJ J6 ZX (qp 2) (Jg JI) λ_ _=>rfl)<|Ys JI<|Ys (Zo<|YH tY qX (qp 0)<|Jg JI) Zf)<|Bt<|eT c1 hr<|Ys (bJ J6 ZX (qp 2) (Jg JI) λ_ _=>rfl)<|Ys JI<|Ys (Zo<|YH tY qX (qp 1)<|Jg JI) Zf),λargs R EX h=>?_⟩
 obtain⟨h,w,d,rfl,hR⟩:=h;cases d with
 |tuple ds=>
  match ds,hR with
  |[a,b],hR=>
   refine⟨a,rfl,_,_,_,rfl,(Qya hR λ_ hR=>?_)⟩;exact⟨b,rfl,_,_,_,rfl,hR⟩
  |[],hR=>exact hR
  |[_],hR=>exact hR
  |a::b::c::r,hR=>
   exact hR
 |_=>exact hR
def QwQ(F:az P w K mg base "most_size" OS)(T:aB mg) :
  ar P w K mg base aq 1 "most_size" (Zz false GY):=by
 refine eA ["board"] 1 false F λaj A outer s H E nD hr hU hI=>?_
 refine⟨_,Ji<|j9<|l7 (WE rfl) Qs8 rfl T.min Rf<|gc (Jg<|bJ J6 ZX (qp 0) (Jg JI) λ_ _=>rfl)<|gc (Jg<|bJ J6 ZX (qp 0) (Jg JI) λ_ _=>rfl) Js,λargs R EX h=>?_⟩;obtain⟨h,w,cs,rfl,hR⟩:=h;exact⟨_,Jc rfl,_,Jc rfl,Qxf (by split<;>omega) hR⟩
def QwB(F:az P w K mg base "ways_with_row" xn)(T:aB mg) :
  ar P w K mg base aq 1 "ways_with_row" (Zz true Pl):=by
 refine eA ["below", "columns", "taken", "ways", "column", "bit", "size", "many"] 3 true F λaj A outer s H E nD hr hU hI=>?_
 refine⟨_,QZ (zl 3 (rn L7 IQ rfl T.list IP<|gc (Jg<|bJ J6 ZX (qp 0) (qp 2) λ_ _=>rfl) Js) nD)
  (QZ (ze JQ rfl (wq<|qv 1) (YG 4 nD rfl<|by first | exact QJ rfl | exact QU rfl)
   (QZ (Z7 5 (Zo<|YH BU vJ (Jg JI)<|qp 4) nD)
  (Ji<|j3 (o_<|v7<|JC<|YH Qz9 qX (qp 2)<|qp 5) (Ji<|ze JQ rfl (Vd rfl T.enumerate<|Zo<|T8 (Jg<|bJ J6 ZX (qp 0) (JC<|YH QDa qX (qp 2)<|qp 5) λ_ _=>rfl) T_<|Ua<|JC<|Hi<|Jg JI) (kG rfl<|J8 6 (J8 7 kF nD rfl<|by first | exact QJ rfl | exact QU rfl) nD rfl<|by first | exact QJ rfl | exact QU rfl)
   (Ji<|QvM 3 PK Ir (JC<|YH YI ja (qp 6)<|Jg JI)<|qp 7)) j_)))
  (Ji<|IH 3)),λargs R EX h=>?_⟩
 obtain⟨h,w,B,cols,t,rfl,ht,hc,h6,w6,hR⟩:=h;refine⟨_,Jc<|zx ht,(C2 (λj δ=>∃ds x4 x5 x6 x7,δ=[.v<|.list<|jD h w B,.v<|.list<|sZ cols,.v<|.int t,.own ds,x4,x5,x6,x7]/\ds=fi h (qT B (cols.take j) t)) ⟨_,_,_,_,_,rfl,zQ λk _=>?_⟩ ?_ ?_)⟩
 ·show B t k=B t k+if k=0 then 0 else 0
  split<;>omega
 ·rintro j d δ hd ⟨ds,x4,x5,x6,x7,rfl,rfl⟩;unfold sZ at hd;rw[Qt] at hd;obtain⟨c,ec,rfl⟩:∃c:Nat,cols[j]? = some c/\d=.int c:=by
   cases e:cols[j]? with
   |none=>rw[e] at hd;cases hd
   |some p=>rw[e] at hd;cases hd;exact⟨p,rfl,rfl⟩
  have FW:=hc c<|Je ec;have et:cols.take (j+1)=cols.take j++[c]:=by rw[z8,ec];rfl
  refine⟨⟨by omega,by omega,by decide⟩,trivial,?_⟩;show if(!AB (.int<|CL t<|1*2^(c:Int).toNat))=true then _ else _
  rw[Qyb ht FW w6];cases hb:t.testBit c with
  |true=>
   have np:(2:Int)^c≠0:=by
    have:(0:Int)<2^c:=Int.pow_pos (by decide);omega
   rw[XZ rfl];refine NS ?_ ⟨_,_,_,_,_,rfl,zQ λk _=>?_⟩
   ·show(!(2^c != 0))=false;simp[np]
   ·unfold qT;rw[et,LH,XZ hb,zC]
  |false=>
   refine Fy rfl ?_
   have olt:=OW ht FW;refine⟨.list<|fi h<|B<|t ||| 2^c,?_,?_⟩
   ·rw[Qz0 ht FW w6];exact Jc<|zx olt
   ·show sY (qO<|Dl.cutD (fi h<|B<|t ||| 2^c) none<|some<|-1) _ _ _ _;rw[Qro];refine C2 (λi δ=>∃ds x6 x7,δ=[.v<|.list<|jD h w B,.v<|.list<|sZ cols,.v<|.int t,.own ds,.v<|.int c,.v<|.int<|1*2^(c:Int).toNat,x6,x7]/\ds=fi h (λk=>qT B (cols.take j) t k+if 1<=k/\k<=i then B (t ||| 2^c) (k - 1) else 0)) ⟨_,_,_,rfl,zQ λk _=>?_⟩ ?_ ?_
    ·rw[XY<|by omega,zC]
    ·rintro i d δ hd ⟨ds,x6,x7,rfl,rfl⟩;obtain⟨e,he,rfl⟩:=Ks hd;rw[Qt] at he;have hi:i<h:=by
      by_cases z:i<h
      ·exact z
      ·rw[Jq (by rw[QR];omega)] at he;cases he
     rw[JN hi] at he;cases he;refine⟨rfl,i+1,_,?_,rf<|by omega,_,_,_,rfl,?_⟩
     ·rw[wJ];exact IZ (k:=i+1) (by omega)
     ·rw[Qrm<|by omega];refine zQ λk hk=>?_
      by_cases z:k=i+1
      ·subst z;rw[XZ rfl,XY<|by omega,XZ<|by omega,LC,zC]
      ·rw[XY z];by_cases z2:1<=k/\k<=i
       ·rw[XZ z2,XZ<|by omega]
       ·rw[XY z2,XY<|by omega]
    ·rintro δ ⟨ds,x6,x7,rfl,rfl⟩;rw[Kt,Qd,QR];refine⟨_,_,_,_,_,rfl,zQ λk hk=>?_⟩;unfold qT;rw[et];by_cases z:k=0
     ·subst z;rw[XZ rfl,XY<|by omega,XZ rfl];omega
     ·rw[XY z,XY z,XZ<|by omega,LH,XY (by rw[hb];decide)];omega
 ·rintro δ ⟨ds,x4,x5,x6,x7,rfl,rfl⟩;unfold sZ;rw[Qd,YX];exact hR
def Qsq:(["taken", "high"]:List Str).Nodup:=by decide
def VE:(["at", "column", "row"]:List Str).Nodup:=by decide
def Qsp:(["taken", "columns", "table"]:List Str).Nodup:=by decide
def QwD(F:az P w K mg base "ways_to_go_on" Pu)(T:aB mg)
  (c1:ar P w K mg base aq 1 "ways_with_row"<|Zz true Pl) :
  ar P w K mg base aq 2 "ways_to_go_on" (Zz true He):=by
 refine eA ["board", "high", "wide", "cells", "table", "row", "columns"] 1 true F λaj A outer s H E nD hr hU hI=>?_
 refine⟨_,QZ (vZ (qv 0)<|kG rfl<|J8 1 (J8 2 (J8 3 kF nD rfl<|by first | exact QJ rfl | exact QU rfl) nD rfl<|by first | exact QJ rfl | exact QU rfl) nD rfl<|by first | exact QJ rfl | exact QU rfl)
  (QZ (zl 4 (kB<|Yi (Zo<|j6 ["taken", "high"] [none,some 1] (zk (by rfl) T.range<|JC<|YH BU vJ (Jg JI)<|qp 2) λcl ex s3 H3 C=>⟨(YG 0 Qsq rfl (QJ rfl)<|QU rfl),pB,(Zo<|YH YI ja (JC<|kB<|Yi JI Js)<|JC<|YH Uo PZ (JC<|kB<|Yi JI Js)<|qp 1)⟩) Js) nD)
  (QZ (ze JQ rfl (T9 (by rfl) T.reversed (by rfl) T.range<|qp 1) (YG 5 nD rfl<|by first | exact QJ rfl | exact QU rfl)
   (QZ (Z7 6 (Zo<|j6 ["at", "column", "row"] [none,none,some 5] (vY<|qp 3) λcl ex s3 H3 C=>⟨(kG rfl<|J8 0 (J8 1 kF VE rfl (QJ rfl)<|QU rfl) VE rfl (QJ rfl)<|QU rfl),(uf<|gY BS (Bl hU) (qp 0) (qp 2)<|JE _),(qv 1)⟩) nD)
  (Ji<|Qzu 4 JI<|Zo<|j6 ["taken", "columns", "table"] [none,some 6,some 4] (zk (by rfl) T.range<|JC<|YH BU vJ (Jg JI)<|qp 2) λcl ex s3 H3 C=>⟨(YG 0 Qsp rfl (QJ rfl)<|QU rfl),pB,(Zo<|lX c1 hr<|Ys (bJ J6 ZX (qp 2) (Jg JI) λ_ _=>rfl)<|Ys (qv 1)<|Ys (qv 0) Zf)⟩)))
  (Ji<|IH 4))),λargs R EX h=>?_⟩
 obtain⟨h,w,cs,rfl,h6,w6,hb,hR⟩:=h;refine⟨rfl,⟨by omega,by omega,by decide⟩,?_,vM (λ_=>.list (Qr 1::Q8 h (.int 0))) (λd hd k2 hk=>?_) ?_⟩
 ·exact SM w6
 ·refine⟨⟨by omega,by omega,by rw[QY];show 1*h<=_;omega⟩,?_⟩;rw[QY,QvF];refine⟨by rw[Dy];show 1+h<=_;omega,hk⟩
 ·have e0:(jC 0 (1*2^((w:Nat):Int).toNat:Int).toNat).map (λ_=>Yr (Qr 1::Q8 h (.int 0)))=jD h w (Wc cs h 0):=by
   rw[Ci,QY];unfold jC jD;rw[Q4];refine Ly λt _=>?_
   show Yr _=Yr _;rw[Qrn]
  rw[e0];refine⟨⟨by omega,by omega⟩,C2 (λi δ=>∃ds x5 x6,δ=[.v<|cX h w cs,.v<|.int h,.v<|.int w,.v<|.tuple<|cs.map pairD,.own ds,x5,x6]/\ds=jE cs h w i) ⟨_,_,_,rfl,rfl⟩ ?_ ?_⟩
  ·rintro i d δ hd ⟨ds,x5,x6,rfl,rfl⟩;obtain⟨hi,rfl⟩:=KA hd;rw[QY] at hi;have er:((((h:Nat):Int).toNat:Nat):Int) - 1 - (i:Int)=((h - 1 - i:Nat):Int):=by omega
   rw[er];refine vL (λd=>if(fw d).1=((h - 1 - i:Nat):Int) then some (.int (fw d).2) else none) (λd hd k1 k2 h1 h2=>?_) ?_
   ·obtain⟨p,_,rfl⟩:=Qq.mp hd;have h1:(if p.1=((h - 1 - i:Nat):Int) then some (Qr p.2) else none)=none->k1:=h1;have h2:∀e,(if p.1=((h - 1 - i:Nat):Int) then some (Qr p.2) else none)=some e->k2 e:=h2
    refine⟨rfl,?_⟩;show if decide (p.1=((h - 1 - i:Nat):Int))=true then k2 (.int p.2) else k1
    by_cases z:p.1=((h - 1 - i:Nat):Int)
    ·rw[XZ<|X1 z];exact h2 _<|XZ z
    ·rw[XY<|by simpa using z];exact h1<|XY z
   ·rw[QBe cs (h - 1 - i) λp hp=>(hb p hp).1];refine⟨⟨by omega,by omega,by decide⟩,?_,vM (λd=>match d with | .int t=>.list (fi h<|Wc cs h (i+1) t.toNat) | _=>.none) (λd hd k2 hk=>?_) ?_⟩
    ·exact SM w6
    ·obtain⟨t,ht⟩:=ZP.mp hd;obtain⟨NT,rfl⟩:=zu ht;rw[Ci,QY] at NT;have hk:k2 (.list<|fi h<|Wc cs h (i+1) (0+(t:Int)).toNat):=hk;rw[show(0+(t:Int)).toNat=t by omega] at hk;refine⟨_,Jc (j:=0)<|IK cs h w i,h,w,Wc cs h i,oV cs<|h - 1 - i,t,by rw[show(0:Int)+(t:Int)=(t:Int) by omega],NT,λc hc=>QxR hb hc,h6,w6,hk⟩
    ·refine⟨by rw[V3];omega,_,_,_,rfl,?_⟩;show Yr _::jE cs h w i=Yr (jD h w<|Wc cs h<|i+1)::jE cs h w i
     congr 2
     rw[Ci,QY];unfold jC jD;rw[Q4];refine Ly λt _=>?_
     show Yr (fi h<|Wc cs h (i+1) (0+(t:Int)).toNat)=_;rw[show(0+(t:Int)).toNat=t by omega]
  ·rintro δ ⟨ds,x5,x6,rfl,rfl⟩;rw[CC,QY];exact hR
def Qn6(F:az P w K mg base "counts" Uj)(T:aB mg)
  (c1:ar P w K mg base aq 2 "ways_to_go_on"<|Zz true He)
  (c2:ar P w K mg base aq 1 "most_size"<|Zz false GY) :
  ar P w K mg base aq 3 "counts" (Zz true Cb):=by
 refine eA ["board"] 1 true F λaj A outer s H E nD hr hU hI=>⟨_,Ji<|j9<|T8 (Jg<|bJ J6 ZX (Jg<|bJ J6 ZX (JC<|lX c1 hr<|Ys (qv 0) Zf) (Jg JI) λ_ _=>rfl) (Jg JI) λ_ _=>rfl) T_<|Ua<|JC<|YH YI ja (Jg<|eT c2 hr<|Ys (qv 0) Zf)<|Jg JI,λargs R EX h=>?_⟩
 obtain⟨h,w,cs,rfl,h6,w6,hb,hR⟩:=h;refine⟨_,_,_,rfl,h6,w6,hb,_,Jc<|IK cs h w h,_,Jc<|zx<|Ky w,_,_,_,rfl,?_⟩;have e:Dl.cutD (fi h<|Wc cs h h 0) none (some<|((min h w:Nat):Int)+1)=ky cs h w:=by
  rw[QsY _ _<|by omega];unfold fi ky;rw[<- QBH,Pa,show min (((min h w:Nat):Int)+1).toNat (h+1)=min h w+1 by omega]
 have hR:=hR;rw[<- e] at hR;exact hR
def Wh:(["size", "many"]:List Str).Nodup:=by decide
def Qr7(F:az P w K mg base "greatest_size" Sd)(T:aB mg)
  (c1:ar P w K mg base aq 3 "counts_stands"<|Zz true Cb) :
  ar P w K mg base aq 4 "greatest_size" (Zz false HA):=by
 refine eA ["board"] 1 false F λaj A outer s H E nD hr hU hI=>?_
 refine⟨_,Ji<|j9<|l7 (Qo4 rfl) QxZ rfl T.max Rc<|gc (JC<|j6 ["size", "many"] [none,none] (Vd rfl T.enumerate<|JC<|lX c1 hr<|Ys (qv 0) Zf) λcl ex s3 H3 C=>⟨(kG rfl<|J8 0 (J8 1 kF Wh rfl (QJ rfl)<|QU rfl) Wh rfl (QJ rfl)<|QU rfl),(uf<|gY yQ tQ (qp 1) (Jg JI)<|JE _),(qv 0)⟩) Js,λargs R EX h=>?_⟩;obtain⟨h,w,cs,rfl,b,hR⟩:=h;refine⟨_,_,_,rfl,b.1,b.2.1,b.col,vL (λd=>match d with | .tuple [.int k,.int n]=>if 0<n then some (.int k) else none | _=>none) (λd hd k1 k2 h1 h2=>?_) ?_⟩
 ·obtain⟨k,hk⟩:=ZP.mp hd;obtain⟨e,he,rfl⟩:=Ks hk;obtain⟨n,rfl⟩:=Qs5<|Je he;have h1:=h1;have h2:=h2;refine⟨rfl,?_⟩;show if decide (0<n)=true then k2 (.int k) else k1
  by_cases z:0<n
  ·rw[XZ<|X1 z];exact h2 _<|XZ z
  ·rw[XY<|by simpa using z];exact h1<|XY z
 ·have e:(qO<|ky cs h w).filterMap (λd=>match d with | .tuple [.int k,.int n]=>if 0<n then some (Qr k) else none | _=>none)=(((QD<|min h w+1).filter λk=>decide (0<Wc cs h h 0 k)).map λ(k:Nat)=>(k:Int)).map Qr:=by
   unfold qO;rw[z4,Q4,Qs4];refine yO λk hk=>?_
   have hk:=Jw.mp hk;have e1:(ky cs h w).getD k .none=.int (Wc cs h h 0 k):=by
    unfold ky;rw[Qi,Qt,JN hk];rfl
   show(match YT [.int k,(ky cs h w).getD k .none] with | .tuple [.int k,.int n]=>if 0<n then some (Qr k) else none | _=>none)=_;rw[e1];show(if 0<Wc cs h h 0 k then some (Qr k) else none)=if decide (0<Wc cs h h 0 k)=true then _ else _
   by_cases z:0<Wc cs h h 0 k
   ·rw[XZ z,XZ<|X1 z];rfl
   ·rw[XY z,XY<|by simpa using z]
  rw[e];have mem:∀{k:Nat},k<=min h w->0<Wc cs h h 0 k->(k:Int)∈((QD<|min h w+1).filter λk=>decide (0<Wc cs h h 0 k)).map λ(k:Nat)=>(k:Int):=λ{k} h1 h2=>Qq.mpr ⟨k,Q2.mpr ⟨Jw.mpr<|by omega,X1 h2⟩,rfl⟩
  refine Qxh (List.length_pos_of_mem<|mem (Q6 _) (by rw[P_];decide)) λm hm hmx=>?_
  obtain⟨k,hk,rfl⟩:=Qq.mp hm;have hk:=Q2.mp hk;refine hR k ⟨by have:=Jw.mp hk.1;omega,X2 hk.2,λj hj hp=>?_⟩;have:=hmx _<|mem hj hp;omega
def VC:(["row", "column"]:List Str).Nodup:=by decide
def QwF(F:az P w K mg base "turned" OV)(T:aB mg) :
  ar P w K mg base aq 2 "turned" (Zz false BC):=by
 refine eA ["board", "high", "wide", "cells"] 1 false F λaj A outer s H E nD hr hU hI=>?_
 refine⟨_,QZ (vZ (qv 0)<|kG rfl<|J8 1 (J8 2 (J8 3 kF nD rfl<|by first | exact QJ rfl | exact QU rfl) nD rfl<|by first | exact QJ rfl | exact QU rfl) nD rfl<|by first | exact QJ rfl | exact QU rfl)
  (Ji<|j9<|ef<|Yi (qv 2)<|Yi (qv 1)<|Yi (Zo<|rn YA zF rfl T.tuple rg<|gc (JC<|l7 XO Va rfl T.sorted Lo<|gc (JC<|j6 ["row", "column"] [none,none] (vY<|qp 3) λcl ex s3 H3 C=>⟨(kG rfl<|J8 0 (J8 1 kF VC rfl (QJ rfl)<|QU rfl) VC rfl (QJ rfl)<|QU rfl),pB,(Zo<|ef<|Yi (qv 1)<|Yi (qv 0) Js)⟩) Js) Js) Js),λargs R EX h=>?_⟩
 obtain⟨h,w,f,rfl,h6,w6,hR⟩:=h;have hb:∀p∈af h w f,0<=p.1/\p.1<h/\0<=p.2/\p.2<w:=λp hp=>rC hp
 have nd1:=(aH w f h).imp nJ;have nd2:=(aH h (tF f) w).imp nJ;have ln:=QQ (wR w f h)<|YW h6 w6;have es:((af h w f).map pairD).map (λd=>pairD ((fw d).2,(fw d).1))=((af h w f).map λp=>(p.2,p.1)).map pairD:=by rw[Q4,Q4];rfl
 have NG:((af h w f).map λp=>(p.2,p.1)).Nodup:=z7.mpr<|nd1.imp λ{a b} cO e=>cO<|v9 (ZG e).2 (ZG e).1;refine⟨rfl,vM (λd=>pairD ((fw d).2,(fw d).1)) (λd hd k2 hk=>?_) ?_⟩
 ·obtain⟨p,_,rfl⟩:=Qq.mp hd;exact⟨rfl,hk⟩
 ·rw[es];refine Vm NG (by rw[Qd];omega) (λp hp=>?_) λM pM pw=>?_
  ·obtain⟨q,hq,rfl⟩:=Qq.mp hp;have:=hb q hq;omega
  ·have pc:=pM.trans ((Zg NG nd2).mpr λp=>by
    rw[Qq,JY];constructor
    ·rintro⟨q,hq,rfl⟩;obtain⟨r,c,hr,hc,hf,rfl⟩:=JY.mp hq;exact⟨c,r,hc,hr,hf,rfl⟩
    ·rintro⟨r,c,hr,hc,hf,rfl⟩;exact⟨(c,r),JY.mpr ⟨c,r,hc,hr,hf,rfl⟩,rfl⟩)
   have eM:=ZQ (λa b _ _ h1 h2=>by rcases h1 with x | x<;>rcases h2 with y | y<;>omega) pw (aH h (tF f) w) pc;rw[eM];exact hR
def Wl:(["row", "column", "cells", "wide"]:List Str).Nodup:=by decide
def Qr2(F:az P w K mg base "rest" Sn)(T:aB mg) :
  ar P w K mg base aq 1 "rest" (Zz false BK):=by
 refine eA ["board", "high", "wide", "cells", "left"] 1 false F λaj A outer s H E nD hr hU hI=>?_
 refine⟨_,QZ (vZ (qv 0)<|kG rfl<|J8 1 (J8 2 (J8 3 kF nD rfl<|by first | exact QJ rfl | exact QU rfl) nD rfl<|by first | exact QJ rfl | exact QU rfl) nD rfl<|by first | exact QJ rfl | exact QU rfl)
  (QZ (Qrs ["row", "column", "cells", "wide"] [none,none,some 3,some 2] 4 nD (QsJ 0) (zk (by rfl) T.range<|qp 1) λcl ex s3 H3 C=>⟨(YG 0 Wl rfl (QJ rfl)<|QU rfl),pB,(zk (by rfl) T.range<|qp 3),(YG 1 Wl rfl (QJ rfl)<|QU rfl),(uf<|gY zM (tH hI) (JC<|ef<|Yi (qv 0)<|Yi (qv 1) Js) (qp 2)<|by rfl),(Zo<|ef<|Yi (qv 0)<|Yi (qv 1) Js)⟩)
  (Ji<|j9<|ef<|Yi (qv 1)<|Yi (qv 2)<|Yi (Zo<|rn YA zF (by rfl) T.tuple rg<|gc (qp 4) Js) Js)),λargs R EX h=>?_⟩
 obtain⟨h,w,f,rfl,h6,w6,hR⟩:=h;have fl:=wR w<|lO f;have e0:∀n:Nat,(jC 0 n).flatMap (λd=>match d with | .int r=>(gG r.toNat w<|lO f).map pairD | _=>[])=(af n w<|lO f).map pairD:=λn=>by
  unfold jC af;rw[Lq,List.map_flatMap]
  congr 1
  funext r
  show(gG (0+(r:Int)).toNat w<|lO f).map pairD=_;rw[show(0+(r:Int)).toNat=r by omega]
 refine⟨rfl,⟨by omega,by omega⟩,QxV (λd=>match d with | .int r=>(gG r.toNat w<|lO f).map pairD | _=>[]) 36 ?_ (λd hd acc N hb hN=>?_) ?_⟩
 ·rw[QY,e0,Qd];exact QQ (fl h)<|YW h6 w6
 ·obtain⟨i,hi⟩:=ZP.mp hd;obtain⟨vt,rfl⟩:=zu hi;rw[QY] at vt;have hN:N (acc++(gG (0+(i:Int)).toNat w<|lO f).map pairD):=hN;have hb:acc.length+((gG (0+(i:Int)).toNat w<|lO f).map pairD).length<=36:=hb;rw[show(0+(i:Int)).toNat=i by omega] at hN hb;refine⟨⟨by omega,by omega⟩,QDs (λd=>match d with | .int c=>if(!f i c.toNat)=true then some (pairD ((i:Int),c)) else none | _=>none) ?_ (λd hd k1 k2 h1 h2=>?_) ?_⟩
  ·rw[Ce];exact JJ (show acc.length+((w:Nat):Int).toNat<=42 by omega) (by decide)
  ·obtain⟨c,hc⟩:=ZP.mp hd;obtain⟨km,rfl⟩:=zu hc;rw[QY] at km;have h1:(if(!f i (0+(c:Int)).toNat)=true then some (pairD ((i:Int),0+(c:Int))) else none)=none->k1:=h1;have h2:∀e,(if(!f i (0+(c:Int)).toNat)=true then some (pairD ((i:Int),0+(c:Int))) else none)=some e->k2 e:=h2
   rw[show(0+(c:Int)).toNat=c by omega] at h1 h2;refine⟨⟨Yz _,rfl,by have:=ux ((0+(i:Int)),(0+(c:Int)));exact QQ (zD this)<|by decide⟩,?_⟩;show if(!((af h w f).map pairD).any λe=>Q3 e<|pairD (0+(i:Int),0+(c:Int)))=true then k2 (pairD (0+(i:Int),0+(c:Int))) else k1
   rw[wL];have em:decide ((0+(i:Int),0+(c:Int))∈af h w f)=f i c:=by
    rw[show(0:Int)+(i:Int)=(i:Int) by omega,show(0:Int)+(c:Int)=(c:Int) by omega,JX,X4,JY];constructor
    ·rintro⟨r,d,_,_,hf,e⟩;have e1:=(ZG e).1;have e2:=(ZG e).2;rw[show i=r by omega,show c=d by omega];exact hf
    ·intro hf;exact⟨i,c,vt,km,hf,rfl⟩
   rw[em,show(0:Int)+(i:Int)=(i:Int) by omega];by_cases z:(!f i c)=true
   ·rw[XZ z];exact h2 _<|XZ z
   ·rw[XY z];exact h1<|XY z
  ·have er:(jC 0 ((w:Nat):Int).toNat).filterMap (λd=>match d with | .int c=>if(!f i c.toNat)=true then some (pairD ((i:Int),c)) else none | _=>none)=(gG i w<|lO f).map pairD:=by
    unfold jC gG;rw[QY,z4,Q4];refine yO (p:=lO f i) λc _=>?_
    show(if(!f i (0+(c:Int)).toNat)=true then some (pairD ((i:Int),0+(c:Int))) else none)=if(!f i c)=true then some (pairD ((i:Int),(c:Int))) else none
    rw[show(0+(c:Int)).toNat=c by omega,show(0:Int)+(c:Int)=(c:Int) by omega]
   rw[er];exact hN
 ·rw[QY,e0];exact hR
def QAf(F:az P w K mg base "refuse_no_place" xo)(T:aB mg)
  (c1:ar P w K mg base aq 2 "is_whole_within"<|Zz false zt)
  (NI:mg "NoPlace" = some (.ref CP))(Nq:JH K CP Rx.cD "ValueError.__new__" = true) :
  ar P w K mg base (Rx.aQ P w) 3 "refuse_no_place" (Zz false<|ME CP):=by
 refine DW ["board", "row", "column"] 3 false F λaj A outer s H E nD hr hU hI=>?_
 refine⟨_,QZ (j3 (o_<|pe<|Jg<|eT c1 hr<|Ys (qv 1)<|Ys JI<|Ys (Zo<|YH tY qX (Jg<|bJ J6 ZX (qp 0) (Jg JI) λ_ _=>rfl)<|Jg JI) Zf) (Ji<|CB (λ_ _ h=>h) NI Nq<|Jg j0) j_)
  (Ji<|j3 (o_<|pe<|Jg<|eT c1 hr<|Ys (qv 2)<|Ys JI<|Ys (Zo<|YH tY qX (Jg<|bJ J6 ZX (qp 0) (Jg JI) λ_ _=>rfl)<|Jg JI) Zf) (Ji<|CB (λ_ _ h=>h) NI Nq<|Jg j0) j_),λargs R EX h=>?_⟩
 obtain⟨b,x,y,rfl,hR,hX⟩:=h;have e:hZ b x y=(k_ x 0 (b.h - 1)&&k_ y 0 (b.w - 1)):=rfl;rw[e] at hR hX;refine⟨_,Jc rfl,_,_,_,rfl,?_⟩;cases h1:k_ x 0 (b.h - 1) with
 |false=>exact hX (by rw[h1];rfl)
 |true=>
  refine⟨_,Jc rfl,_,_,_,rfl,?_⟩;cases h2:k_ y 0 (b.w - 1) with
  |false=>exact hX (by rw[h1,h2];rfl)
  |true=>exact hR (by rw[h1,h2];rfl)
def QAe(hA:∃t,mg "MOST_LINES" = some (.int 6 t))(F:az P w K mg base "refuse_too_many" xm)(T:aB mg)
  (mCM:mg "TooMany" = some (.ref CM))(qCM:JH K CM Rx.cD "ValueError.__new__" = true) :
  ar P w K mg base (Rx.aQ P w) 1 "refuse_too_many" (Zz false<|MG CM):=by
 refine DW ["lines"] 1 false F λaj A outer s H E nD hr hU hI=>?_
 obtain⟨tA,mA⟩:=hA;refine⟨_,Ji<|j3 (gY BS (Bl hU) (qp 0) (Jg<|Qzy 6 rfl mA ⟨_,rfl⟩)<|JE _) (Ji<|CB (λ_ _ h=>h) mCM qCM<|Jg j0) j_,λargs R EX h=>?_⟩;obtain⟨n,rfl,hX,hR⟩:=h;refine oh (λz=>hX ?_) λz=>hR ?_
 ·have z:=X2 z;omega
 ·have z:=X3 z;omega
def QwO(F:az P w K mg base "refuse_no_cell" OT)(T:aB mg)
  (c1:ar P w K mg base aq 3 "is_place"<|Zz false P7)
  (mCN:mg "NoCell" = some (.ref CN))(qCN:JH K CN Rx.cD "ValueError.__new__" = true) :
  ar P w K mg base (Rx.aQ P w) 4 "refuse_no_cell" (Zz false<|R6 CN):=by
 refine DW ["board", "cell"] 2 false F λaj A outer s H E nD hr hU hI=>?_
 refine⟨_,Ji<|j3 (yF<|OF (o_<|pe<|Jg<|eT c1 hr<|Ys (bJ J6 ZX (qp 0) (Jg JI) λ_ _=>rfl)<|Ys (bJ J6 ZX (qp 0) (Jg JI) λ_ _=>rfl)<|Ys (qv 1) Zf)<|SV<|gY zM (tH hI) (qp 1) (Jg<|bJ J6 ZX (qp 0) (Jg JI) λ_ _=>rfl) rfl) (Ji<|CB (λ_ _ h=>h) mCN qCN<|Jg j0) j_,λargs R EX h=>?_⟩;obtain⟨b,r,c,rfl,hr,hc,hX,hR⟩:=h;refine⟨_,Jc rfl,_,Jc rfl,_,_,_,rfl,?_⟩;rw[show Ab b.h b.w (pairD (r,c))=true from QDt hr hc];refine⟨_,Jc rfl,⟨Yz _,rfl,by have:=ux (r,c);omega⟩,?_⟩;have e:(((af b.h b.w b.f).map pairD).any λe=>Q3 e<|pairD (r,c))=b.f r c:=by rw[wL,QAt hr hc]
 rw[e];cases z:b.f r c with
 |false=>exact hX z
 |true=>exact hR z
def Qw7:(["other", "cell"]:List Str).Nodup:=by decide
def QDb(F:az P w K mg base "without" Nf)(T:aB mg)
  (c1:ar P w K mg base (Rx.aQ P w) 4 "refuse_no_cell"<|Zz false<|R6 CN) :
  ar P w K mg base (Rx.aQ P w) 5 "without" (Zz false<|QDZ CN):=by
 refine DW ["board", "cell", "high", "wide", "cells"] 2 false F λaj A outer s H E nD hr hU hI=>?_
 refine⟨_,QZ (Ub<|Jg<|SQ c1 hr (Rx.i5 (λ_ _ h=>h) rfl rfl rfl)<|Ys (qv 0)<|Ys (qv 1) Zf)
  (QZ (vZ (qv 0)<|kG rfl<|J8 2 (J8 3 (J8 4 kF nD rfl<|by first | exact QJ rfl | exact QU rfl) nD rfl<|by first | exact QJ rfl | exact QU rfl) nD rfl<|by first | exact QJ rfl | exact QU rfl)
  (Ji<|j9<|ef<|Yi (qv 2)<|Yi (qv 3)<|Yi (Zo<|rn YA zF rfl T.tuple rg<|gc (JC<|j6 ["other", "cell"] [none,some 1] (vY<|qp 4) λcl ex s3 H3 C=>⟨(YG 0 Qw7 rfl (QJ rfl)<|QU rfl),(uf<|gY HL (G9 hU) (qp 0) (qp 1)<|JE _),(qv 0)⟩) Js) Js)),λargs R EX h=>?_⟩
 obtain⟨b,r,c,rfl,hr,hc,hX,hR⟩:=h;refine⟨b,r,c,rfl,hr,hc,hX,λhf=>?_⟩;have hR:=hR hf;refine⟨rfl,vL (λd=>if(λq:Int×Int => !decide (q=((r:Int),(c:Int)))) (fw d)=true then some d else none) (λd hd k1 k2 h1 h2=>?_) ?_⟩
 ·obtain⟨q,_,rfl⟩:=Qq.mp hd;have h1:=h1;have h2:=h2;refine⟨⟨rfl,rfl,.inl (by have:=ux q;omega)⟩,?_⟩;show if(!Q3 (pairD q) (pairD (r,c)))=true then k2 (pairD q) else k1
  rw[K_];by_cases z:(!decide (q=((r:Int),(c:Int))))=true
  ·rw[XZ z];exact h2 _<|XZ z
  ·rw[XY z];exact h1<|XY z
 ·rw[Cw λq:Int×Int => !decide (q=((r:Int),(c:Int))),Qs7];exact hR
def QwN(F:az P w K mg base "row_behind" OU)(T:aB mg) :
  ar P w K mg base aq 1 "row_behind" (Zz false Hl):=by
 refine eA ["start"] 1 false F λaj A outer s H E nD hr hU hI=>⟨_,Ji<|o9<|QCX (v7<|qp 0) (Zo<|YH YI ja (Jg<|bJ J6 ZX (Jg<|bJ J6 ZX (qp 0) (JC<|Hi<|Jg JI) λ_ _=>rfl) (Jg JI) λ_ _=>rfl)<|Jg JI) JI,λargs R EX h=>?_⟩
 obtain⟨S,rfl,hR⟩:=h;refine⟨trivial,?_⟩;unfold fz at hR;cases e:S.getLast? with
 |none=>
  rw[List.getLast?_eq_none_iff] at e;subst e;exact hR
 |some c=>
  rw[e] at hR;refine Fy ?_ ⟨_,Qxn e,_,Jc rfl,hR⟩
  cases S with
  |nil=>cases e
  |cons a b=>rfl
def Qxa:(["cell"]:List Str).Nodup:=by decide
def Qw9:(["cell", "row", "taken"]:List Str).Nodup:=by decide
def QAl(F:az P w K mg base "followers" xu)(T:aB mg)
  (c1:ar P w K mg base aq 1 "row_behind"<|Zz false Hl) :
  ar P w K mg base aq 2 "followers" (Zz false QEj):=by
 refine eA ["board", "start", "row", "taken"] 2 false F λaj A outer s H E nD hr hU hI=>?_
 refine⟨_,QZ (Z7 2 (eT c1 hr<|Ys (qv 1) Zf) nD)
  (QZ (Z7 3 (Zo<|j6 ["cell"] [none] (vY<|qp 1) λcl ex s3 H3 C=>⟨(YG 0 Qxa rfl (QJ rfl)<|QU rfl),pB,(bJ J6 ZX (qp 0) (Jg JI) λ_ _=>rfl)⟩) nD)
  (Ji<|j9<|j6 ["cell", "row", "taken"] [none,some 2,some 3] (vY<|Jg<|bJ J6 ZX (qp 0) (Jg JI) λ_ _=>rfl) λcl ex s3 H3 C=>⟨(YG 0 Qw9 rfl (QJ rfl)<|QU rfl),(uf<|yF<|HJ (gY G8 tQ (Jg<|bJ J6 ZX (qp 0) (Jg JI) λ_ _=>rfl) (qp 1)<|JE _)<|II<|gY zM (tH hI) (Jg<|bJ J6 ZX (qp 0) (Jg JI) λ_ _=>rfl) (qp 2) rfl),(qv 0)⟩)),λargs R EX h=>?_⟩
 obtain⟨h,w,cs,S,rfl,hR⟩:=h;refine⟨_,rfl,vM (λd=>.int (fw d).2) (λd hd k2 hk=>?_) ?_⟩
 ·obtain⟨p,_,rfl⟩:=Qq.mp hd;exact⟨_,Jc rfl,hk⟩
 ·rw[show(S.map pairD).map (λd=>Qr (fw d).2)=(S.map (·.2)).map Qr by rw[Q4,Q4];rfl];refine⟨_,Jc rfl,vL (λd=>if(λc:Int×Int=>decide (fz S<=c.1) && !decide (c.2∈S.map (·.2))) (fw d)=true then some d else none) (λd hd k1 k2 h1 h2=>?_) ?_⟩
  ·obtain⟨c,_,rfl⟩:=Qq.mp hd;have h1:(if(decide (fz S<=c.1) && !decide (c.2∈S.map (·.2)))=true then some (pairD c) else none)=none->k1:=h1;have h2:∀e,(if(decide (fz S<=c.1) && !decide (c.2∈S.map (·.2)))=true then some (pairD c) else none)=some e->k2 e:=h2
   refine⟨_,Jc rfl,?_⟩;refine oh (λz1=>?_) λz1=>?_
   ·have z1:=z1;rw[z1] at h1 h2;refine⟨_,Jc rfl,⟨Qso _,rfl,by unfold YV;decide⟩,?_⟩;show if(!((S.map (·.2)).map Qr).any λe=>Q3 e<|.int c.2)=true then _ else k1
    rw[Qx8];by_cases z:(!decide (c.2∈S.map (·.2)))=true
    ·rw[XZ z];exact h2 _<|XZ z
    ·rw[XY z];exact h1<|XY z
   ·have z1:=z1;rw[z1] at h1;exact h1 rfl
  ·rw[Cw (λc:Int×Int=>decide (fz S<=c.1) && !decide (c.2∈S.map (·.2)))];exact hR
def Qr3(F:az P w K mg base "refuse_no_size" Sk)(T:aB mg)
  (c1:ar P w K mg base aq 2 "is_whole_within"<|Zz false zt)
  (c2:ar P w K mg base aq 1 "most_size"<|Zz false GY) :
  ar P w K mg base aq 3 "refuse_no_size" (Zz false R8):=by
 refine eA ["board", "size"] 2 false F λaj A outer s H E nD hr hU hI=>⟨_,Ji<|j3 (o_<|pe<|Jg<|eT c1 hr<|Ys (qv 1)<|Ys JI<|Ys (eT c2 hr<|Ys (qv 0) Zf) Zf) XM j_,λargs R EX h=>?_⟩
 obtain⟨h,w,cs,k,rfl,hk,hR⟩:=h;refine⟨_,_,_,rfl,_,_,_,rfl,?_⟩;rw[Br (by omega)<|by omega];exact hR
def VF:(["row", "column"]:List Str).Nodup:=by decide
def QwC(F:az P w K mg base "ways_behind" Pt)(T:aB mg)
  (c1:ar P w K mg base aq 1 "row_behind"<|Zz false Hl) :
  ar P w K mg base aq 2 "ways_behind" (Zz false Pj):=by
 refine eA ["table", "start", "more", "taken"] 3 false F λaj A outer s H E nD hr hU hI=>?_
 refine⟨_,QZ (Z7 3 (Zo<|l7 (Qo3 rfl) QBg rfl T.sum QBi<|gc (JC<|j6 ["row", "column"] [none,none] (vY<|qp 1) λcl ex s3 H3 C=>⟨(kG rfl<|J8 0 (J8 1 kF VF rfl (QJ rfl)<|QU rfl) VF rfl (QJ rfl)<|QU rfl),pB,(Zo<|YH BU vJ (Jg JI)<|qp 1)⟩) Js) nD)
  (Ji<|o9<|bJ J6 ZX (Jg<|bJ J6 ZX (Jg<|bJ J6 ZX (qp 0) (Jg<|eT c1 hr<|Ys (qv 1) Zf) λ_ _=>rfl) (qp 3) λ_ _=>rfl) (qp 2) λ_ _=>rfl),λargs R EX h=>?_⟩
 obtain⟨h,w,cs,S,k,rfl,g,st,hk,hR⟩:=h;have rb:=OL g st;have hw:=g.fM.2.1;have hb:=λp hp=>g.fM.col p<|st.sub p hp
 have ms:=PR hw (T:=[]) hb st.cols<|Ky w;refine vM (λd=>.int<|1*2^(fw d).2.toNat) (λd hd k2 hk=>?_) ?_
 ·obtain⟨p,hp,rfl⟩:=Qq.mp hd;have:=hb p hp;exact⟨rfl,⟨by omega,by omega,by decide⟩,hk⟩
 ·have es:(S.map pairD).map (λd=>Qr<|1*2^(fw d).2.toNat)=(S.map λp=>(1*2^p.2.toNat:Int)).map Qr:=by rw[Q4,Q4];rfl
  rw[es];refine Qvr _ rfl ?_
  have e2:(S.map λp=>(1*2^p.2.toNat:Int)).sum=((dG S:Nat):Int):=by
   have:=ms.1;rw[show((dG []:Nat):Int)=0 from rfl,uA] at this;exact this
  rw[e2];obtain⟨r,er⟩:∃r:Nat,fz S=r:=⟨(fz S).toNat,by omega⟩
  have xl:=Uv g k S st;rw[er,QY] at xl;rw[xl] at hR;refine⟨_,rfl,.list<|jD h w<|Wc cs h<|h - r,?_,_,Jc<|zx ms.2,_,Jc<|rf hk,hR⟩;rw[er];exact Jc (V2 cs h w h r<|by omega)
def Qn7(F:az P w K mg base "cell_at" Ui)(T:aB mg)
  (c1:ar P w K mg base aq 2 "followers"<|Zz false QEj)
  (c2:ar P w K mg base aq 2 "ways_behind"<|Zz false Pj) :
  ar P w K mg base aq 3 "cell_at" (Zz false T6):=by
 refine eA ["board", "table", "start", "more", "number", "cells", "at", "ways"] 5 false F λaj A outer s H E nD hr hU hI=>?_
 refine⟨_,QZ (Z7 5 (eT c1 hr<|Ys (qv 0)<|Ys (qv 2) Zf) nD)
  (QZ (Z7 6 JI nD)
  (QZ (Z7 7 (eT c2 hr<|Ys (qv 1)<|Ys (Zo<|YH YI ja (qp 2)<|JC<|ef<|Yi (bJ J6 ZX (qp 5) (qp 6) λ_ _=>rfl) Js)<|Ys (qv 3) Zf) nD)
  (QZ (K9 JQ (gY G8 tQ (qp 4) (qp 7)<|JE _)
   (QZ (SS 4 QAI Ir (qp 7) nD)
  (QZ (SS 6 PK Ir (Jg JI) nD)
  (Ji<|Z7 7 (eT c2 hr<|Ys (qv 1)<|Ys (Zo<|YH YI ja (qp 2)<|JC<|ef<|Yi (bJ J6 ZX (qp 5) (qp 6) λ_ _=>rfl) Js)<|Ys (qv 3) Zf) nD))))
  (Ji<|j9<|ef<|Yi (bJ J6 ZX (qp 5) (qp 6) λ_ _=>rfl)<|Yi (qv 4) Js)))),λargs R EX h=>?_⟩
 obtain⟨h,w,cs,S,m,n,rfl,g,st,hm,hn,hR⟩:=h;have en:dM cs (m+1) S=(bD cs S).flatMap λc=>dM cs m (S++[c]):=rfl
 rw[en] at hn hR;have lS:(S.map pairD).length=S.length:=Qd _;have sl:=Qvs g st;have h6:=g.fM.1;refine⟨_,_,_,_,rfl,?_⟩;have get:∀a,a<(bD cs S).length->((bD cs S).map pairD)[a]? = some (pairD<|(bD cs S).getD a (0,0))/\(bD cs S).getD a (0,0)∈bD cs S/\(bD cs S).drop a=(bD cs S).getD a (0,0)::(bD cs S).drop (a+1):=λa ha=>by
  have e:(bD cs S).getD a (0,0)=(bD cs S)[a]:=by rw[Qi,Qc ha];rfl
  refine⟨by rw[Qt,Qc ha,e];rfl,by rw[e];exact Jz ha,by rw[e];exact Wu ha⟩
 have l0:0<(bD cs S).length:=by
  cases e:bD cs S with
  |nil=>rw[e] at hn;exact X5 hn<|Kx _
  |cons a b=>rw[Qw];omega
 have wy:∀(a:Nat)(ha:a<(bD cs S).length),YT (S.map pairD++[pairD<|(bD cs S).getD a (0,0)])=eX (S++[(bD cs S).getD a (0,0)]):=λa _=>by
  show _=YT ((S++[(bD cs S).getD a (0,0)]).map pairD);rw[JA];rfl
 refine⟨_,Jc (get 0 l0).1,by rw[lS];show _+1<=_;omega,?_⟩;refine⟨h,w,cs,S++[(bD cs S).getD 0 (0,0)],m,by rw[wy 0 l0],g,Cc st (get 0 l0).2.1,by omega,?_⟩;refine Ib (λz δ=>∃a n2:Nat,z=(bD cs S).length - a/\a<(bD cs S).length/\δ=[.v<|cX h w cs,.v<|.list<|jE cs h w h,.v<|eX S,.v<|.int m,.v<|.int n2,.v<|.list<|(bD cs S).map pairD,.v<|.int a,.v<|.int ((dM cs m<|S++[(bD cs S).getD a (0,0)]).length:Nat)]/\n2<(((bD cs S).drop a).flatMap λc=>dM cs m<|S++[c]).length/\((bD cs S).flatMap λc=>dM cs m<|S++[c])[n]? = (((bD cs S).drop a).flatMap λc=>dM cs m<|S++[c])[n2]?) _ ⟨0,n,rfl,l0,rfl,hn,rfl⟩ ?_
 rintro z δ ⟨a,n2,rfl,ha,rfl,iV,he⟩;obtain⟨g1,g2,g3⟩:=get a ha;rw[g3,ZH,Qg] at iV;rw[g3,ZH] at he;refine oh (λy=>?_) λy=>?_
 ·have y:=X2 y;have F2:a+1<(bD cs S).length:=by
   by_cases q:a+1<(bD cs S).length
   ·exact q
   ·rw[List.drop_eq_nil_of_le<|by omega] at iV;exact X5 iV (by show ¬n2<_+0;omega)
  obtain⟨f1,f2,f3⟩:=get (a+1) F2;refine⟨pairD<|(bD cs S).getD (a+1) (0,0),by rw[show a+1=((a+1:Nat):Int) by omega];exact Jc f1,by rw[lS];show _+1<=_;omega,?_⟩;refine⟨h,w,cs,S++[(bD cs S).getD (a+1) (0,0)],m,by rw[<- wy (a+1) F2],g,Cc st f2,by omega,?_⟩;refine⟨(bD cs S).length - (a+1),by omega,a+1,n2 - (dM cs m<|S++[(bD cs S).getD a (0,0)]).length,rfl,F2,?_,by omega,?_⟩
  ·rw[show((n2 - (dM cs m<|S++[(bD cs S).getD a (0,0)]).length:Nat):Int)=n2 - ((dM cs m<|S++[(bD cs S).getD a (0,0)]).length:Int) by omega,show((a+1:Nat):Int)=a+1 by omega];rfl
  ·rw[he,L3<|by omega]
 ·have y:n2<((dM cs m<|S++[(bD cs S).getD a (0,0)]).length:Int):=by have:=X3 y;omega
  refine⟨_,Jc g1,hR _ n2 g2 (by omega) ?_⟩;rw[he,YR<|by omega]
def QlK(F:az P w K mg base "stand_at" Vk)(T:aB mg)
  (c1:ar P w K mg base aq 3 "refuse_no_size"<|Zz false R8)
  (c2:ar P w K mg base aq 2 "ways_to_go_on"<|Zz true He)
  (c3:ar P w K mg base aq 2 "is_whole_within"<|Zz false zt)
  (c4:ar P w K mg base aq 3 "cell_at"<|Zz false T6) :
  ar P w K mg base aq 4 "stand_at" (Zz false CH):=by
 refine eA ["board", "size", "number", "table", "stand", "left", "more", "cell"] 3 false F λaj A outer s H E nD hr hU hI=>?_
 refine⟨_,QZ (Ub<|Jg<|eT c1 hr<|Ys (qv 0)<|Ys (qv 1) Zf)
  (QZ (Z7 3 (Zo<|lX c2 hr<|Ys (qv 0) Zf) nD)
  (QZ (j3 (o_<|pe<|Jg<|eT c3 hr<|Ys (qv 2)<|Ys JI<|Ys (Zo<|YH tY qX (Jg<|bJ J6 ZX (Jg<|bJ J6 ZX (Jg<|bJ J6 ZX (qp 3) (Jg JI) λ_ _=>rfl) (Jg JI) λ_ _=>rfl) (qp 1) λ_ _=>rfl)<|Jg JI) Zf) XM j_)
  (QZ (Z7 4 (Zo<|ef Js) nD)
  (QZ (Z7 5 (qv 2) nD)
  (QZ (ze JQ rfl (T9 rfl T.reversed rfl T.range<|qp 1) (YG 6 nD rfl<|by first | exact QJ rfl | exact QU rfl)
   (QZ (vZ (eT c4 hr<|Ys (qv 0)<|Ys (qv 3)<|Ys (qv 4)<|Ys (qv 6)<|Ys (qv 5) Zf)<|kG rfl<|J8 7 (J8 5 kF nD rfl<|by first | exact QJ rfl | exact QU rfl) nD rfl<|by first | exact QJ rfl | exact QU rfl)
  (Ji<|Z7 4 (Zo<|YH YI ja (qp 4)<|JC<|ef<|Yi (qv 7) Js) nD)))
  (Ji<|o9<|qv 4)))))),λargs R EX h=>?_⟩
 obtain⟨h,w,cs,k,n,L,rfl,g,hk,eL,hR⟩:=h;refine⟨_,_,_,_,rfl,hk,?_⟩;have h6:=g.fM.1;have w6:=g.fM.2.1;refine⟨_,_,_,rfl,h6,w6,g.fM.col,?_⟩;refine⟨_,Jc<|IK cs h w h,_,Jc<|zx<|Ky w,_,Jc<|rf<|by omega,?_⟩;refine⟨_,_,_,rfl,?_⟩;rw[QxD g];have hn:=(QX.mp eL).1;rw[Br (by omega)<|by omega];refine NS rfl ?_
 ·rw[<- QxC] at eL hn;refine⟨⟨by omega,by omega⟩,C2 (λi δ=>∃(S:List (Int×Int))(n2:Nat)(x6 x7:Sl),δ=[.v<|cX h w cs,.v<|.int k,.v<|.int n,.v<|.list<|jE cs h w h,.v<|eX S,.v<|.int n2,x6,x7]/\Std cs S/\S.length=i/\n2<(dM cs (k - i) S).length/\(dM cs (k - i) S)[n2]? = some L) ⟨[],n,_,_,rfl,.nil,rfl,hn,eL⟩ ?_ ?_⟩
  ·rintro i d δ hd ⟨S,n2,x6,x7,rfl,st,lS,iV,e2⟩;obtain⟨hi,rfl⟩:=KA hd;rw[QY] at hi;have er:(((k:Int).toNat:Nat):Int) - 1 - i=((k - i - 1:Nat):Int):=by omega
   rw[er];have ek:k - i=(k - i - 1)+1:=by omega
   rw[ek] at iV e2;refine⟨_,_,_,_,_,_,rfl,g,st,by omega,iV,λc n3 hc hc3 ee3=>⟨rfl,?_⟩⟩;have es:eX (S++[c])=.tuple (S.map pairD++[pairD c]):=by unfold eX;rw[JA];rfl
   refine⟨by rw[Qd];show _+1<=_;omega,S++[c],n3,.v<|.int ((k - i - 1:Nat):Int),.v<|pairD c,by rw[es];rfl,Cc st hc,by rw[Qg,lS];rfl,?_,?_⟩
   ·rw[show k - (i+1)=k - i - 1 by omega];exact hc3
   ·rw[show k - (i+1)=k - i - 1 by omega,<- ee3];exact e2
  ·rintro δ ⟨S,n2,x6,x7,rfl,st,lS,iV,e2⟩;rw[CC,QY,Nat.sub_self] at iV e2;have iV:n2<1:=iV;obtain rfl:n2=0:=by omega
   have e2:=QF e2;rw[e2];exact hR
end
end Rk




namespace Rk
open L2 _root_.Rd
abbrev jV:Str:=⟨#[35]⟩
abbrev mQ:Str:=⟨#[46]⟩
abbrev mS:Str:=⟨#[47]⟩
abbrev f9:Str:=⟨#[]⟩
def Pf:(Qb "")=f9:=by decide
def o6(L:List (Int×Int))(r c:Nat):Str:=if((r:Int),(c:Int))∈L then jV else mQ
def gU(L:List (Int×Int))(w r:Nat):Str:=ZF f9<|(QD w).map<|o6 L r
def YL(h w:Nat)(L:List (Int×Int)):List Str:=(QD h).map<|gU L w
def jG(h w:Nat)(L:List (Int×Int)):Str:=ZF mS<|YL h w L
def zB(sep:Str)(ts:List Str):ZF sep ts=kI sep ts:=L0 sep ts
def nQ(sep:Str):∀(t:Str)(ts:List Str),(kI sep (t::ts)).cps.toList=t.cps.toList++ts.flatMap λu=>sep.cps.toList++u.cps.toList
 |t,[]=>by simp[kI]
 |t,u::ts=>by
  show(t++sep++kI sep (u::ts)).cps.toList=_;rw[zU,zU,Uw,nQ sep u ts];simp
def QlV:∀ts:List Str,(kI f9 ts).cps.toList=ts.flatMap λu=>u.cps.toList
 |[]=>rfl
 |t::ts=>by rw[nQ];simp
def Qm9(L:List (Int×Int))(r c:Nat):(o6 L r c).cps.toList=[if((r:Int),(c:Int))∈L then 35 else 46]:=by
 unfold o6;split<;>rfl
def CD(L:List (Int×Int))(w r:Nat):(gU L w r).cps.toList=(QD w).map λ(c:Nat)=>if((r:Int),(c:Int))∈L then 35 else 46:=by
 unfold gU;rw[zB,QlV,Lq];simp only[Qm9];rw[LS]
where
 LS {α β:Type} {f:α->β} {l:List α}:(l.flatMap λx=>[f x])=l.map f:=by
  induction l with
  |nil=>rfl
  |cons a l ih=>rw[ZH,ih];rfl
def rp(L:List (Int×Int))(w r:Nat):(gU L w r).length=w:=by
 have h:=X6 List.length<|CD L w r
 simpa [Str.length] using h
def TQ:∀{a b:List Nat}{x y:List Nat},c∉a->c∉b->a++c::x=b++c::y->a=b/\x=y
 |[],[],_,_,_,_,h=>⟨rfl,(zX h).2⟩
 |[],b::bs,_,_,_,hb,h=>X5 (zX h).1 λz=>hb<|z ▸ Q1
 |a::as,[],_,_,ha,_,h=>X5 (zX h).1 λz=>ha<|z ▸ Q1
 |a::as,b::bs,_,_,ha,hb,h=>by
  obtain⟨e1,e2⟩:=zX h;obtain⟨r1,r2⟩:=TQ (λz=>ha<|QN _ z) (λz=>hb<|QN _ z) e2;exact⟨by rw[e1,r1],r2⟩
def UR{b:Str}(h:a.cps.toList=b.cps.toList):a=b:=Str.ext'<|C7.mp h
def Vw:∀{ts us:List Str}{t u:Str},(∀p∈t::ts,c∉p.cps.toList)->(∀p∈u::us,c∉p.cps.toList)->(kI ⟨#[c]⟩ (t::ts)).cps.toList=(kI ⟨#[c]⟩ (u::us)).cps.toList->t::ts=u::us
 |[],[],t,u,_,_,h=>by
  have e:t.cps.toList=u.cps.toList:=h;rw[UR e]
 |[],v::us,t,u,ht,_,h=>by
  rw[nQ,nQ] at h;simp at h;exact X5 (by rw[h];simp)<|ht t Q1
 |s::ts,[],t,u,_,hu,h=>by
  rw[nQ,nQ] at h;simp at h;exact X5 (by rw[<- h];simp)<|hu u Q1
 |s::ts,v::us,t,u,ht,hu,h=>by
  have e:t.cps.toList++c::(kI ⟨#[c]⟩ (s::ts)).cps.toList=u.cps.toList++c::(kI ⟨#[c]⟩ (v::us)).cps.toList:=by
   simpa [nQ] using h
  obtain⟨e1,e2⟩:=TQ (ht t Q1) (hu u Q1) e;rw[UR e1,Vw (λp hp=>ht p<|QN _ hp) (λp hp=>hu p<|QN _ hp) e2]
def Vp(x y:Str):∃t ts,Z5 x y=t::ts:=by
 unfold Z5;split
 ·exact⟨_,_,rfl⟩
 ·split
  ·exact⟨_,_,rfl⟩
  ·rw[W3];exact StrLaws.partsFrom_ne x y.length 0 _
def Qga(h:∀p∈t::ts,c∉p.cps.toList):Z5 (ZF ⟨#[c]⟩ (t::ts)) ⟨#[c]⟩=t::ts:=by
 obtain⟨u,us,e⟩:=Vp (ZF ⟨#[c]⟩ (t::ts)) ⟨#[c]⟩;have h1:=StrLaws.split_free (ZF ⟨#[c]⟩ (t::ts)) c;have h2:=StrLaws.join_split (ZF ⟨#[c]⟩ (t::ts)) ⟨#[c]⟩;rw[e] at h1 h2 ⊢;exact Vw h1 h (by rw[h2,zB])
def zK(h w:Nat)(L:List (Int×Int)):(YL h w L).length=h:=by
 unfold YL;rw[Qd,QR]
def ui(h:∀y∈ts,y.length<=B)(hz:ts.length*B+ts.length*sep.length<=16777216):tx sep ts=true:=by
 unfold tx;rw[StrLaws.joinFits h hz];rfl
def Qje(L:List (Int×Int))(hw:w<=6)(r:Nat):tx f9 ((QD w).map<|o6 L r)=true:=by
 refine ui (B:=1) (λy hy=>?_) ?_
 ·obtain⟨c,_,rfl⟩:=Qq.mp hy;unfold o6;split<;>exact Qf _
 ·rw[Qd,QR];show w*1+w*0<=_;omega
def Qg8(L:List (Int×Int))(hh:h<=6)(hw:w<=6):tx mS (YL h w L)=true:=by
 refine ui (B:=6) (λy hy=>?_) ?_
 ·obtain⟨c,_,rfl⟩:=Qq.mp hy;rw[rp];exact hw
 ·rw[zK];show h*6+h*1<=_;omega
def Qvg(L:List (Int×Int))(h1:1<=h):Jb (.str<|jG h w L)=true:=by
 show O0 (jG h w L)=true;have e:(jG h w L).cps.toList.all (λc=>decide (c<0x110000))=true:=by
  rw[JZ];intro c hc;unfold jG at hc;rw[zB] at hc;cases q:YL h w L with
  |nil=>rw[q] at hc;simp[kI,Yl] at hc
  |cons t ts=>
   have f:∀p∈YL h w L,∀c∈p.cps.toList,c<0x110000:=λp hp c hc=>by
    obtain⟨r,_,rfl⟩:=Qq.mp hp;rw[CD] at hc;obtain⟨k,_,e⟩:=Qq.mp hc;split at e<;>omega
   rw[q] at hc f;rw[nQ] at hc;refine X1 ?_
   rcases QV.mp hc with z | z
   ·exact f t Q1 c z
   ·obtain⟨u,hu,hz⟩:=ZN.mp z;rcases QV.mp hz with y | y
    ·have:=y;simp at this;omega
    ·exact f u (QN _ hu) c y
 unfold O0;rw[<- RU];exact e
end Rk
namespace L2
def gT(z:Str):Bool:=z.cps.toList.all λc=>decide (c<128)
def B':gT z=true↔∀c∈z.cps.toList,c<128:=by
 unfold gT;rw[JZ];exact⟨λh c hc=>X2<|h c hc,λh c hc=>X1<|h c hc⟩
def Qx7(h:gT z=true):Jb (.str z)=true:=by
 show z.cps.all (λc=>decide (c<0x110000))=true;rw[<- RU,JZ];intro c hc;have:=B'.mp h c hc;exact X1 (by omega)
def S7(hx:gT x=true)(hy:gT y=true):gT (x++y)=true:=by
 have e:(x++y).cps.toList=x.cps.toList++y.cps.toList:=Uw;rw[B',e];intro c hc;rcases QV.mp hc with h | h
 ·exact B'.mp hx c h
 ·exact B'.mp hy c h
def U9(hs:gT sep=true):∀{ts:List Str},(∀t∈ts,gT t=true)->gT (kI sep ts)=true
 |[],_=>rfl
 |[x],h=>h x<|Qm.mpr rfl
 |x::y::r,h=>S7 (S7 (h x<|Q1 ..) hs)<|U9 hs λt ht=>h t<|QN _ ht
def Qx6(hs:gT sep=true)(h:∀t∈ts,gT t=true):gT (ZF sep ts)=true:=by
 show gT (WH sep ts)=true;rw[L0];exact U9 hs h
end L2
namespace Rk
open L2 _root_.Rd
open Dl
open Rt
def oB(wd:Str)(ns:List Int):Prop:=(ns=[]/\wd∈(["row", "column", "turn", "rest", "undo"]:List Str))∨∃x y,ns=[x,y]/\(wd = "put" ∨ wd = "take")
def Rr:DF:=λargs R _=>∃b:Bo,args=[.cZ,.v b.d,.v<|.int 0]/\b.ok/\∀(wd:Str)(ns:List Int),oB wd ns->(∀n∈ns,0<=n/\n<6)->R (.tuple [.str wd,.list<|ns.map Qr])
def AO{x y:Int}(x0:0<=x)(x6:x<6)(y0:0<=y)(y6:y<6):∀n∈[x,y],0<=n/\n<6:=λn hn=>by
 rcases Qv.mp hn with rfl | hn
 ·exact⟨x0,x6⟩
 ·rw[Qm.mp hn];exact⟨y0,y6⟩
def CJ{D:qS}{wd:Str}{x0 x1 x2 x3 x4 x5 x6 x7 x8:Sl}{odd x y:Xd}{wh:Int}{bad:Bool}(hb:bad=false)(hR:D.rt<|.tuple [.str wd,.list [x,y]]) :
  (oU (qB (lH<|gE 11) (Ad 12 (gE 10)<|ni 9) qM)<|vN (dC<|YU wd) 12) D [x0,x1,x2,x3,x4,x5,x6,x7,x8,.v odd,.v<|.int wh,.v<|.bool bad,.own [x,y]]:=by
 refine⟨Jn,oh (λz=>?_) λ_=>hR⟩;have z:=z;rw[hb] at z;cases z
def QoI{R:Xd->Prop}{x2:Sl}{bd odd:Xd}{bh bw:Nat}{bf:Nat->Nat->Bool}{way r c wh:Int}{bad:Bool}(hb:bad=false)(h6:bh<=6)(w6:bw<=6)(y0:0<=way)(y1:way<16)(r0:0<=r)(r1:r<6)(c0:0<=c)(c1:c<6)(hR:∀(wd:Str)(ns:List Int),oB wd ns->(∀n∈ns,0<=n/\n<6)->R (.tuple [.str wd,.list<|ns.map Qr])) :
  (oU (Bm 12<|Ac<|gH (ni 7)<|gH (ni 8) nh)
   (oU (qB (gD<|fE (si λi j=>rA<|decide (i<j)) (gE 6)<|dC<|Qr 8) (oU (qB (lH<|gE 11) (Ad 12 (gE 10)<|ni 9) qM)<|vN (dC<|YU "put") 12) qM)
   (oU (qB (gD<|fE (si λi j=>rA<|decide (i<j)) (gE 6)<|dC<|Qr 10)
    (oU (qB (Mv (gD<|fE Fj (gE 5)<|Ae nh)<|gD<|fE (si λi j=>rA<|decide (j<i)) (o4 Hd<|D0 0<|sV (dC<|Qr 4) MH)<|dC<|Qr 0)
     (Bm 12<|sL GW<|gH (fE AN (gE 5)<|fE (NR (λ_ j=>0<j) λi j=>Qr<|i % j) (fE QEv (fE QEf (gE 7)<|gE 4)<|gE 8)<|sL Mj<|gH (gE 5) nh) nh) qM)
     (oU (qB (lH<|gE 11) (Ad 12 (gE 10)<|ni 9) qM)<|vN (dC<|YU "take") 12)) qM)
   (G1<|Ae<|gH (fE AN (Ac<|gH (dC<|YU "row")<|gH (dC<|YU "column")<|gH (dC<|YU "turn")<|gH (dC<|YU "rest")<|gH (dC<|YU "undo")<|gH (dC<|YU "row") nh)<|fE (si λi j=>Qr<|i - j) (gE 6)<|dC<|Qr 10)<|gH (Ac nh) nh))))
  (qN false R XF) [.cZ,.v bd,x2,.v<|.int bh,.v<|.int bw,.v<|.tuple<|(af bh bw bf).map pairD,.v<|.int way,.v<|.int r,.v<|.int c,.v odd,.v<|.int wh,.v<|.bool bad,.no]:=by
 have ln:(af bh bw bf).length<=36:=QQ (wR bw bf bh)<|YW h6 w6;refine oh (λz=>?_) λz=>?_
 ·exact CJ hb (hR _ [r,c] (.inr ⟨_,_,rfl,by first | exact .inl rfl | exact .inr rfl⟩)<|AO r0 r1 c0 c1)
 ·refine oh (λz2=>?_) λz2=>?_
  ·refine⟨⟨Yz _,rfl,.inr<|by decide⟩,?_⟩;refine oh (λne=>⟨_,rfl,by decide,by decide,λq _ _=>oh (λ_=>?_) λ_=>CJ hb<|hR _ [r,c] (.inr ⟨_,_,rfl,by first | exact .inl rfl | exact .inr rfl⟩)<|AO r0 r1 c0 c1⟩) λ_=>CJ hb (hR _ [r,c] (.inr ⟨_,_,rfl,by first | exact .inl rfl | exact .inr rfl⟩)<|AO r0 r1 c0 c1)
   have lp:0<((af bh bw bf).map pairD).length:=by
    cases e:(af bh bw bf).map pairD with
    |nil=>
     have ne:(!Q3 (.tuple<|(af bh bw bf).map pairD) (.tuple []))=true:=ne;rw[e] at ne;cases ne
    |cons a l=>exact Cq _
   refine⟨.inl<|.inl ⟨by omega,by omega⟩,by show(0:Int)<(((af bh bw bf).map pairD).length:Int);omega,GQ (Pn _<|by omega) (RX _<|by omega) λd hd=>?_⟩;obtain⟨p,hp,rfl⟩:=Qq.mp hd;have bp:=rC hp;exact CJ hb (hR _ [p.1,p.2] (.inr ⟨_,_,rfl,.inr rfl⟩)<|AO bp.1 (by omega) bp.2.2.1<|by omega)
  ·have z:=X3 z2;refine GQ (by omega) (by show _<(6:Int);omega) λwd hw=>?_
   obtain⟨d,rfl,e⟩:=wj (p:=λwd=>∃d:Str,wd=YU d/\oB d []) ⟨_,rfl,.inl ⟨rfl,by decide⟩⟩ (wj ⟨_,rfl,.inl ⟨rfl,by decide⟩⟩<|wj ⟨_,rfl,.inl ⟨rfl,by decide⟩⟩<|wj ⟨_,rfl,.inl ⟨rfl,by decide⟩⟩<|wj ⟨_,rfl,.inl ⟨rfl,by decide⟩⟩<|wj ⟨_,rfl,.inl ⟨rfl,by decide⟩⟩ QBy) wd hw;exact hR _ [] e λn hn=>nomatch hn
section
variable{P:QB}{w:Jf}{K:Qa}{mg:Str->Option Xc}{base:Xl}
def Qsd(F:az P w K mg base "_law_deed" QAx)(T:aB mg)
  (c1:ar P w K mg base aq 1 "_law_take"<|Zz true Hd) :
  ar P w K mg base aq 2 "_law_deed" (Zz false Rr):=by
 refine eA ["_law_pot_here", "_law_board", "_law_odds", "_law_high", "_law_wide", "_law_cells", "_law_way", "_law_row", "_law_column", "_law_odd", "_law_which", "_law_bad", "_law_told"] 3 false F λaj A outer s H E nD hr hU hI=>?_
 refine⟨_,QZ (vZ (qv 1)<|kG rfl<|J8 3 (J8 4 (J8 5 kF nD rfl<|by first | exact QJ rfl | exact QU rfl) nD rfl<|by first | exact QJ rfl | exact QU rfl) nD rfl<|by first | exact QJ rfl | exact QU rfl)
  (QZ (Z7 6 (Zo<|lX c1 hr<|ub 0<|Ys JI Zf) nD)
  (QZ (Qzt 7 8 (Yi (Zo<|lX c1 hr<|ub 0<|Ys (qv 3) Zf)<|Yi (Zo<|lX c1 hr<|ub 0<|Ys (qv 4) Zf) Js) nD)
  (QZ (Z7 9 (bJ J6 ZX (JC<|kB<|Yi (qv 3)<|Yi (qv 4)<|Yi (Zo<|Hi<|Jg JI)<|Yi (Zo<|YH HM vJ (Jg JI)<|Jg JI)<|Yi MB<|Yi MB<|Yi QCW<|Yi j0<|Yi (Zo<|ef<|Yi JI Js)<|Yi (Zo<|kB<|Yi JI Js)<|Yi QCY<|Yi JI Js) (JC<|lX c1 hr<|ub 0<|Ys JI Zf) λ_ _=>rfl) nD)
  (QZ (Z7 10 (Zo<|lX c1 hr<|ub 0<|Ys JI Zf) nD)
  (QZ (Z7 11 (Zo<|Hh yR tQ (JC<|lX c1 hr<|ub 0<|Ys JI Zf) (qp 2)<|JE _) nD)
  (QZ (zl 12 (kB<|Yi (qv 7)<|Yi (qv 8) Js) nD)
  (QZ (j3 (gY yR tQ (qp 6) (Jg JI)<|JE _) (QZ (j3 (v7<|qp 11) (Ji<|SU 12 (qv 9)<|qp 10) j_)
  (Ji<|Ve 12 j0)) j_)
  (QZ (j3 (gY yR tQ (qp 6) (Jg JI)<|JE _) (QZ (j3 (yF<|HJ (gY HL (G9 hU) (qp 5) (JC<|ef Js)<|JE _)<|II<|gY yQ tQ (JC<|lX c1 hr<|ub 0<|Ys JI Zf) (Jg JI)<|JE _) (Ji<|zl 12 (rn L7 IQ (by rfl) T.list IP<|gc (Jg<|bJ J6 ZX (qp 5) (JC<|YH yX vJ (JC<|YH YI ja (JC<|YH Uo PZ (qp 7)<|qp 4)<|qp 8)<|JC<|l7 CZ BJ (by rfl) T.len iK<|gc (qp 5) Js) λ_ _=>rfl) Js) nD) j_)
  (QZ (j3 (v7<|qp 11) (Ji<|SU 12 (qv 9)<|qp 10) j_)
  (Ji<|Ve 12 j0))) j_)
  (Ji<|j9<|ef<|Yi (bJ J6 ZX (JC<|kB<|Yi j0<|Yi j0<|Yi j0<|Yi j0<|Yi j0<|Yi j0 Js) (JC<|YH tY qX (qp 6)<|Jg JI) λ_ _=>rfl)<|Yi (Zo<|kB Js) Js))))))))),λargs R EX h=>?_⟩
 obtain⟨b,rfl,o,hR⟩:=h;obtain⟨bh,bw,bf⟩:=b;obtain⟨h1,h6,w1,w6⟩:=o;have h1:1<=bh:=h1;have h6:bh<=6:=h6;have w1:1<=bw:=w1;have w6:bw<=6:=w6;refine⟨rfl,_,rfl,by decide,by decide,λway y0 y1=>?_⟩;refine⟨_,rfl,by show(0:Int)<(bh:Int);omega,by show(bh:Int)<=10^40;omega,λr r0 r1=>⟨_,rfl,by show(0:Int)<(bw:Int);omega,by show(bw:Int)<=10^40;omega,λc c0 c1=>?_⟩⟩;refine⟨⟨by decide,by decide⟩,_,rfl,by decide,by decide,λk k0 k1=>GQ k0 k1 λodd _=>?_⟩;refine⟨_,rfl,by decide,by decide,λwh v0 v1=>⟨_,rfl,by decide,by decide,λbad b0 _=>?_⟩⟩;exact QoI (X0<|by omega) h6 w6 y0 y1 r0 (by omega) c0 (by omega) hR
end
abbrev QBt:Ze:=Y4 (top 56) 0
abbrev yD:Ze:=Y4 (top 56) 1
abbrev QBp:Ze:=Y4 (top 56) 2
abbrev yC:Ze:=Y4 (top 56) 3
abbrev yE:Ze:=Y4 (top 56) 4
abbrev QBo:Ze:=Y4 (top 56) 5
abbrev QBq:Ze:=Y4 (top 56) 6
abbrev QBn:Ze:=Y4 (top 56) 7
abbrev QBs:Ze:=Y4 (top 56) 8
abbrev Rb:Ze:=Y4 (top 56) 9
abbrev S8:Ze:=Y4 (top 56) 10
abbrev QBr:Ze:=Y4 (top 56) 11
def B0:Bo:=⟨1,1,λ_ _=>false⟩
def QDY:B0.ok:=⟨by decide,by decide,by decide,by decide⟩
def ke:¬(("kept" : Str) = "earlier"):=by decide
def jz(v:V)(l:Xb):List (Str×V):=dD "earlier" (.ref l)<|dD "kept" v []
def QBl(v:V)(l:Xb):jz v l=([("kept",v),("earlier",V.ref l)]:List (Str×V)):=by
 show(if("kept" : Str) = "earlier" then[(("kept" : Str),V.ref l)] else(("kept" : Str),v)::dD "earlier" (V.ref l) [])=([("kept",v),("earlier",V.ref l)]:List (Str×V))
 all_goals rfl
def YD(v:V)(l:Xb):(jz v l).lookup ("kept" : Str)=some v:=by
 unfold jz;rw[Z2,XY ke,Z2,XZ rfl]
def Ln(v:V)(l:Xb):(jz v l).lookup ("earlier" : Str)=some (.ref l):=by
 unfold jz;rw[Z2,XZ rfl]
def Zb(v:V)(l:Xb){m:Str}(h1:¬m = "earlier")(h2:¬m = "kept"):(jz v l).lookup m=none:=by
 unfold jz;rw[Z2,XY h1,Z2,XY h2]
 all_goals rfl
def S'(v y:V)(l:Xb):dD "kept" y (jz v l)=jz y l:=by
 show(if("kept" : Str) = "kept" then(("kept" : Str),y)::[(("earlier" : Str),V.ref l)] else _)=([("kept",y),("earlier",V.ref l)]:List (Str×V));rw[XZ rfl]
def S9(v:V)(l:Xb):(jz v l).length<1000:=by rw[QBl];show 2<1000;decide
structure ba (C:Xb) (H:Hp) (b l:Xb) (es:List Bo) (k:Bo):Prop where
 at_:∃dx v xs,H b=some (.ins C dx<|jz v l)/\H l=some (.lst xs)/\DA N0 H v k.d/\aG N0 H xs (es.map Bo.d)
def K2(b l:Xb)(H H':Hp):Prop:=∀a o,a≠b->a≠l->H a=some o->H' a=some o
def K2.of(s:ag H H'):K2 b l H H':=λa o _ _ e=>s a o e
def K2.trans(x:K2 b l H H1)(y:K2 b l H1 H2):K2 b l H H2:=λa o h1 h2 e=>y a o h1 h2<|x a o h1 h2 e
def ba.same(x:ba C H b l es k)(s:ag H H'):ba C H' b l es k:=by
 obtain⟨dx,v,xs,e1,e2,d1,d2⟩:=x.at_;exact⟨dx,v,xs,s _ _ e1,s _ _ e2,d1.same s,d2.same s⟩
def G5(k:Bo):qt k.d=true:=QDA _ _ _
def QAP(es:List Bo):nk (es.map Bo.d)=true:=VX λd hd=>by
 obtain⟨k,_,rfl⟩:=Qq.mp hd;exact G5 k
def K2.cU(k:K2 b l H H')(e1:H b=some (.ins C dx fs))(e2:H l=some (.lst xs)):∀a ys,H a=some (.tup ys)->H' a=some (.tup ys):=λa ys e=>k a _ (ZL e e1 nofun) (ZL e e2 nofun) e
def jZ{k:Bo}(t:∀a ys,H a=some (.tup ys)->H' a=some (.tup ys))(q:DA N0 H v k.d):DA N0 H' v k.d:=QA1 t (λ_ z=>z.elim) _ _ (G5 k) q
def tL{es:List Bo}(t:∀a ys,H a=some (.tup ys)->H' a=some (.tup ys))(q:aG N0 H xs<|es.map Bo.d):aG N0 H' xs (es.map Bo.d):=QA0 t (λ_ z=>z.elim) _ _ (QAP es) q
structure dn (K:Qa) (C:Xb):Prop where
 cl:iM K C
 nK:bN K C "kept"
 nE:bN K C "earlier"
def cM(d:bq)(es:List Bo)(k:Bo):Option Str:=match d with
 |.aT=>if es.isEmpty=true then some ("deed" : Str) else none
 |d=>DR d k
def jF(d:bq)(es:List Bo)(k:Bo):List Bo×Bo:=match d with
 |.aT=>(es.dropLast,es.getLastD k)
 |d=>(es++[k],fF d k)
def Mq(C:Xb)(xc:Str->Xb)(H:Hp)(Q:VK)(E:XK)(b l:Xb)(es:List Bo)(k:Bo)(d:bq):Prop:=
 (∀wd,cM d es k=some wd->∀H',ag H H'->E (.ref<|xc wd) none H')/\(cM d es k=none->∀H',K2 b l H H'->ba C H' b l (jF d es k).1 (jF d es k).2->Q .aL H')
def Ic(C:Xb):Sp:=λvs H Q _=>∃(p dx:Xb),vs=[.ref p]/\H p=some (.ins C dx [])/\∀(l:Xb)(H':Hp),H l=none->(∀a o,a≠p->H a=some o->H' a=some o)->ba C H' p l [] B0->Q .aL H'
def ue(C:Xb):Sp:=λvs H Q _=>∃(b l:Xb)(es:List Bo)(k:Bo)(v:V)(k':Bo),vs=[.ref b,v]/\ba C H b l es k/\es.length<=1000/\DA N0 H v k'.d/\∀H',K2 b l H H'->ba C H' b l (es++[k]) k'->Q .aL H'
def vH(C:Xb)(xc:Str->Xb)(mk:Xd->Xd->bq):Sp:=λvs H Q E=>∃(b l:Xb)(es:List Bo)(k:Bo)(x y:V)(dx dy:Xd),vs=[.ref b,x,y]/\ba C H b l es k/\k.ok/\es.length<=1000/\DA N0 H x dx/\DA N0 H y dy/\Mq C xc H Q E b l es k (mk dx dy)
def iJ(C:Xb)(xc:Str->Xb)(d:bq):Sp:=λvs H Q E=>∃(b l:Xb)(es:List Bo)(k:Bo),vs=[.ref b]/\ba C H b l es k/\k.ok/\es.length<=1000/\Mq C xc H Q E b l es k d
def wx(C:Xb):Sp:=λvs H Q _=>∃(b l:Xb)(es:List Bo)(k:Bo),vs=[.ref b]/\ba C H b l es k/\∀v,DA N0 H v k.d->Q v H
def KH(C:Xb):Sp:=λvs H Q _=>∃(b l:Xb)(es:List Bo)(k:Bo),vs=[.ref b]/\ba C H b l es k/\k.ok/\∀t H',ag H H'->H t=none->H' t=some (.lst<|(cg k.f k.h k.w).map V.int)->Q (.ref t) H'
def BP(C:Xb):Sp:=λvs H Q _=>∃(b l:Xb)(es:List Bo)(k:Bo),vs=[.ref b]/\ba C H b l es k/\k.ok/\∀(m:Nat) H',lU (af k.h k.w k.f) k.h k.w m->ag H H'->Q (.int m) H'
section
variable{P:QB}{w:Jf}{K:Qa}{mg:Str->Option Xc}{base:Xl}
def QwT{C:Xb}(F:bX P w K mg base C "__init__" "Bench.__init__" QBt)(T:dn K C) :
  aD P w K mg base aq 1 C "__init__" (Ic C):=by
 refine vc ["self"] 1 F λaj A outer s H vs Q E nD hr h=>?_
 obtain⟨p,dx,rfl,hp,k⟩:=h;have hU:=ao.rK hr;have hI:=ao.xW hr;refine⟨_,Qu (zc (pv 0) (Y1<|a_ Jj<|a_ Jj<|a_ (Y1 Qp) Qp) rfl)<|QP<|zc (pv 0) (Y2 Qp) rfl,?_⟩;refine⟨by decide,λt1 H1 s1 n1 a1=>⟨by show 3<=1000;decide,λt2 H2 s2 n2 a2=>?_⟩⟩;have p2:=s2 _ _<|s1 _ _ hp;refine⟨_,rfl,p,C,dx,[],rfl,p2,T.cl,T.nK,by decide,by decide,λl H3 s3 n3 e3=>?_⟩;have np:∀a o,a≠p->H a=some o->H3 a=some o:=λa o h e=>s3 _ _ (by rw[QH h];exact s2 _ _<|s1 _ _ e)
 have p3:=s3 _ _ QC;have lp:=ZL e3 p3 nofun;refine⟨_,rfl,p,C,dx,_,rfl,p3,T.cl,T.nE,by show 1<1000;decide,?_⟩;have nl:H l=none:=by
  cases z:H l with
  |none=>rfl
  |some o=>rw[QH lp,s2 _ _<|s1 _ _ z] at n3;cases n3
 refine k l _ nl (λa o h e=>by rw[QH h];exact np a o h e) ⟨dx,.ref t2,[],QC,by rw[QH lp];exact e3,?_,.nil⟩;have Na:=ZL a2 p2 nofun;have Nb:=ZL (s2 _ _ a1) p2 nofun;have b1:(upd H3 p<|.ins C dx<|dD "earlier" (.ref l)<|dD "kept" (.ref t2) []) t1=some (.tup []):=by rw[QH Nb];exact s3 _ _ (by rw[QH Nb];exact s2 _ _ a1)
 have b2:(upd H3 p<|.ins C dx<|dD "earlier" (.ref l)<|dD "kept" (.ref t2) []) t2=some (.tup [.int 1,.int 1,.ref t1]):=by rw[QH Na];exact s3 _ _ (by rw[QH Na];exact a2)
 exact .tup (λz=>z) b2<|.cons (.int _)<|.cons (.int _)<|.cons (.tup (λz=>z) b1 .nil) .nil
def QwS(F:bX P w K mg base C "keep" "Bench.keep" QBs)(T:dn K C) :
  aD P w K mg base aq 1 C "keep" (ue C):=by
 refine vc ["self", "board"] 2 F λaj A outer s H vs Q E nD hr h=>?_
 obtain⟨b,l,es,k,v,k',rfl,B,hl,hv,q⟩:=h;refine⟨_,Qu (Zp<|i6 JD L_ Mb C3 (iq (pv 0) rfl)<|Qj (iq (pv 0) rfl) Qp)<|QP<|zc (pv 0) (pv 1) rfl,?_⟩;obtain⟨dx,kv,xs,e1,e2,d1,d2⟩:=B.at_;have lx:xs.length=es.length:=by rw[d2.length,Qd]
 have bl:=ZL e1 e2 nofun;refine⟨_,rfl,b,C,dx,_,_,rfl,e1,T.cl,T.nE,Ln _ _,.inl ⟨rfl,_,aA.of e2⟩,_,rfl,b,C,dx,_,_,rfl,e1,T.cl,T.nK,YD _ _,l,xs,kv,rfl,rfl,e2,WN<|by omega,?_⟩;refine⟨_,rfl,_,rfl,b,C,dx,_,rfl,by rw[QH bl];exact e1,T.cl,T.nK,S9 _ _,?_⟩;have kx:K2 b l H (upd (upd H l<|.lst<|xs++[kv]) b<|.ins C dx<|dD "kept" v<|jz kv l):=λa o h1 h2 e=>by rw[QH h1,QH h2];exact e
 have tp:=kx.cU e1 e2;refine q _ kx ⟨dx,v,xs++[kv],by rw[QC,S'],by rw[QH bl.symm,QC],jZ tp hv,?_⟩;rw[JA];exact(tL tp d2).app<|.cons (jZ tp d1) .nil
def QAg{C:Xb}(F:bX P w K mg base C "put" "Bench.put" yD)(T:dn K C){xc:Str->Xb}(Tg:aB mg)
   (c1:ar P w K mg base (Rx.aQ P w) 3 "refuse_no_place"<|Zz false<|ME<|xc "place")
  (Gk:aD P w K mg base aq 1 C "keep"<|ue C)
  (mC:mg "Double" = some (.ref<|xc "double"))(qC:JH K (xc "double") Rx.cD "ValueError.__new__" = true) :
  aD P w K mg base (Rx.aQ P w) 5 C "put" (vH C xc .put):=by
 refine qH ["self", "row", "column", "high", "wide", "cells"] 3 F λaj A outer s H vs Q E nD hr h=>?_
 obtain⟨b,l,es,k,x,y,x',y',rfl,B,o,hl,hx,hy,po⟩:=h;have hU:=ao.rK hr;have hI:=ao.xW hr;refine⟨_,Qu (Zp<|wC c1 hr (Rx.i5 (E:=E) (λ_ _ h=>h) rfl rfl rfl)<|Qj (iq (pv 0) rfl)<|Qj (pv 1)<|Qj (pv 2) Qp)
  (Qu (pj (iq (pv 0) rfl)<|lV rfl<|J3 (i7 3 nD)<|J3 (i7 4 nD)<|J3 (i7 5 nD) l9)
  (Qu (d_ (QT.h (E:=E0)<|gY P1 (tH hI) (JC<|ef<|Yi (qv 1)<|Yi (qv 2) Js) (qp 5) rfl) (QP<|Rx.zy (C:=xc "double") (E:=E) (λ_ _ h=>h) rfl rfl rfl rfl rfl mC qC JR) Zu)
  (QP<|Zp<|Z1 (pv 0) T.cl Gk hr dZ<|Qj (QE.h (E:=E0)<|ef<|Yi (qv 3)<|Yi (qv 4)<|Yi (Zo<|rn YA zF rfl Tg.tuple rg<|gc (JC<|l7 QjQ Qo1 rfl Tg.sorted Lo<|gc (JC<|YH YI ja (qp 5)<|JC<|ef<|Yi (Zo<|ef<|Yi (qv 1)<|Yi (qv 2) Js) Js) Js) Js) Js) Qp))),?_⟩
 obtain⟨dx,kv,xs,e1,e2,d1,d2⟩:=B.at_;obtain⟨px,pn⟩:=po;refine⟨_,rfl,b,C,dx,_,_,rfl,e1,T.cl,T.nK,YD _ _,_,rfl,_,rfl,?_⟩;refine gZ (args:=[.v k.d,.v x',.v y']) (λd=>d=.none/\hZ k x' y'=true) (λD=>D=xc "place" /\ hZ k x' y'=false) (.cons d1<|.cons hx<|.cons hy .nil) ⟨k,x',y',rfl,λz=>⟨rfl,z⟩,λz=>⟨rfl,z⟩⟩ (λd hd v0 H1 s1 _ _=>?_) λD hD H1 s1=>?_
 case refine_2=>
  obtain⟨rfl,z⟩:=hD;refine px "place" ?_ H1 s1
  show(if hZ k x' y'=true then _ else _)=_;rw[z];rfl
 obtain⟨_,hi⟩:=hd;obtain⟨r,c,rfl,rfl,qe,jT⟩:=QAK hi;obtain⟨ak,ac,ps,rfl,f1,f2,dc⟩:=yK d1;have yy:=s1 _ _ e1;refine⟨_,rfl,b,C,dx,_,_,rfl,yy,T.cl,T.nK,YD _ _,ak,_,rfl,aP.of<|s1 _ _ f1,rfl,_,_,rfl,_,_,rfl,_,_,rfl,rfl,?_⟩;have xr:x=.int r:=by cases hx;rfl
 have yc:y=.int c:=by cases hy;rfl
 subst xr;subst yc;have slots:∀H',ag H1 H'->Zy (vC H') [some<|.ref b,some<|.int r,some<|.int c,some<|.int k.h,some<|.int k.w,some<|.ref ac] [.no,.v<|.int r,.v<|.int c,.v<|.int k.h,.v<|.int k.w,.v<|.tuple<|(af k.h k.w k.f).map pairD]:=λH' s'=>.cons Jn<|.cons ⟨_,rfl,.int _⟩<|.cons ⟨_,rfl,.int _⟩<|.cons ⟨_,rfl,.int _⟩<|.cons ⟨_,rfl,.int _⟩<|.cons ⟨_,rfl,(DA.same dc s1).same s'⟩ .nil
 refine AQ _ (slots H1 λ_ _ z=>z) ?_
 refine⟨⟨Yz _,rfl,by have:=ux ((r:Int),(c:Int));exact QQ (zD this)<|by decide⟩,λH2 s2=>?_⟩;have ea:(((af k.h k.w k.f).map pairD).any λe=>Q3 e<|.tuple [.int r,.int c])=k.f r c:=(wL _ ((r:Int),(c:Int))).trans<|QAt qe jT;show if(((af k.h k.w k.f).map pairD).any λe=>Q3 e<|.tuple [.int r,.int c])=true then _ else _
 rw[ea];have ed:cM (.put (.int r)<|.int c) es k=if k.f r c=true then some ("double" : Str) else none:=by
  show(if hZ k (.int r) (.int c)=true then(if k.f r c=true then some ("double" : Str) else none) else some "place")=_;rw[hi];rfl
 rw[ed] at pn;have eZ:=s1.trans s2;cases zf:k.f r c with
 |true=>
  refine px "double" ?_ H2 eZ
  rw[ed,zf];rfl
 |false=>
  rw[zf] at pn;have ln:=QQ (wR k.w k.f k.h)<|YW o.h6 o.w6;refine⟨_,rfl,b,dx,_,rfl,s2 _ _ yy,Zb _ _ (by decide)<|by decide,?_⟩;refine AR _ (slots H2 s2) ?_
  refine⟨by show((af k.h k.w k.f).map pairD).length+1<=1000000;rw[Qd];omega,?_⟩;have es':(af k.h k.w k.f).map pairD++[YT [.int (r:Int),.int (c:Int)]]=(af k.h k.w k.f++[((r:Int),(c:Int))]).map pairD:=by rw[JA];rfl
  show zw [.tuple<|(af k.h k.w k.f).map pairD++[YT [.int (r:Int),.int (c:Int)]]] _;rw[es'];refine Qm6 (QvS zf) (by rw[Qg];show _+1<64;omega) (λp hp=>?_) λM pM pw=>?_
  ·rcases QV.mp hp with hp | hp
   ·have:=rC hp;have:=o.w6;omega
   ·rw[Qm.mp hp];have:=o.w6;show 0<=(c:Int)/\(c:Int)<64;omega
  ·rw[QoY qe jT pM pw];intro v3 H3 s3 dv;exact⟨b,l,es,k,v3,fF (.put (.int r)<|.int c) k,rfl,B.same<|eZ.trans s3,hl,dv,λH4 k4 B4=>pn rfl H4 ((K2.of<|eZ.trans s3).trans k4) B4⟩
end
end Rk


namespace Rk
open L2 _root_.Rd
open Dl
open Rt
section
variable{P:QB}{w:Jf}{K:Qa}{mg:Str->Option Xc}{base:Xl}
def Qsg{C:Xb}(F:bX P w K mg base C "take" "Bench.take" QBp)(T:dn K C){xc:Str->Xb}
   (c1:ar P w K mg base (Rx.aQ P w) 3 "refuse_no_place"<|Zz false<|ME<|xc "place")
   (c2:ar P w K mg base (Rx.aQ P w) 5 "without"<|Zz false<|QDZ<|xc "cell")
  (Gk:aD P w K mg base aq 1 C "keep"<|ue C) :
  aD P w K mg base (Rx.aQ P w) 6 C "take" (vH C xc .take):=by
 refine qH ["self", "row", "column"] 3 F λaj A outer s H vs Q E nD hr h=>?_
 obtain⟨b,l,es,k,x,y,x',y',rfl,B,o,hl,hx,hy,po⟩:=h;refine⟨_,Qu (Zp<|wC c1 hr (Rx.i5 (λ_ _ h=>h) rfl rfl rfl)<|Qj (iq (pv 0) rfl)<|Qj (pv 1)<|Qj (pv 2) Qp)
  (QP<|Zp<|Z1 (pv 0) T.cl Gk hr dZ<|Qj (wC c2 hr (Rx.i5 (λ_ _ h=>h) rfl rfl rfl)<|Qj (iq (pv 0) rfl)<|Qj (QE.h (E:=E0)<|ef<|Yi (qv 1)<|Yi (qv 2) Js) Qp) Qp),?_⟩
 obtain⟨dx,kv,xs,e1,e2,d1,d2⟩:=B.at_;obtain⟨px,pn⟩:=po;refine⟨_,rfl,b,C,dx,_,_,rfl,e1,T.cl,T.nK,YD _ _,_,rfl,_,rfl,(gZ (args:=[.v k.d,.v x',.v y']) (λd=>d=.none/\hZ k x' y'=true) (λD=>D=xc "place" /\ hZ k x' y'=false) (.cons d1<|.cons hx<|.cons hy .nil) ⟨k,x',y',rfl,λz=>⟨rfl,z⟩,λz=>⟨rfl,z⟩⟩ (λd hd v0 H1 s1 _ _=>?_) λD hD H1 s1=>?_)⟩
 case refine_2=>
  obtain⟨rfl,z⟩:=hD;refine px "place" ?_ H1 s1
  show(if hZ k x' y'=true then _ else _)=_;rw[z];rfl
 obtain⟨_,hi⟩:=hd;obtain⟨r,c,rfl,rfl,qe,jT⟩:=QAK hi;have yy:=s1 _ _ e1;have xr:x=.int r:=by cases hx;rfl
 have yc:y=.int c:=by cases hy;rfl
 subst xr;subst yc;refine⟨_,rfl,b,dx,_,rfl,yy,Zb _ _ (by decide)<|by decide,?_⟩;refine⟨_,rfl,b,C,dx,_,_,rfl,yy,T.cl,T.nK,YD _ _,(AR [.no,.v<|.int r,.v<|.int c] (.cons Jn<|.cons ⟨_,rfl,.int _⟩<|.cons ⟨_,rfl,.int _⟩ .nil) ?_)⟩;intro v2 H2 s2 dv;have ed:cM (.take (.int r)<|.int c) es k=if k.f r c=true then none else some ("cell" : Str):=by
  show(if hZ k (.int r) (.int c)=true then(if k.f r c=true then none else some ("cell" : Str)) else some "place")=_;rw[hi];rfl
 have eZ:=s1.trans s2;refine gZ (args:=[.v k.d,.v<|pairD (r,c)]) (λd=>d=(fF (.take (.int r)<|.int c) k).d/\k.f r c=true) (λD=>D=xc "cell" /\ k.f r c=false) (.cons (DA.same d1 eZ)<|.cons dv .nil) ⟨k,r,c,rfl,qe,jT,λz=>⟨rfl,z⟩,λz=>⟨rfl,z⟩⟩ (λd hd v3 H3 s3 jU _=>?_) λD hD H3 s3=>?_
 case refine_2=>
  obtain⟨rfl,z⟩:=hD;refine px "cell" ?_ H3<|eZ.trans s3
  rw[ed,z];rfl
 obtain⟨rfl,zf⟩:=hd;rw[ed,zf] at pn;exact⟨b,l,es,k,v3,fF (.take (.int r)<|.int c) k,rfl,B.same<|eZ.trans s3,hl,jU,λH4 k4 B4=>pn rfl H4 ((K2.of<|eZ.trans s3).trans k4) B4⟩
def QwZ{C:Xb}(F:bX P w K mg base C "row" "Bench.row" yC)(T:dn K C){xc:Str->Xb}
   (c1:ar P w K mg base (Rx.aQ P w) 1 "refuse_too_many"<|Zz false<|MG<|xc "many")
  (Gk:aD P w K mg base aq 1 C "keep"<|ue C) :
  aD P w K mg base (Rx.aQ P w) 3 C "row" (iJ C xc .row):=by
 refine qH ["self", "high", "wide", "cells"] 1 F λaj A outer s H vs Q E nD hr h=>?_
 obtain⟨b,l,es,k,rfl,B,o,hl,po⟩:=h;refine⟨_,Qu (pj (iq (pv 0) rfl)<|lV rfl<|J3 (i7 1 nD)<|J3 (i7 2 nD)<|J3 (i7 3 nD) l9)
  (Qu (Zp<|wC c1 hr (Rx.i5 (λ_ _ h=>h) rfl rfl rfl)<|Qj (pv 1) Qp)
  (QP<|Zp<|Z1 (pv 0) T.cl Gk hr dZ<|Qj (QE.h (E:=E0)<|ef<|Yi (Zo<|YH YI ja (qp 1)<|Jg JI)<|Yi (qv 2)<|Yi (qv 3) Js) Qp)),?_⟩
 obtain⟨dx,kv,xs,e1,e2,d1,d2⟩:=B.at_;obtain⟨px,pn⟩:=po;obtain⟨ak,ac,ps,rfl,f1,f2,dc⟩:=yK d1;refine⟨_,rfl,b,C,dx,_,_,rfl,e1,T.cl,T.nK,YD _ _,ak,_,rfl,aP.of f1,rfl,_,_,rfl,_,_,rfl,_,_,rfl,rfl,⟨_,rfl,?_⟩⟩;refine gZ (args:=[.v<|.int k.h]) (λd=>d=.none/\k.h≠6) (λD=>D=xc "many" /\ k.h=6) (.cons (.int _) .nil) ⟨k.h,rfl,λz=>⟨rfl,z⟩,λz=>⟨rfl,z⟩⟩ (λd hd v0 H1 s1 _ _=>?_) λD hD H1 s1=>?_
 case refine_2=>
  obtain⟨rfl,z⟩:=hD;refine px "many" ?_ H1 s1
  show(if k.h=6 then _ else _)=_;rw[XZ z]
 obtain⟨_,z⟩:=hd;have ed:cM .row es k=none:=by
  show(if k.h=6 then _ else _)=_;rw[XY z]
 refine⟨_,rfl,b,dx,_,rfl,s1 _ _ e1,Zb _ _ (by decide)<|by decide,?_⟩;refine AR [.no,.v<|.int k.h,.v<|.int k.w,.v<|.tuple<|(af k.h k.w k.f).map pairD] (.cons Jn<|.cons ⟨_,rfl,.int _⟩<|.cons ⟨_,rfl,.int _⟩<|.cons ⟨_,rfl,DA.same dc s1⟩ .nil) ?_
 intro v2 H2 s2 dv;have eb:(fF .row k).d=cX (k.h+1) k.w (af k.h k.w k.f):=by
  show cX _ _ (af (k.h+1) k.w λr c=>k.f r c&&decide (r<k.h))=_;rw[QoX];rfl
 exact⟨b,l,es,k,v2,fF .row k,rfl,B.same<|s1.trans s2,hl,by rw[eb];exact dv,λH4 k4 B4=>pn ed H4 ((K2.of<|s1.trans s2).trans k4) B4⟩
def Qw0{C:Xb}(F:bX P w K mg base C "column" "Bench.column" yE)(T:dn K C){xc:Str->Xb}
   (c1:ar P w K mg base (Rx.aQ P w) 1 "refuse_too_many"<|Zz false<|MG<|xc "many")
  (Gk:aD P w K mg base aq 1 C "keep"<|ue C) :
  aD P w K mg base (Rx.aQ P w) 3 C "column" (iJ C xc .col):=by
 refine qH ["self", "high", "wide", "cells"] 1 F λaj A outer s H vs Q E nD hr h=>?_
 obtain⟨b,l,es,k,rfl,B,o,hl,po⟩:=h;refine⟨_,Qu (pj (iq (pv 0) rfl)<|lV rfl<|J3 (i7 1 nD)<|J3 (i7 2 nD)<|J3 (i7 3 nD) l9)
  (Qu (Zp<|wC c1 hr (Rx.i5 (λ_ _ h=>h) rfl rfl rfl)<|Qj (pv 2) Qp)
  (QP<|Zp<|Z1 (pv 0) T.cl Gk hr dZ<|Qj (QE.h (E:=E0)<|ef<|Yi (qv 1)<|Yi (Zo<|YH YI ja (qp 2)<|Jg JI)<|Yi (qv 3) Js) Qp)),?_⟩
 obtain⟨dx,kv,xs,e1,e2,d1,d2⟩:=B.at_;obtain⟨px,pn⟩:=po;obtain⟨ak,ac,ps,rfl,f1,f2,dc⟩:=yK d1;refine⟨_,rfl,b,C,dx,_,_,rfl,e1,T.cl,T.nK,YD _ _,ak,_,rfl,aP.of f1,rfl,_,_,rfl,_,_,rfl,_,_,rfl,rfl,⟨_,rfl,?_⟩⟩;refine gZ (args:=[.v<|.int k.w]) (λd=>d=.none/\k.w≠6) (λD=>D=xc "many" /\ k.w=6) (.cons (.int _) .nil) ⟨k.w,rfl,λz=>⟨rfl,z⟩,λz=>⟨rfl,z⟩⟩ (λd hd v0 H1 s1 _ _=>?_) λD hD H1 s1=>?_
 case refine_2=>
  obtain⟨rfl,z⟩:=hD;refine px "many" ?_ H1 s1
  show(if k.w=6 then _ else _)=_;rw[XZ z]
 obtain⟨_,z⟩:=hd;have ed:cM .col es k=none:=by
  show(if k.w=6 then _ else _)=_;rw[XY z]
 refine⟨_,rfl,b,dx,_,rfl,s1 _ _ e1,Zb _ _ (by decide)<|by decide,?_⟩;refine AR [.no,.v<|.int k.h,.v<|.int k.w,.v<|.tuple<|(af k.h k.w k.f).map pairD] (.cons Jn<|.cons ⟨_,rfl,.int _⟩<|.cons ⟨_,rfl,.int _⟩<|.cons ⟨_,rfl,DA.same dc s1⟩ .nil) ?_
 intro v2 H2 s2 dv;have eb:(fF .col k).d=cX k.h (k.w+1) (af k.h k.w k.f):=by
  show cX _ _ (af k.h (k.w+1) λr c=>k.f r c&&decide (c<k.w))=_;rw[QoZ];rfl
 exact⟨b,l,es,k,v2,fF .col k,rfl,B.same<|s1.trans s2,hl,by rw[eb];exact dv,λH4 k4 B4=>pn ed H4 ((K2.of<|s1.trans s2).trans k4) B4⟩
def Qsf(F:bX P w K mg base C "turn" "Bench.turn" QBo)(T:dn K C) 
   (c1:ar P w K mg base aq 2 "turned"<|Zz false BC)
  (Gk:aD P w K mg base aq 1 C "keep"<|ue C) :
  aD P w K mg base (Rx.aQ P w) 3 C "turn" (iJ C xc .turn):=by
 refine qH ["self"] 1 F λaj A outer s H vs Q E nD hr h=>?_
 obtain⟨b,l,es,k,rfl,B,o,hl,po⟩:=h;refine⟨_,QP<|Zp<|Z1 (pv 0) T.cl Gk hr dZ<|Qj (Zr c1 hr<|Qj (iq (pv 0) rfl) Qp) Qp,?_⟩;obtain⟨dx,kv,xs,e1,e2,d1,d2⟩:=B.at_;obtain⟨px,pn⟩:=po;refine⟨_,rfl,b,dx,_,rfl,e1,Zb _ _ (by decide)<|by decide,?_⟩;refine⟨_,rfl,b,C,dx,_,_,rfl,e1,T.cl,T.nK,YD _ _,(gZ (args:=[.v k.d]) (λd=>d=(fF .turn k).d) XF (.cons d1 .nil) ⟨k.h,k.w,k.f,rfl,o.h6,o.w6,rfl⟩ (λd hd v3 H3 s3 jU _=>?_) λD hD=>hD.elim)⟩;subst hd;exact⟨b,l,es,k,v3,fF .turn k,rfl,B.same s3,hl,jU,λH4 k4 B4=>pn rfl H4 ((K2.of s3).trans k4) B4⟩
def Qsh(F:bX P w K mg base C "rest" "Bench.rest" QBq)(T:dn K C) 
   (c1:ar P w K mg base aq 1 "rest_boards"<|Zz false BK)
  (Gk:aD P w K mg base aq 1 C "keep"<|ue C) :
  aD P w K mg base (Rx.aQ P w) 2 C "rest" (iJ C xc .rest):=by
 refine qH ["self"] 1 F λaj A outer s H vs Q E nD hr h=>?_
 obtain⟨b,l,es,k,rfl,B,o,hl,po⟩:=h;refine⟨_,QP<|Zp<|Z1 (pv 0) T.cl Gk hr dZ<|Qj (Zr c1 hr<|Qj (iq (pv 0) rfl) Qp) Qp,?_⟩;obtain⟨dx,kv,xs,e1,e2,d1,d2⟩:=B.at_;obtain⟨px,pn⟩:=po;refine⟨_,rfl,b,dx,_,rfl,e1,Zb _ _ (by decide)<|by decide,?_⟩;refine⟨_,rfl,b,C,dx,_,_,rfl,e1,T.cl,T.nK,YD _ _,(gZ (args:=[.v k.d]) (λd=>d=(fF .rest k).d) XF (.cons d1 .nil) ⟨k.h,k.w,k.f,rfl,o.h6,o.w6,rfl⟩ (λd hd v3 H3 s3 jU _=>?_) λD hD=>hD.elim)⟩;subst hd;exact⟨b,l,es,k,v3,fF .rest k,rfl,B.same s3,hl,jU,λH4 k4 B4=>pn rfl H4 ((K2.of s3).trans k4) B4⟩
def Qse{C:Xb}(F:bX P w K mg base C "undo" "Bench.undo" QBn)(T:dn K C){xc:Str->Xb}
  (mC:mg "NoDeed" = some (.ref<|xc "deed"))(qC:JH K (xc "deed") Rx.cD "ValueError.__new__" = true) :
  aD P w K mg base (Rx.aQ P w) 1 C "undo" (iJ C xc .aT):=by
 refine qH ["self"] 1 F λaj A outer s H vs Q E nD hr h=>?_
 obtain⟨b,l,es,k,rfl,B,o,hl,po⟩:=h;refine⟨_,Qu (d_ (o8<|CA (iq (pv 0) rfl) λ_=>rfl) (QP<|Rx.zy (λ_ _ h=>h) rfl rfl rfl rfl rfl mC qC JR) Zu)
  (QP<|zc (pv 0) (HN JD LY LZ HD<|iq (pv 0) rfl) rfl),?_⟩
 obtain⟨dx,kv,xs,e1,e2,d1,d2⟩:=B.at_;obtain⟨px,pn⟩:=po;have lx:xs.length=es.length:=by rw[d2.length,Qd]
 have bl:=ZL e1 e2 nofun;have ed:cM .aT es k=if es.isEmpty=true then some ("deed" : Str) else none:=rfl
 refine⟨_,rfl,b,C,dx,_,_,rfl,e1,T.cl,T.nE,Ln _ _,!xs.isEmpty,.inl ⟨xs,aA.of e2,rfl⟩,?_⟩;cases xs with
 |nil=>
  have ee:=Mh (by rw[<- lx];rfl);subst ee;exact px "deed" rfl H λ_ _ z=>z
 |cons x0 xr=>
  have ne:es.isEmpty=false:=by cases es with | nil=>cases lx | cons _ _=>rfl
  rw[ed,ne] at pn;obtain⟨ep,kl,rfl⟩:∃ep kl,es=ep++[kl]:=⟨es.dropLast,es.getLast (by intro z;rw[z] at ne;cases ne),(Jh _).symm⟩
  obtain⟨xp,xl,ex⟩:∃xp xl,x0::xr=xp++[xl]:=⟨(x0::xr).dropLast,(x0::xr).getLast<|by simp,(Jh _).symm⟩
  rw[ex] at e2 d2;have dd:aG N0 H xp (ep.map Bo.d)/\DA N0 H xl kl.d:=by
   rw[JA] at d2;have lp:xp.length=(ep.map Bo.d).length:=by
    have:=d2.length;rw[Qg,Qg] at this
    simpa using this
   constructor
   ·have:=d2.take xp.length;rw[CU rfl,lp,CU rfl] at this;exact this
   ·have:=d2.drop xp.length;rw[CQ rfl,lp,CQ rfl] at this;cases this with | cons q _=>exact q
  refine a9 ?_
  refine⟨_,rfl,b,C,dx,_,_,rfl,e1,T.cl,T.nE,Ln _ _,.inl ⟨rfl,_,aA.of e2⟩,l,xp++[xl],xl,rfl,rfl,e2,by rw[Qg];simp,?_⟩;refine⟨_,rfl,b,C,dx,_,rfl,by rw[QH bl];exact e1,T.cl,T.nK,S9 _ _,?_⟩;rw[Dk];have kx:K2 b l H (upd (upd H l<|.lst xp) b<|.ins C dx<|dD "kept" xl<|jz kv l):=λa o h1 h2 e=>by rw[QH h1,QH h2];exact e
  have tp:=kx.cU e1 e2;refine pn rfl _ kx ?_
  have qu:jF .aT (ep++[kl]) k=(ep,kl):=by
   show((ep++[kl]).dropLast,(ep++[kl]).getLastD k)=_;rw[Dk];simp
  rw[qu];exact⟨dx,xl,xp,by rw[QC,S'],by rw[QH bl.symm,QC],jZ tp dd.2,tL tp dd.1⟩
def Qn9(F:bX P w K mg base C "board" "Bench.board" Rb)(T:dn K C) :
  aD P w K mg base aq 1 C "board" (wx C):=by
 refine vc ["self"] 1 F λaj A outer s H vs Q E nD hr h=>?_
 obtain⟨b,l,es,k,rfl,B,q⟩:=h;refine⟨_,QP<|JV<|iq (pv 0) rfl,?_⟩;obtain⟨dx,kv,xs,e1,e2,d1,d2⟩:=B.at_;exact⟨_,rfl,b,C,dx,_,_,rfl,e1,T.cl,T.nK,YD _ _,q kv d1⟩
def QlL(F:bX P w K mg base C "counts" "Bench.counts" S8)(T:dn K C)
   (c1:ar P w K mg base aq 3 "counts_stands"<|Zz true Cb) :
  aD P w K mg base aq 4 C "counts" (KH C):=by
 refine vc ["self"] 1 F λaj A outer s H vs Q E nD hr h=>?_
 obtain⟨b,l,es,k,rfl,B,o,q⟩:=h;refine⟨_,QP<|JV<|Zr c1 hr<|Qj (iq (pv 0) rfl) Qp,?_⟩;obtain⟨dx,kv,xs,e1,e2,d1,d2⟩:=B.at_;refine⟨_,rfl,b,C,dx,_,_,rfl,e1,T.cl,T.nK,YD _ _,?_⟩;refine gZ (args:=[.v k.d]) (λd=>d=.list ((cg k.f k.h k.w).map Qr)) XF (.cons d1 .nil) ⟨k.h,k.w,_,rfl,o.h6,o.w6,(Bo.fM o).col,by unfold ky cg;rw[Q4];rfl⟩ (λd hd v3 H3 s3 jU fr=>?_) λD hD=>hD.elim
 subst hd;cases jU with
 |@lst t ys _ _ e qq=>
  have ey:=wH qq;rw[ey] at e;exact q t H3 s3 (fr rfl t rfl ⟨_,e⟩) e
def Qsi(F:bX P w K mg base C "most" "Bench.most" QBr)(T:dn K C)
   (c1:ar P w K mg base aq 4 "greatest_size"<|Zz false HA) :
  aD P w K mg base aq 5 C "most" (BP C):=by
 refine vc ["self"] 1 F λaj A outer s H vs Q E nD hr h=>?_
 obtain⟨b,l,es,k,rfl,B,o,q⟩:=h;refine⟨_,QP<|JV<|Zr c1 hr<|Qj (iq (pv 0) rfl) Qp,?_⟩;obtain⟨dx,kv,xs,e1,e2,d1,d2⟩:=B.at_;refine⟨_,rfl,b,C,dx,_,_,rfl,e1,T.cl,T.nK,YD _ _,(gZ (args:=[.v k.d]) (λd=>∃m:Nat,d=.int m/\lU (af k.h k.w k.f) k.h k.w m) XF (.cons d1 .nil) ⟨k.h,k.w,_,rfl,Bo.fM o,λm g=>⟨m,rfl,g⟩⟩ (λd hd v3 H3 s3 jU fr=>?_) λD hD=>hD.elim)⟩;obtain⟨m,rfl,g⟩:=hd;cases jU;exact q m H3 g s3
end
def fP(d:bq)(es:List Bo)(k:Bo):List Bo×Bo:=match cM d es k with
 |some _=>(es,k)
 |none=>jF d es k
def T1{d:bq}(h:d.wd ≠ "undo"):cM d es k=DR d k:=by cases d<;>first | rfl | exact X5 rfl h
def KL{d:bq}(h:d.wd ≠ "undo"):jF d es k=(es++[k],fF d k):=by cases d<;>first | rfl | exact X5 rfl h
def wM(h:cM d es k=some wd):fP d es k=(es,k):=by unfold fP;rw[h]
def zL(h:cM d es k=none):fP d es k=jF d es k:=by unfold fP;rw[h]
def Qsn(o:k.ok)(h:DR d k=none):(fF d k).ok:=by
 obtain⟨h1,h6,w1,w6⟩:=o;cases d with
 |put x y=>exact⟨h1,h6,w1,w6⟩
 |take x y=>exact⟨h1,h6,w1,w6⟩
 |row=>
  have z:¬k.h=6:=λz=>by
   have h:(if k.h=6 then some ("many" : Str) else none)=none:=h;rw[XZ z] at h;cases h
  exact⟨by show 1<=k.h+1;omega,by show k.h+1<=6;omega,w1,w6⟩
 |col=>
  have z:¬k.w=6:=λz=>by
   have h:(if k.w=6 then some ("many" : Str) else none)=none:=h;rw[XZ z] at h;cases h
  exact⟨h1,h6,by show 1<=k.w+1;omega,by show k.w+1<=6;omega⟩
 |turn=>exact⟨w1,w6,h1,h6⟩
 |rest=>exact⟨h1,h6,w1,w6⟩
 |aT=>exact⟨h1,h6,w1,w6⟩
structure fN (H:Hp) (r:Xb) (es:List Bo) (k:Bo):Prop where
 at_:∃xs v,H r=some (.lst<|xs++[v])/\aG N0 H xs (es.map Bo.d)/\DA N0 H v k.d
def K1(r:Xb)(H H':Hp):Prop:=∀a o,a≠r->H a=some o->H' a=some o
def LP(a:lU cs h w m)(b:lU cs h w n):m=n:=by
 have h1:=a.2.2 n b.1 b.2.1;have h2:=b.2.2 m a.1 a.2.1;omega
def QsU(d2:aG A H (xp++[xl])<|(ep++[kl]).map Bo.d):aG A H xp (ep.map Bo.d)/\DA A H xl kl.d:=by
 rw[JA] at d2;have lp:xp.length=(ep.map Bo.d).length:=by
  have:=d2.length
  simpa using this
 constructor
 ·have:=d2.take xp.length;rw[CU rfl,lp,CU rfl] at this;exact this
 ·have:=d2.drop xp.length;rw[CQ rfl,lp,CQ rfl] at this;cases this with | cons q _=>exact q
def Kd{d:bq}(h:d.wd = "undo"):d=.aT:=by
 cases d with
 |aT=>rfl
 |put x y=>exact X5 (show("put" : Str) = "undo" from h) (by decide)
 |take x y=>exact X5 (show("take" : Str) = "undo" from h) (by decide)
 |row=>exact X5 (h) (by decide)
 |col=>exact X5 (h) (by decide)
 |turn=>exact X5 (h) (by decide)
 |rest=>exact X5 (h) (by decide)
def QxH(h:cM d es k=some wd):wd = "place" ∨ wd = "double" ∨ wd = "cell" ∨ wd = "many" ∨ wd = "deed" := by
 cases d with
 |put x y=>
  have h:(if hZ k x y=true then(if k.f (nI x) (nI y)=true then some ("double" : Str) else none) else some "place")=some wd:=h;split at h
  ·split at h
   ·cases h;exact .inr<|.inl rfl
   ·cases h
  ·cases h;exact .inl rfl
 |take x y=>
  have h:(if hZ k x y=true then(if k.f (nI x) (nI y)=true then none else some ("cell" : Str)) else some "place")=some wd:=h;split at h
  ·split at h
   ·cases h
   ·cases h;exact .inr<|.inr<|.inl rfl
  ·cases h;exact .inl rfl
 |row=>
  have h:(if k.h=6 then some ("many" : Str) else none)=some wd:=h;split at h
  ·cases h;exact .inr<|.inr<|.inr<|.inl rfl
  ·cases h
 |col=>
  have h:(if k.w=6 then some ("many" : Str) else none)=some wd:=h;split at h
  ·cases h;exact .inr<|.inr<|.inr<|.inl rfl
  ·cases h
 |turn=>cases h
 |rest=>cases h
 |aT=>
  have h:(if es.isEmpty=true then some ("deed" : Str) else none)=some wd:=h;split at h
  ·cases h;exact .inr<|.inr<|.inr<|.inr rfl
  ·cases h
end Rk


namespace Rk
open L2 _root_.Rd
open Dl
open Rt
def K8:DF:=λargs R _=>∃(h w:Int)(cs:List (Int×Int)),args=[.v<|cX h w cs]/\GH cs/\∀T:List<|List (Int×Int),(∀L∈T,l_ cs L)->(∀y∈cs,∃L∈T,y∈L)->T.Pairwise gb->T.length<=cs.length->R (.list<|T.map eX)
section
variable{P:QB}{w:Jf}{K:Qa}{mg:Str->Option Xc}{base:Xl}
def Wj:(["row", "column", "cell"]:List Str).Nodup:=by decide
def Qr5(F:az P w K mg base "meets_one" Sg)(T:aB mg) :
  ar P w K mg base aq 1 "meets_one" (Zz false PQ):=by
 refine eA ["cell", "cells"] 2 false F λaj A outer s H E nD hr hU hI=>?_
 refine⟨_,Ji<|j9<|l7 Qs9 (QBh rfl) rfl T.any Dl.QBj<|gc (JC<|j6 ["row", "column", "cell"] [none,none,some 0] (wq<|qp 1) λcl ex s3 H3 C=>⟨(kG rfl<|J8 0 (J8 1 kF Wj rfl (QJ rfl)<|QU rfl) Wj rfl (QJ rfl)<|QU rfl),pB,(QEU (JC<|Hh BS (Bl hU) (Jg<|bJ J6 ZX (qp 2) (Jg JI) λ_ _=>rfl) (qp 0)<|JE _)<|Bt<|Zo<|Hh BS (Bl hU) (Jg<|bJ J6 ZX (qp 2) (Jg JI) λ_ _=>rfl) (qp 1)<|JE _)⟩) Js,λargs R EX h=>?_⟩;obtain⟨c,L,rfl,hR⟩:=h;refine vM (λd=>.bool<|gV c<|fw d) (λd hd k2 hk=>?_)<|Qx9 rfl ?_
 ·obtain⟨q,_,rfl⟩:=Qq.mp hd;have hk:k2 (.bool<|decide (c.1=q.1)||decide (c.2=q.2)):=hk;refine⟨rfl,_,Jc rfl,?_⟩;refine oh (λz=>?_) λz=>?_
  ·rw[z] at hk;exact hk
  ·rw[z] at hk;exact⟨_,Jc rfl,hk⟩
 ·rw[show((L.map pairD).any λd=>gV c<|fw d)=L.any λq=>gV c q by rw[zE];rfl];exact hR
def QlN:(["other", "new", "piece"]:List Str).Nodup:=by decide
def Qn3(F:az P w K mg base "piece_with" Ng)(T:aB mg)
  (c1:ar P w K mg base aq 1 "meets_one"<|Zz false PQ) :
  ar P w K mg base aq 2 "piece_with" (Zz false Us):=by
 refine eA ["cell", "cells", "piece", "new"] 2 false F λaj A outer s H E nD hr hU hI=>?_
 refine⟨_,QZ (Z7 2 (Zo<|kB<|Yi (qv 0) Js) nD)
  (QZ (Z7 3 (Zo<|kB<|Yi (qv 0) Js) nD)
  (QZ (K9 JQ (v7<|qp 3)
   (QZ (Z7 3 (Zo<|j6 ["other", "new", "piece"] [none,some 3,some 2] (wq<|qp 1) λcl ex s3 H3 C=>⟨(YG 0 QlN rfl (QJ rfl)<|QU rfl),(uf<|yF<|HJ (gY zM (tH hI) (qp 0) (qp 2) rfl)<|II<|pe<|Jg<|eT c1 hr<|Ys (qv 0)<|Ys (qv 1) Zf),(qv 0)⟩) nD)
  (Ji<|Z7 2 (Zo<|YH YI ja (qp 2)<|qp 3) nD)))
  (Ji<|j9<|rn YA zF rfl T.tuple rg<|gc (JC<|l7 XO Va rfl T.sorted Lo<|gc (qp 2) Js) Js))),λargs R EX h=>?_⟩
 obtain⟨x,cells,rfl,hx,sb,hR⟩:=h;have nc:=sb.1.imp nJ;have Ft:=sb.2.1;refine Ib (λm δ=>∃P N,δ=[.v<|pairD x,.v<|.list<|cells.map pairD,.v<|.list<|P.map pairD,.v<|.list<|N.map pairD]/\ik cells x P N/\m=2*(cells.length - P.length)+(if N.isEmpty=true then 0 else 1)) _ ⟨[x],[x],rfl,.start hx,rfl⟩ ?_
 rintro m δ ⟨P,N,rfl,hs,rfl⟩;have lP:=UU hs.nd nc λp hp=>(hs.reach p hp).right
 refine⟨trivial,?_⟩;show if(!(N.map pairD).isEmpty)=true then _ else _
 rw[QxF];cases eN:N.isEmpty with
 |false=>
  refine vL (λd=>if(λo:Int×Int => !decide (o∈P)&&N.any λq=>gV o q) (fw d)=true then some d else none) (λd hd k1 k2 h1 h2=>?_) ?_
  ·obtain⟨o,_,rfl⟩:=Qq.mp hd;have h1:(if(!decide (o∈P)&&N.any λq=>gV o q)=true then some (pairD o) else none)=none->k1:=h1;have h2:∀e,(if(!decide (o∈P)&&N.any λq=>gV o q)=true then some (pairD o) else none)=some e->k2 e:=h2
   refine⟨⟨Yz P,rfl,by have:=ux o;omega⟩,?_⟩;rw[wL];cases z1:(!decide (o∈P)) with
   |true=>
    rw[z1,QBL] at h1 h2;refine⟨_,_,rfl,?_⟩;show if(N.any λq=>gV o q)=true then k2 (pairD o) else k1
    by_cases z:(N.any λq=>gV o q)=true
    ·rw[XZ z];exact h2 _<|XZ z
    ·rw[XY z];exact h1<|XY z
   |false=>rw[z1] at h1;exact h1 rfl
  ·rw[Cw λo:Int×Int => !decide (o∈P)&&N.any λq=>gV o q];have st:=hs.step nc;have lQ:=UU st.nd nc λp hp=>(st.reach p hp).right
   rw[Qg] at lQ;have lN:(cells.filter λo => !decide (o∈P)&&N.any λq=>gV o q).length=(qG cells P N).length:=rfl;refine⟨by rw[Qd,Qd];omega,_,?_,P++qG cells P N,qG cells P N,?_,st,rfl⟩
   ·rw[Qg];cases eQ:qG cells P N with
    |nil=>
     show 2*(cells.length - (P.length+0))+0<2*(cells.length - P.length)+1;omega
    |cons a b=>
     rw[eQ] at lQ;rw[Qw] at lQ ⊢;show 2*(cells.length - (P.length+(b.length+1)))+1<2*(cells.length - P.length)+1;omega
   ·rw[JA];rfl
 |true=>
  have eN:=List.isEmpty_iff.mp eN;subst eN;refine Vm hs.nd (by omega) (λp hp=>sb.2.2 p (hs.reach p hp).right) λM pM pw=>hR M pw λy=>?_
  rw[pM.mem_iff];exact hs.done y
def QlO:(["cell", "piece"]:List Str).Nodup:=by decide
def Qn4(F:az P w K mg base "pieces" Uk)(T:aB mg)
  (c1:ar P w K mg base aq 2 "piece_with"<|Zz false Us) :
  ar P w K mg base aq 3 "pieces" (Zz true K8):=by
 refine eA ["board", "told", "left", "piece"] 1 true F λaj A outer s H E nD hr hU hI=>?_
 refine⟨_,QZ (zl 1 (kB Js) nD)
  (QZ (Z7 2 (Zo<|rn L7 IQ rfl T.list IP<|gc (Jg<|bJ J6 ZX (qp 0) (Jg JI) λ_ _=>rfl) Js) nD)
  (QZ (K9 JQ (v7<|qp 2)
   (QZ (Z7 3 (eT c1 hr<|Ys (bJ J6 ZX (qp 2) (Jg JI) λ_ _=>rfl)<|Ys (qv 2) Zf) nD)
  (QZ (Qzv 1<|qv 3)
  (Ji<|QvL ["cell", "piece"] [none,some 3] 2 nD (wq<|qp 2) λcl ex s3 H3 C=>⟨(YG 0 QlO rfl (QJ rfl)<|QU rfl),(uf<|gY zM (tH hI) (qp 0) (qp 1) rfl),(qv 0)⟩))))
  (Ji<|IH 1))),λargs R EX h=>?_⟩
 obtain⟨h,w,cs,rfl,sb,hR⟩:=h;refine⟨_,Jc rfl,?_⟩;refine Ib (λm δ=>∃T left ds x3,δ=[.v<|cX h w cs,.own ds,.v<|.list<|left.map pairD,x3]/\ds=T.map eX/\mU cs T left/\m=left.length/\T.length+left.length<=cs.length) _ ⟨[],cs,_,_,rfl,rfl,.start sb.1,rfl,by show 0+_<=_;omega⟩ ?_
 rintro m δ ⟨Tt,left,ds,x3,rfl,rfl,hw,rfl,hl⟩;refine⟨trivial,?_⟩;cases left with
 |nil=>exact hR Tt hw.pc hw.done hw.ord (by simpa using hl)
 |cons x left=>
  refine Fy rfl ⟨_,Jc rfl,x,x::left,rfl,.head _,?_,λM ms mm=>?_⟩
  ·have Ft:=sb.2.1;exact⟨hw.nY,by omega,λp hp=>sb.2.2 p<|hw.sub p hp⟩
  ·have Ft:=sb.2.1;refine⟨by rw[Qd];omega,?_⟩;refine vL (λd=>if(λc:Int×Int => !decide (c∈M)) (fw d)=true then some d else none) (λd hd k1 k2 h1 h2=>?_) ?_
   ·obtain⟨o,_,rfl⟩:=Qq.mp (hd);have h1:=h1;have h2:=h2;refine⟨⟨Yz M,rfl,by have:=ux o;omega⟩,?_⟩;show if(!((M.map pairD).any λe=>Q3 e<|pairD o))=true then _ else _
    rw[wL];by_cases z:(!decide (o∈M))=true
    ·rw[XZ z];exact h2 _<|XZ z
    ·rw[XY z];exact h1<|XY z
   ·have er:=Cw (λc:Int×Int => !decide (c∈M)) (x::left);have xM:=(mm x).mpr<|.refl<|.head _;have e1:(x::left).filter (λc => !decide (c∈M))=left.filter λc => !decide (c∈M):=LR (by simpa using xM)
    have l1:=Yv (λc:Int×Int => !decide (c∈M)) left;rw[Qw] at hl;refine⟨_,?_,Tt++[M],(x::left).filter λc => !decide (c∈M),_,_,by rw[<- er];rfl,by rw[JA];rfl,hw.step ms mm,rfl,?_⟩
    ·rw[e1,Qw];omega
    ·rw[e1,Qg];show _+1+_<=_;omega
end
abbrev QA5:Ze:=top 73
abbrev Rm:Ze:=top 74
abbrev QA3:Ze:=top 75
abbrev QBc:Ze:=top 76
abbrev Rn:Ze:=top 77
abbrev Rl:Ze:=top 78
abbrev Rp:Ze:=top 79
abbrev UW:Ze:=top 80
abbrev Vs:Ze:=top 81
abbrev RO:Ze:=top 82
abbrev UX:Ze:=top 83
abbrev Vt:Ze:=top 84
abbrev Pq:Ze:=top 88
def GL(C:Xb)(xc:Str->Xb)(H:Hp)(Q:VK)(E:XK)(b l:Xb)(es:List Bo)(k:Bo)(d:bq):Prop:=
 (∀wd,cM d es k=some wd->∀H',ag H H'->E (.ref<|xc wd) none H')/\(cM d es k=none->∀H',K2 b l H H'->ba C H' b l (jF d es k).1 (jF d es k).2->Q (.str "ok") H')
def BQ(C:Xb)(xc:Str->Xb)(mk:Xd->Xd->bq):Sp:=λvs H Q E=>∃(b l:Xb)(es:List Bo)(k:Bo)(x y:V)(dx dy:Xd),vs=[.ref b,x,y]/\ba C H b l es k/\k.ok/\es.length<=1000/\DA N0 H x dx/\DA N0 H y dy/\GL C xc H Q E b l es k (mk dx dy)
def lY(C:Xb)(xc:Str->Xb)(d:bq):Sp:=λvs H Q E=>∃(b l:Xb)(es:List Bo)(k:Bo),vs=[.ref b]/\ba C H b l es k/\k.ok/\es.length<=1000/\GL C xc H Q E b l es k d
def kH(C:Xb)(R:Bo->Str->Prop):Sp:=λvs H Q _=>∃(b l:Xb)(es:List Bo)(k:Bo),vs=[.ref b]/\ba C H b l es k/\k.ok/\∀t H',R k t->ag H H'->Q (.str t) H'
def GZ(k:Bo)(t:Str):Prop:=∃m:Nat,lU (af k.h k.w k.f) k.h k.w m/\t=Qb (toString (m:Int))
def MJ(k:Bo)(t:Str):Prop:=∃Tt:List<|List (Int×Int),(∀L∈Tt,l_ (af k.h k.w k.f) L)/\(∀y∈af k.h k.w k.f,∃L∈Tt,y∈L)/\Tt.Pairwise gb/\t=Qb (toString (Tt.length:Int))
def Bi{k:Bo}(o:k.ok):GH (af k.h k.w k.f):=⟨aH k.w k.f k.h,QQ (wR k.w k.f k.h)<|YW o.h6 o.w6,λp hp=>by
 have:=rC hp;have:=o.w6;omega⟩
def yL{k:Bo}(o:k.ok):GB k.h k.w (af k.h k.w k.f):=Mi k.f o.h6 o.w6
def Y3{n:Int}(h0:0<=n)(h:n<1920):n.natAbs.log2<1920:=JJ (Pb _) (by omega)
def Mu(k:Bo)(t:Str):Prop:=t=ZF (Qb " ") ((cg k.f k.h k.w).map λn=>Qb<|toString n)
def dY(p:Int×Int):Str:=Yl++Qb (toString p.1)++Qb "-" ++ Qb (toString p.2)
def MI(k:Bo)(t:Str):Prop:=∃(m:Nat)(L:List (Int×Int)),lU (af k.h k.w k.f) k.h k.w m/\(fB (af k.h k.w k.f) m)[0]? = some L/\t=if L.isEmpty=true then Qb "none" else ZF (Qb " ")<|L.map dY
def Ku{k:Bo}(o:k.ok)(g:lU (af k.h k.w k.f) k.h k.w m):∃L,(fB (af k.h k.w k.f) m)[0]? = some L:=by
 have e:=HG (yL o) m;have p:=g.2.1;exact⟨_,Qc<|by omega⟩
def HI(h6:h<=6)(w6:w<=6):∀n∈cg f h w,0<=n/\n<=200000:=λn hn=>by
 obtain⟨k,_,rfl⟩:=Qq.mp hn;have e:=HG (Mi f h6 w6) k;have:=QAS (Mi f h6 w6) k;omega
def nM{n:Int}(h0:0<=n)(h:n<10^10):(Qb<|toString n).length<=34:=by
 obtain⟨m,rfl⟩:∃m:Nat,n=m:=⟨n.toNat,(Ls h0).symm⟩
 have e:=PySem.nat_repr_length_le (n:=m) (k:=34) (by decide) (by omega);have e2:m.repr.length=(Nat.toDigits 10 m).length:=by simp[Nat.repr]
 have e3:(Qb<|toString (m:Int)).length=(Nat.toDigits 10 m).length:=by
  show(Qb<|toString (m:Int)).cps.size=_;rw[<- Q5,QgD,Qd]
 omega
def TH{n:Int}(h0:0<=n)(h:n<=200000):n.natAbs.log2<1920:=by
 by_cases z:n.natAbs=0
 ·rw[z];decide
 ·exact(Ht z).mpr (JJ (show n.natAbs<=200000 by omega)<|by decide)
def lB(f:α->β)(l:List α):l.filterMap (λi=>some<|f i)=l.map f:=by
 rw[List.filterMap_eq_map']
def vQ(g:α->β)(d:α)(l:List α):(QD l.length).map (λi=>g<|l.getD i d)=l.map g:=by
 refine List.ext_getElem (by simp) λi h1 h2=>?_
 rw[Qd,QR] at h1;rw[De,De,Tc,Qi,Qc h1];rfl
def QAR{k:Bo}(o:k.ok)(e:(fB (af k.h k.w k.f) m)[0]? = some L):L.length=m/\∀p∈L,0<=p.1/\p.1<6/\0<=p.2/\p.2<6:=by
 obtain⟨st,lk⟩:=(vR (yL o).r0 m _).mp<|Je e;refine⟨lk,λp hp=>?_⟩;have:=rC<|st.sub p hp;have:=o.h6;have:=o.w6;omega
def Cu(h:0<=p.1/\p.1<6/\0<=p.2/\p.2<6):(dY p).length<=70:=by
 have ll:∀x y:Str,(x++y).length=x.length+y.length:=λx y=>by
  show(x++y).cps.size=_;rw[zU,LA];rfl
 have e1:=nM h.1 (by omega);have e2:=nM h.2.2.1 (by omega);unfold dY;rw[ll,ll,ll,show Yl.length=0 from rfl,show(Qb "-").length=1 by decide];omega
def Qss:(["many"]:List Str).Nodup:=by decide
def PU:(["row", "column"]:List Str).Nodup:=by decide
section
variable{P:QB}{w:Jf}{K:Qa}{mg:Str->Option Xc}{base:Xl}
def QwW(F:az P w K mg base "put_cell" QA5)(Tg:aB mg)(T:dn K C)(mD:mg "DONE" = some (.str "ok" tD))
  (D:aD P w K mg base (Rx.aQ P w) 5 C "put"<|vH C xc .put) :
  ar P w K mg base (Rx.aQ P w) 6 "put_cell" (BQ C xc .put):=by
 refine mJ ["bench", "row", "column"] 3 F λaj A outer s H vs Q E nD hr h=>?_
 obtain⟨b,l,es,k,x,y,x',y',rfl,B,o,hl,hx,hy,po⟩:=h;refine⟨_,Qu (Zp<|Z1 (pv 0) T.cl D hr (Rx.i5 (λ_ _ h=>h) rfl rfl rfl)<|Qj (pv 1)<|Qj (pv 2) Qp)<|QP<|JV<|Za (v:=.str "ok") rfl mD ⟨_,rfl⟩,?_⟩;obtain⟨dx,kv,xs,e1,e2,d1,d2⟩:=B.at_;exact⟨_,rfl,b,dx,_,rfl,e1,Zb _ _ (by decide)<|by decide,_,rfl,_,rfl,b,l,es,k,x,y,x',y',rfl,B,o,hl,hx,hy,po.1,λhn H' k1 B1=>po.2 hn H' k1 B1⟩
def Qsa(F:az P w K mg base "take_cell" Rm)(Tg:aB mg)(T:dn K C)(mD:mg "DONE" = some (.str "ok" tD))
  (D:aD P w K mg base (Rx.aQ P w) 6 C "take"<|vH C xc .take) :
  ar P w K mg base (Rx.aQ P w) 7 "take_cell" (BQ C xc .take):=by
 refine mJ ["bench", "row", "column"] 3 F λaj A outer s H vs Q E nD hr h=>?_
 obtain⟨b,l,es,k,x,y,x',y',rfl,B,o,hl,hx,hy,po⟩:=h;refine⟨_,Qu (Zp<|Z1 (pv 0) T.cl D hr (Rx.i5 (λ_ _ h=>h) rfl rfl rfl)<|Qj (pv 1)<|Qj (pv 2) Qp)<|QP<|JV<|Za (v:=.str "ok") rfl mD ⟨_,rfl⟩,?_⟩;obtain⟨dx,kv,xs,e1,e2,d1,d2⟩:=B.at_;exact⟨_,rfl,b,dx,_,rfl,e1,Zb _ _ (by decide)<|by decide,_,rfl,_,rfl,b,l,es,k,x,y,x',y',rfl,B,o,hl,hx,hy,po.1,λhn H' k1 B1=>po.2 hn H' k1 B1⟩
def QwV(F:az P w K mg base "put_row" QA3)(Tg:aB mg)(T:dn K C)(mD:mg "DONE" = some (.str "ok" tD))
  (D:aD P w K mg base (Rx.aQ P w) 3 C "row"<|iJ C xc .row) :
  ar P w K mg base (Rx.aQ P w) 4 "put_row" (lY C xc .row):=by
 refine mJ ["bench"] 1 F λaj A outer s H vs Q E nD hr h=>?_
 obtain⟨b,l,es,k,rfl,B,o,hl,po⟩:=h;refine⟨_,Qu (Zp<|JP (pv 0) T.cl D hr<|Rx.i5 (λ_ _ h=>h) rfl rfl rfl)<|QP<|JV<|Za (v:=.str "ok") rfl mD ⟨_,rfl⟩,?_⟩;obtain⟨dx,kv,xs,e1,e2,d1,d2⟩:=B.at_;exact⟨_,rfl,b,dx,_,rfl,e1,Zb _ _ (by decide)<|by decide,b,l,es,k,rfl,B,o,hl,po.1,λhn H' k1 B1=>po.2 hn H' k1 B1⟩
def QwY(F:az P w K mg base "put_column" QBc)(Tg:aB mg)(T:dn K C)(mD:mg "DONE" = some (.str "ok" tD))
  (D:aD P w K mg base (Rx.aQ P w) 3 C "column"<|iJ C xc .col) :
  ar P w K mg base (Rx.aQ P w) 4 "put_column" (lY C xc .col):=by
 refine mJ ["bench"] 1 F λaj A outer s H vs Q E nD hr h=>?_
 obtain⟨b,l,es,k,rfl,B,o,hl,po⟩:=h;refine⟨_,Qu (Zp<|JP (pv 0) T.cl D hr<|Rx.i5 (λ_ _ h=>h) rfl rfl rfl)<|QP<|JV<|Za (v:=.str "ok") rfl mD ⟨_,rfl⟩,?_⟩;obtain⟨dx,kv,xs,e1,e2,d1,d2⟩:=B.at_;exact⟨_,rfl,b,dx,_,rfl,e1,Zb _ _ (by decide)<|by decide,b,l,es,k,rfl,B,o,hl,po.1,λhn H' k1 B1=>po.2 hn H' k1 B1⟩
def Qr9(F:az P w K mg base "turn_board" Rn)(Tg:aB mg)(T:dn K C)(mD:mg "DONE" = some (.str "ok" tD))
  (D:aD P w K mg base (Rx.aQ P w) 3 C "turn"<|iJ C xc .turn) :
  ar P w K mg base (Rx.aQ P w) 4 "turn_board" (lY C xc .turn):=by
 refine mJ ["bench"] 1 F λaj A outer s H vs Q E nD hr h=>?_
 obtain⟨b,l,es,k,rfl,B,o,hl,po⟩:=h;refine⟨_,Qu (Zp<|JP (pv 0) T.cl D hr<|Rx.i5 (λ_ _ h=>h) rfl rfl rfl)<|QP<|JV<|Za (v:=.str "ok") rfl mD ⟨_,rfl⟩,?_⟩;obtain⟨dx,kv,xs,e1,e2,d1,d2⟩:=B.at_;exact⟨_,rfl,b,dx,_,rfl,e1,Zb _ _ (by decide)<|by decide,b,l,es,k,rfl,B,o,hl,po.1,λhn H' k1 B1=>po.2 hn H' k1 B1⟩
def Qsb(F:az P w K mg base "put_rest" Rl)(Tg:aB mg)(T:dn K C)(mD:mg "DONE" = some (.str "ok" tD))
  (D:aD P w K mg base (Rx.aQ P w) 2 C "rest"<|iJ C xc .rest) :
  ar P w K mg base (Rx.aQ P w) 3 "put_rest" (lY C xc .rest):=by
 refine mJ ["bench"] 1 F λaj A outer s H vs Q E nD hr h=>?_
 obtain⟨b,l,es,k,rfl,B,o,hl,po⟩:=h;refine⟨_,Qu (Zp<|JP (pv 0) T.cl D hr<|Rx.i5 (λ_ _ h=>h) rfl rfl rfl)<|QP<|JV<|Za (v:=.str "ok") rfl mD ⟨_,rfl⟩,?_⟩;obtain⟨dx,kv,xs,e1,e2,d1,d2⟩:=B.at_;exact⟨_,rfl,b,dx,_,rfl,e1,Zb _ _ (by decide)<|by decide,b,l,es,k,rfl,B,o,hl,po.1,λhn H' k1 B1=>po.2 hn H' k1 B1⟩
def Qr8(F:az P w K mg base "undo_deed" Rp)(Tg:aB mg)(T:dn K C)(mD:mg "DONE" = some (.str "ok" tD))
  (D:aD P w K mg base (Rx.aQ P w) 1 C "undo"<|iJ C xc .aT) :
  ar P w K mg base (Rx.aQ P w) 2 "undo_deed" (lY C xc .aT):=by
 refine mJ ["bench"] 1 F λaj A outer s H vs Q E nD hr h=>?_
 obtain⟨b,l,es,k,rfl,B,o,hl,po⟩:=h;refine⟨_,Qu (Zp<|JP (pv 0) T.cl D hr<|Rx.i5 (λ_ _ h=>h) rfl rfl rfl)<|QP<|JV<|Za (v:=.str "ok") rfl mD ⟨_,rfl⟩,?_⟩;obtain⟨dx,kv,xs,e1,e2,d1,d2⟩:=B.at_;exact⟨_,rfl,b,dx,_,rfl,e1,Zb _ _ (by decide)<|by decide,b,l,es,k,rfl,B,o,hl,po.1,λhn H' k1 B1=>po.2 hn H' k1 B1⟩
def Qr0(F:az P w K mg base "tell_most" RO)(Tg:aB mg)(T:dn K C)
  (D:aD P w K mg base aq 5 C "most"<|BP C) :
  ar P w K mg base aq 6 "tell_most" (kH C GZ):=by
 refine fG ["bench"] 1 F λaj A outer s H vs Q E nD hr h=>?_
 obtain⟨b,l,es,k,rfl,B,o,q⟩:=h;refine⟨_,QP<|JV<|Zq Zw rfl Tg.str kD<|Qj (JP (pv 0) T.cl D hr dZ) Qp,?_⟩;obtain⟨dx,kv,xs,e1,e2,d1,d2⟩:=B.at_;refine⟨_,rfl,b,dx,_,rfl,e1,Zb _ _ (by decide)<|by decide,b,l,es,k,rfl,B,o,λm H' g s'=>⟨m,rfl,?_,q _ H' ⟨m,g,rfl⟩ s'⟩⟩;have h6:=o.h6;have hm:m<=6:=by have:=g.1;omega
 exact JJ (Pb _) (by omega)
def QwH(F:az P w K mg base "tell_pieces" Vt)(Tg:aB mg)(T:dn K C)
  (D:aD P w K mg base aq 1 C "board"<|wx C)
   (c1:ar P w K mg base aq 3 "pieces"<|Zz true K8) :
  ar P w K mg base aq 4 "tell_pieces" (kH C MJ):=by
 refine fG ["bench"] 1 F λaj A outer s H vs Q E nD hr h=>?_
 obtain⟨b,l,es,k,rfl,B,o,q⟩:=h;refine⟨_,QP<|JV<|Zq Zw rfl Tg.str kD<|Qj (Zc Zx rfl Tg.len iK<|Qj (Zr c1 hr<|Qj (JP (pv 0) T.cl D hr dZ) Qp) Qp) Qp,?_⟩;obtain⟨dx,kv,xs,e1,e2,d1,d2⟩:=B.at_;refine⟨_,rfl,b,dx,_,rfl,e1,Zb _ _ (by decide)<|by decide,b,l,es,k,rfl,B,λv q1=>?_⟩;refine gZ (args:=[.v k.d]) (λd=>∃Tt:List<|List (Int×Int),(∀L∈Tt,l_ (af k.h k.w k.f) L)/\(∀y∈af k.h k.w k.f,∃L∈Tt,y∈L)/\Tt.Pairwise gb/\Tt.length<=(af k.h k.w k.f).length/\d=.list (Tt.map eX)) XF (.cons q1 .nil) ⟨_,_,_,rfl,Bi o,λTt h1 h2 h3 h4=>⟨Tt,h1,h2,h3,h4,rfl⟩⟩ (λd hd v' H' s' dv _=>?_) λ_ z=>z.elim
 obtain⟨Tt,h1,h2,h3,h4,rfl⟩:=hd;cases dv with
 |@lst t ys _ _ e qq=>
  have ly:ys.length=Tt.length:=by rw[qq.length,Qd]
  have Ft:=(Bi o).2.1;refine⟨t,ys,rfl,.inl<|aA.of e,(ys.length:Int),rfl,Y3 (by omega)<|by omega,?_⟩;rw[ly];exact q _ H' ⟨Tt,h1,h2,h3,rfl⟩ s'
def QwI{C:Xb}(F:az P w K mg base "tell_counts" Vs)(Tg:aB mg)(T:dn K C){tB:_}(xO:mg "BLANK" = some (.str " " tB))
  (D:aD P w K mg base aq 4 C "counts"<|KH C) :
  ar P w K mg base aq 5 "tell_counts" (kH C Mu):=by
 refine fG ["bench"] 1 F λaj A outer s H vs Q E nD hr h=>?_
 obtain⟨b,l,es,k,rfl,B,o,q⟩:=h;refine⟨_,QP<|JV<|i6 JG Zm Zl ur (Za (v:=.str " ") rfl xO ⟨_,rfl⟩)<|Qj (YC (cap:=[none]) rfl rfl (wD<|JP (pv 0) T.cl D hr dZ) λcl ex s3 H3 C=>⟨ZC (i:=0) Qss rfl (QJ rfl)<|QU rfl,j8,Zq Zw rfl Tg.str kD<|Qj (pv 0) Qp⟩) Qp,?_⟩;obtain⟨dx,kv,xs,e1,e2,d1,d2⟩:=B.at_;refine⟨rfl,_,rfl,b,dx,_,rfl,e1,Zb _ _ (by decide)<|by decide,b,l,es,k,rfl,B,o,λt H1 s1 n1 a1=>⟨t,rfl,⟨_,aA.of a1⟩,λp hp=>?_⟩⟩;have lc:(cg k.f k.h k.w).length=min k.h k.w+1:=by unfold cg;rw[Qd,QR]
 have h6:=o.h6;have nn:=HI (f:=k.f) o.h6 o.w6;have at_:∀i,i<(cg k.f k.h k.w).length->((cg k.f k.h k.w).map V.int)[i]? = some (.int<|(cg k.f k.h k.w).getD i 0):=λi hi=>by
  rw[Qt,Qi,Qc hi];rfl
 have gm:∀i,i<(cg k.f k.h k.w).length->(cg k.f k.h k.w).getD i 0∈cg k.f k.h k.w:=λi hi=>by
  rw[Qi,Qc hi];exact Jz _
 refine Y5 (cg k.f k.h k.w).length (Zv<|by omega) (λi=>some<|.str<|Qb<|toString<|(cg k.f k.h k.w).getD i 0) hp (λi H2 hi s2=>?_) (λH2 s2=>?_) λH2 s2 e3=>?_
 ·refine⟨⟨_,_,aA.of<|s2 _ _ a1,at_ i hi⟩,λx H3 ⟨eH,ev⟩ kn kv h1 h2=>?_⟩;subst eH;have ex:=ev _<|aA.of<|s2 _ _ a1;rw[at_ i hi] at ex;cases ex;refine⟨trivial,?_⟩;refine(bI ?_:if true=true then _ else kn H3);have nb:=nn _<|gm i hi;exact⟨_,rfl,_,rfl,TH nb.1 nb.2,h2 _ rfl H3 λ_ _ z=>z⟩
 ·exact⟨_,aA.of<|s2 _ _ a1,by rw[Qd];exact Qf _⟩
 ·rw[lB] at e3;have e4:H2 p=some (.lst<|((cg k.f k.h k.w).map λn=>Qb<|toString n).map V.str):=by
   rw[e3,Q4];exact X6 (λz=>some<|HO.lst z)<|vQ (λn=>V.str<|Qb<|toString n) 0<|cg k.f k.h k.w
  refine⟨_,p,_,rfl,rfl,aA.of e4,ui (B:=34) (λy hy=>?_) ?_,q _ H2 rfl<|s1.trans s2⟩
  ·obtain⟨n,hn,rfl⟩:=Qq.mp hy;have nb:=nn n hn;exact nM nb.1 (by omega)
  ·rw[Qd,lc];show _*34+_*1<=_;omega
def QwG{C:Xb}(F:az P w K mg base "tell_stand" UX)(Tg:aB mg)(T:dn K C){tB:_}(xO:mg "BLANK" = some (.str " " tB)){tN:_}(mNo:mg "NO_CELLS" = some (.str "none" tN))
  (D:aD P w K mg base aq 1 C "board"<|wx C)
  (D1:aD P w K mg base aq 5 C "most"<|BP C)
   (c1:ar P w K mg base aq 4 "stand_at"<|Zz false CH) :
  ar P w K mg base aq 6 "tell_stand" (kH C MI):=by
 refine fG ["bench", "stand"] 1 F λaj A outer s H vs Q E nD hr h=>?_
 obtain⟨b,l,es,k,rfl,B,o,q⟩:=h;refine⟨_,Qu (ip 1 nD<|Zr c1 hr<|Qj (JP (pv 0) T.cl D hr dZ)<|Qj (JP (pv 0) T.cl D1 hr dZ)<|Qj Jj Qp)
  (Qu (d_ (o8<|CA (pv 1) λ_=>rfl) (QP<|JV<|Za (v:=.str "none") rfl mNo ⟨_,rfl⟩) Zu)
  (QP<|JV<|i6 JG Zm Zl ur (Za (v:=.str " ") rfl xO ⟨_,rfl⟩)<|Qj (YC (cap:=[none,none]) (g:=qE K 2<|jH (Yu 0)<|jH (Yu 1) qD) (tc:=YF) (te:=M1 "-" (bV 0)<|bV 1) rfl rfl (BX<|pv 1) λcl ex s3 H3 C=>⟨lV rfl<|J3 (ZC (i:=0) PU rfl (QJ rfl)<|QU rfl)<|J3 (ZC (i:=1) PU rfl (QJ rfl)<|QU rfl) l9,j8,QC1 (pv 0)<|pv 1⟩) Qp)),?_⟩
 obtain⟨dx,kv,xs,e1,e2,d1,d2⟩:=B.at_;refine⟨_,rfl,b,dx,_,rfl,e1,Zb _ _ (by decide)<|by decide,b,l,es,k,rfl,B,λv q1=>⟨_,rfl,b,dx,_,rfl,e1,Zb _ _ (by decide)<|by decide,b,l,es,k,rfl,B,o,λm H1 gm s1=>?_⟩⟩;obtain⟨L,eL⟩:=Ku o gm;obtain⟨lL,bL⟩:=QAR o eL;refine gZ (args:=[.v k.d,.v<|.int m,.v<|.int 0]) (λd=>d=eX L) XF (.cons (DA.same q1 s1)<|.cons (.int _)<|.cons (.int _) .nil) ⟨k.h,k.w,_,m,0,L,rfl,yL o,gm.1,eL,rfl⟩ (λd hd v' H2 s2 dv _=>?_) λ_ z=>z.elim
 subst hd;have eZ:=s1.trans s2;have h6:=o.h6;have m6:m<=6:=by have:=gm.1;omega
 obtain⟨a,ps,rfl,ea,dp⟩:∃a ps,v'=.ref a/\H2 a=some (.tup ps)/\aG N0 H2 ps (L.map pairD):=by
  cases dv with
  |tup _ e qq=>exact⟨_,_,rfl,e,qq⟩
 have lp:ps.length=L.length:=by rw[dp.length,Qd]
 refine⟨_,rfl,!ps.isEmpty,.inr<|.inl ⟨ps,aP.of ea,rfl⟩,?_⟩;have ee:ps.isEmpty=L.isEmpty:=by cases ps<;>cases L<;>first | rfl | cases lp
 cases eP:ps.isEmpty with
 |true=>
  refine q _ H2 ⟨m,L,gm,eL,?_⟩ eZ;rw[<- ee,eP];rfl
 |false=>
  refine a9 ?_
  refine⟨rfl,_,rfl,a,rfl,⟨_,aP.of ea⟩,λp hp=>?_⟩;have Gj:∀i,i<L.length->∃c,ps[i]? = some (.ref c)/\H2 c=some (.tup [.int (L.getD i (0,0)).1,.int (L.getD i (0,0)).2]):=λi hi=>by
   obtain⟨x,hx,Gc⟩:=dp.get i (pairD<|L.getD i (0,0)) (by rw[Qt,Qi,Qc hi];rfl);cases Gc with
   |tup _ e qq=>cases qq with
    |cons qa qq=>cases qq with
     |cons qb qq=>cases qq;cases qa;cases qb;exact⟨_,hx,e⟩
  have gL:∀i,i<L.length->L.getD i (0,0)∈L:=λi hi=>by
   rw[Qi,Qc hi];exact Jz _
  refine Y5 L.length (Zv<|by omega) (λi=>some<|.str<|dY<|L.getD i (0,0)) hp (λi H3 hi s3=>?_) (λH3 s3=>?_) λH3 s3 e3=>?_
  ·obtain⟨c,hc,ec⟩:=Gj i hi;refine⟨⟨_,_,aP.of<|s3 _ _ ea,hc⟩,λx H4 ⟨eH,ev⟩ kn kv h1 h2=>?_⟩;subst eH;have ex:=ev _<|aP.of<|s3 _ _ ea;rw[hc] at ex;cases ex;have bd:=bL _<|gL i hi;have n1:=nM (n:=(L.getD i (0,0)).1) bd.1 (by omega);have n2:=nM (n:=(L.getD i (0,0)).2) bd.2.2.1 (by omega);refine⟨c,_,rfl,aP.of<|s3 _ _ ec,rfl,_,_,rfl,_,_,rfl,rfl,trivial,?_⟩;refine(bI (B:=kn H4) ?_:if true=true then _ else kn H4);exact⟨_,rfl,_,rfl,Y3 bd.1<|by omega,by rw[show(Qb "-").length=1 by decide];omega,_,rfl,_,rfl,Y3 bd.2.2.1<|by omega,by omega,h2 _ rfl H4 λ_ _ z=>z⟩
  ·exact⟨_,aP.of<|s3 _ _ ea,by omega⟩
  ·rw[lB] at e3;have e4:H3 p=some (.lst<|(L.map dY).map V.str):=by
    rw[e3,Q4];exact X6 (λz=>some<|HO.lst z)<|vQ (λn=>V.str<|dY n) (0,0) L
   refine⟨_,p,_,rfl,rfl,aA.of e4,ui (B:=70) (λy hy=>?_) ?_,q _ H3 ⟨m,L,gm,eL,?_⟩<|eZ.trans s3⟩
   ·obtain⟨n,hn,rfl⟩:=Qq.mp hy;exact Cu<|bL n hn
   ·rw[Qd,lL];show _*70+_*1<=_;omega
   ·rw[<- ee,eP];rfl
end
end Rk


namespace Rk
open L2 _root_.Rd
open Dl
open Rt
abbrev Pw:Ze:=top 63
abbrev Px:Ze:=top 64
def Hb:Sp:=λvs H Q _=>∃(v:V)(k:Bo)(r:Nat),vs=[v,.int r]/\DA N0 H v k.d/\k.ok/\∀H',ag H H'->Q (.str<|gU (af k.h k.w k.f) k.w r) H'
def G_:Sp:=λvs H Q _=>∃(v:V)(k:Bo),vs=[v]/\DA N0 H v k.d/\k.ok/\∀H',ag H H'->Q (.str<|jG k.h k.w<|af k.h k.w k.f) H'
def Mz(k:Bo)(t:Str):Prop:=t=jG k.h k.w (af k.h k.w k.f)
def QAr:(["column", "board", "row"]:List Str).Nodup:=by decide
def QDg:(["row", "board"]:List Str).Nodup:=by decide
section
variable{P:QB}{w:Jf}{K:Qa}{mg:Str->Option Xc}{base:Xl}
def QAb(F:az P w K mg base "written_row" Px)(Tg:aB mg){uC uO:_}(mC:mg "CELL" = some (.str jV uC))(mO:mg "OTHER" = some (.str mQ uO)) :
  ar P w K mg base aq 1 "written_row" Hb:=by
 refine fG ["board", "row"] 2 F λaj A outer s H vs Q E nD hr h=>?_
 obtain⟨v,k,r,rfl,hv,o,q⟩:=h;refine⟨_,QP<|JV<|i6 JG Zm Zl ur JR<|Qj (YC (M:=["column", "board", "row"]) (cap:=[none,some 0,some 1]) (g:=Yu 0) (tc:=YF) (te:=(M0 (tT K E0<|gD<|fE (inD false) (Ae<|gH (ni 2)<|gH (ni 0) nh)<|fE AN (gE 1)<|dC<|.int 2) (tC<|.str jV)<|tC<|.str mQ)) rfl (by rfl) (uE (by rfl) Tg.range<|Qj (fm tP (pv 0) Jj λ_ _=>rfl) Qp) λcl ex s3 H3 C=>⟨ZC (i:=0) QAr rfl (QJ rfl)<|QU rfl,j8,VJ (QT.h (E:=E0)<|gY P1 (tH<|ao.xW hr) (JC<|ef<|Yi (qv 2)<|Yi (qv 0) Js) (Jg<|bJ J6 ZX (qp 1) (Jg JI) λ_ _=>rfl)<|by rfl) (Za (v:=.str jV) (by rfl) mC ⟨_,rfl⟩)<|Za (v:=.str mQ) (by rfl) mO ⟨_,rfl⟩⟩) Qp,?_⟩;obtain⟨a,c,ps,rfl,e1,e2,dc⟩:=yK hv;have w6:=o.w6;refine⟨rfl,_,rfl,a,_,1,.int k.w,rfl,rfl,aP.of e1,rfl,(k.w:Int),rfl,by omega,by omega,λpl hpl=>?_⟩;rw[QY];refine Y5 k.w (Zv<|by omega) (λi=>some<|.str<|o6 (af k.h k.w k.f) r i) hpl (λi H2 hi s2=>?_) (λH2 s2=>?_) λH2 s2 e3=>?_
 ·refine⟨?_,λv H3 ⟨eH,ev⟩ kn kv h1 h2=>?_⟩
  ·show i<_;omega
  subst eH ev;refine⟨⟨rfl,rfl,trivial⟩,?_⟩;refine(bI (B:=kn H3) ?_:if true=true then _ else kn H3);rw[uA];refine AQ [.v<|.int i,.v k.d,.v<|.int r] (.cons ⟨_,rfl,.int _⟩<|.cons ⟨_,rfl,DA.same hv s2⟩<|.cons ⟨_,rfl,.int _⟩ .nil) ?_
  refine⟨_,Jc (j:=2) rfl,⟨Yz _,rfl,by have:=ux ((r:Int),(i:Int));exact QQ (zD this)<|by decide⟩,λH4 s4=>?_⟩;show if(((af k.h k.w k.f).map pairD).any λe=>Q3 e<|pairD ((r:Int),(i:Int)))=true then _ else _
  rw[wL];have ql:=h2 _ rfl H4 s4;unfold o6 at ql;by_cases hm:((r:Int),(i:Int))∈af k.h k.w k.f
  ·rw[X1 hm];rw[XZ hm] at ql;exact bI ql
  ·rw[X0 hm];rw[XY hm] at ql;exact a9 ql
 ·show _<=_;omega
 ·rw[lB] at e3;have e4:H2 pl=some (.lst<|((QD k.w).map<|o6 (af k.h k.w k.f) r).map V.str):=by rw[e3,Q4];rfl
  refine⟨_,pl,(QD k.w).map<|o6 (af k.h k.w k.f) r,rfl,rfl,aA.of e4,?_,?_⟩
  ·rw[show(Qb "" : Str)=f9 from Pf];exact Qje _ w6 r
  ·have:=q H2 s2;unfold gU at this;rw[show(Qb "" : Str)=f9 from Pf];exact this
def QAc(F:az P w K mg base "written" Pw)(Tg:aB mg){tB:_}(mB:mg "BETWEEN" = some (.str mS tB))
   (c1:ar P w K mg base aq 1 "written_row" Hb) :
  ar P w K mg base aq 2 "written" G_:=by
 refine fG ["board"] 1 F λaj A outer s H vs Q E nD hr h=>?_
 obtain⟨v,k,rfl,hv,o,q⟩:=h;refine⟨_,QP<|JV<|i6 JG Zm Zl ur (Za (v:=.str mS) (by rfl) mB ⟨_,rfl⟩)<|Qj (YC (M:=["row", "board"]) (cap:=[none,some 0]) (g:=Yu 0) (tc:=YF) (te:=yU Hb [] E0<|dX (bV 1)<|dX (bV 0) fj) rfl (by rfl) (uE (by rfl) Tg.range<|Qj (fm tP (pv 0) Jj λ_ _=>rfl) Qp) λcl ex s3 H3 C=>⟨ZC (i:=0) QDg rfl (QJ rfl)<|QU rfl,j8,Zr c1 hr<|Qj (pv 1)<|Qj (pv 0) Qp⟩) Qp,?_⟩;obtain⟨a,c,ps,rfl,e1,e2,dc⟩:=yK hv;have h6:=o.h6;refine⟨rfl,_,rfl,a,_,0,.int k.h,rfl,rfl,aP.of e1,rfl,(k.h:Int),rfl,by omega,by omega,λpl hpl=>?_⟩;rw[QY];refine Y5 k.h (Zv<|by omega) (λi=>some<|.str<|gU (af k.h k.w k.f) k.w i) hpl (λi H2 hi s2=>?_) (λH2 s2=>?_) λH2 s2 e3=>?_
 ·refine⟨?_,λv H3 ⟨eH,ev⟩ kn kv h1 h2=>?_⟩
  ·show i<_;omega
  subst eH ev;refine⟨⟨rfl,trivial⟩,?_⟩;refine(bI (B:=kn H3) ?_:if true=true then _ else kn H3);rw[uA];exact⟨_,rfl,_,rfl,_,k,i,rfl,DA.same hv s2,o,λH4 s4=>h2 _ rfl H4 s4⟩
 ·show _<=_;omega
 ·rw[lB] at e3;have e4:H2 pl=some (.lst<|(YL k.h k.w<|af k.h k.w k.f).map V.str):=by unfold YL;rw[e3,Q4];rfl
  exact⟨_,pl,_,rfl,rfl,aA.of e4,Qg8 _ h6 o.w6,q H2 s2⟩
def QwJ{C:Xb}(F:az P w K mg base "tell_board" UW)(Tg:aB mg)(T:dn K C)
  (D:aD P w K mg base aq 1 C "board"<|wx C)
   (c1:ar P w K mg base aq 2 "written" G_) :
  ar P w K mg base aq 3 "tell_board" (kH C Mz):=by
 refine fG ["bench"] 1 F λaj A outer s H vs Q E nD hr h=>?_
 obtain⟨b,l,es,k,rfl,B,o,q⟩:=h;refine⟨_,QP<|JV<|Zr c1 hr<|Qj (JP (pv 0) T.cl D hr dZ) Qp,?_⟩;obtain⟨dx,kv,xs,e1,e2,d1,d2⟩:=B.at_;exact⟨_,rfl,b,dx,_,rfl,e1,Zb _ _ (by decide)<|by decide,b,l,es,k,rfl,B,λv q1=>⟨v,k,rfl,q1,o,λH' s'=>q _ H' rfl s'⟩⟩
end
def Aa:List Str:=(QD 100).map λ(n:Nat)=>Qb<|toString (n:Int)
def qP(z:Str):Bool:=decide (z∈Aa)
def kA(ws:List Str):Bool:=decide (ws.length=2)&&ws.all qP
def SG:Sp:=λvs H Q _=>∃(p:Xb)(ws:List Str),vs=[.ref p]/\H p=some (.lst<|ws.map V.str)/\ws.length<=100000/\∀H',ag H H'->Q (.bl<|kA ws) H'
def QAq:(["number"]:List Str).Nodup:=by decide
def QDd:(["word", "known"]:List Str).Nodup:=by decide
def Qxv(z:Str)(ts:List Str):qd (V.str z) (ts.map V.str)=decide (z∈ts):=by
 unfold qd;rw[zE,JX,YY,X4];constructor
 ·rintro⟨x,hx,e⟩;have e:(x == z)=true:=e;rw[<- beq_iff_eq.mp e];exact hx
 ·intro hx;exact⟨z,hx,X8 z⟩
abbrev QAC:Ze:=Y4 (top 87) 0
abbrev xS:Ze:=Y4 (top 87) 1
def qz(b:Xb):List (Str×V):=dD "bench" (.ref b) []
def QAW(b:Xb):(qz b).lookup ("bench" : Str)=some (.ref b):=by
 unfold qz;rw[Z2,XZ rfl]
def qW(b:Xb){m:Str}(h:¬m = "bench"):(qz b).lookup m=none:=by
 unfold qz;rw[Z2,XY h]
 all_goals rfl
structure w8 (K:Qa) (D:Xb):Prop where
 cl:iM K D
 nB:bN K D "bench"
structure dh (D C:Xb) (H:Hp) (s b l:Xb) (es:List Bo) (k:Bo):Prop where
 dk:∃dx,H s=some (.ins D dx<|qz b)
 bn:ba C H b l es k
def U2(D C:Xb):Sp:=λvs H Q _=>∃(p dx:Xb),vs=[.ref p]/\H p=some (.ins D dx [])/\∀(b l:Xb)(H':Hp),H b=none->H l=none->(∀a o,a≠p->H a=some o->H' a=some o)->dh D C H' p b l [] B0->Q .aL H'
section
variable{P:QB}{w:Jf}{K:Qa}{mg:Str->Option Xc}{base:Xl}
def QwE(F:az P w K mg base "are_two_numbers" Pq)(Tg:aB mg){uB:_}(mB:mg "BEYOND_TWO_FIGURES" = some (.int 100 uB)) :
  ar P w K mg base aq 1 "are_two_numbers" SG:=by
 refine fG ["words", "known"] 1 F λaj A outer s H vs Q E nD hr h=>?_
 obtain⟨p,ws,rfl,hp,hl,q⟩:=h;refine⟨_,Qu (ip 1 nD<|YC (M:=["number"]) (cap:=[none]) (g:=Yu 0) (tc:=YF) (te:=pX (λxs H Q=>∃i:Int,xs=[.int i]/\i.natAbs.log2<1920/\Q (.str<|toString i) H)<|dX (bV 0) fj) rfl (by rfl) (uE (by rfl) Tg.range<|Qj (Za (v:=.int 100) (by rfl) mB ⟨_,rfl⟩) Qp) λcl ex s3 H3 C=>⟨ZC (i:=0) QAq rfl (QJ rfl)<|QU rfl,j8,Zq Zw (by rfl) Tg.str kD<|Qj (pv 0) Qp⟩)
  (QP<|JV<|BV (pA iI (Zc Zx (by rfl) Tg.len iK<|Qj (pv 0) Qp) Jj<|JE _)<|BW<|Zc Km (by rfl) Tg.all HH<|Qj (YC (M:=["word", "known"]) (cap:=[none,some 1]) (g:=Yu 0) (tc:=YF) (te:=ji (xy K false) (bV 0)<|bV 1) rfl (by rfl) (wD<|pv 0) λcl ex s3 H3 C=>⟨ZC (i:=0) QDd rfl (QJ rfl)<|QU rfl,j8,pA Wn (pv 0) (pv 1)<|by rfl⟩) Qp),?_⟩
 refine⟨(100:Int),rfl,by decide,by decide,λkn hkn=>?_⟩;refine Y5 100 (Zv<|by decide) (λi=>some<|.str<|Qb<|toString ((i:Nat):Int)) hkn (λi H2 hi s2=>?_) (λH2 s2=>?_) λH2 s2 e3=>?_
 ·refine⟨hi,λx H3 ⟨eH,ev⟩ kn kv h1 h2=>?_⟩;subst eH ev;refine⟨trivial,?_⟩;refine(bI (B:=kn H3) ?_:if true=true then _ else kn H3);rw[uA];exact⟨_,rfl,_,rfl,Y3 (by omega)<|by omega,h2 _ rfl H3 λ_ _ z=>z⟩
 ·exact Qf _
 ·rw[lB] at e3;have ek:H2 kn=some (.lst<|Aa.map V.str):=by rw[e3];unfold Aa;rw[Q4];rfl
  have ep:=s2 _ _ hp;refine⟨_,rfl,p,_,rfl,.inl<|aA.of ep,rfl,_,rfl,?_⟩;have el:decide (V.int ((ws.map V.str).length:Int)=V.int 2)=decide (ws.length=2):=by
   rw[Qd,JX,X4,X4];exact⟨λz=>by have:=V.int.inj z;omega,λz=>by rw[z];rfl⟩
  rw[el];cases e2:decide (ws.length=2) with
  |false=>
   have:=q H2 s2;unfold kA at this;rw[e2] at this;exact a9 this
  |true=>
   refine bI ⟨_,rfl,p,rfl,⟨_,aA.of ep⟩,λpl hpl=>?_⟩;have at_:∀i,i<ws.length->(ws.map V.str)[i]? = some (.str<|ws.getD i f9):=λi hi=>by
    rw[Qt,Qi,Qc hi];rfl
   have w2:=X2 e2;refine Y5 ws.length (Zv<|by omega) (λi=>some<|.bl<|qP<|ws.getD i f9) hpl (λi H3 hi s3=>?_) (λH3 s3=>?_) λH3 s3 e5=>?_
   ·refine⟨⟨_,_,aA.of<|s3 _ _ ep,at_ i hi⟩,λx H4 ⟨eH,ev⟩ Fv kv h1 h2=>?_⟩;subst eH;have ex:=ev _<|aA.of<|s3 _ _ ep;rw[at_ i hi] at ex;cases ex;refine⟨⟨rfl,trivial⟩,?_⟩;refine(bI (B:=Fv H4) ?_:if true=true then _ else Fv H4);refine⟨_,rfl,_,rfl,kn,_,rfl,.inl<|aA.of<|s3 _ _ ek,rfl,by rw[Cj];exact JZ.mpr λ_ _=>rfl,?_⟩;show kv (V.bl<|qd (V.str<|ws.getD i f9)<|Aa.map V.str) H4;rw[Qxv];exact h2 _ rfl H4 λ_ _ z=>z
   ·exact⟨_,aA.of<|s3 _ _ ep,by rw[Qd];exact Qf _⟩
   ·rw[lB] at e5;have e6:H3 pl=some (.lst<|(ws.map qP).map V.bl):=by
     rw[e5,Q4];exact X6 (λz=>some<|HO.lst z)<|vQ (λn=>V.bl<|qP n) f9 ws
    refine⟨pl,_,rfl,aA.of e6,rfl,?_⟩;have:=q H3<|s2.trans s3;unfold kA at this;rw[e2,QBL] at this;rw[Cj];exact this
def Qsc{D C:Xb}(F:bX P w K mg base D "__init__" "Desk.__init__" QAC)(Td:w8 K D)(GI:mh P w K mg base 1 C "Bench"<|Ic C) :
  aD P w K mg base aq 3 D "__init__" (U2 D C):=by
 refine vc ["self"] 1 F λaj A outer s H vs Q E nD hr h=>?_
 obtain⟨p,dx,rfl,hp,k⟩:=h;refine⟨_,QP<|zc (pv 0) (HP GI hr) rfl,?_⟩;intro b0 sI xJ r8 ne0;refine⟨b0,sI,rfl,QC,λl0 H1 NC bO B1=>⟨rfl,?_⟩⟩;have u_:ag H (upd (upd H sI<|.own b0) b0<|.ins C sI []):=λa u e=>by rw[QH<|QK e xJ,QH<|QK e r8];exact e
 have rR:ag H H1:=λa u e=>bO a u (QK e xJ)<|u_ a u e
 have hl0:H l0=none:=by
  cases z:H l0 with
  |none=>rfl
  |some u=>rw[u_ _ _ z] at NC;cases NC
 have p1:=rR _ _ hp;refine⟨_,rfl,p,D,dx,[],rfl,p1,Td.cl,Td.nB,by show 0<1000;decide,?_⟩;obtain⟨dxa,va,xa,ea1,AY,da1,da2⟩:=id B1.at_;have pb:b0≠p:=λz=>by rw[z,hp] at xJ;cases xJ
 have pl:l0≠p:=ZL AY p1 λz=>nomatch z;have tp:∀a ys,H1 a=some (.tup ys)->(upd H1 p<|.ins D dx<|dD "bench" (.ref b0) []) a=some (.tup ys):=λa ys e=>by rw[QH<|ZL e p1 λz=>nomatch z];exact e
 exact k b0 l0 _ xJ hl0 (λa o h e=>by rw[QH h];exact rR _ _ e) ⟨⟨dx,QC⟩,⟨dxa,va,xa,by rw[QH pb];exact ea1,by rw[QH pl];exact AY,jZ tp da1,tL tp da2⟩⟩
def i':List Str:=["row", "column", "turn", "rest", "undo", "board", "counts", "most", "stand", "pieces"]
def nH:List Str:=["put", "take"]
def dU(l:List Str)(z:Str):Option Nat:=l.findIdx? λu=>decide (u=z)
def qJ(ws:List Str)(as:List Xb):List (Key×Xc):=(ws.zip as).map λp=>(Z6 p.1,JM p.2)
def zr(z:Str):∀(ws:List Str)(as:List Xb),ws.length=as.length->valueAt (qJ ws as) (Z6 z:Key)=((dU ws z).bind λi=>as[i]?).map JM
 |[],[],_=>rfl
 |u::ws,a::as,h=>by
  have ih:=zr z ws as (by simpa using h);unfold dU at ih ⊢;rw[List.findIdx?_cons];by_cases e:u=z
  ·rw[X1 e];show(Ho (λkv=>decide (kv.1=Z6 z)) ((Z6 u,JM a)::qJ ws as)).map _=_;rw[LX<|by simp[e]];rfl
  ·rw[X0 e];show(Ho (λkv=>decide (kv.1=Z6 z)) ((Z6 u,JM a)::qJ ws as)).map _=_;rw[Ds<|by simp[e]];have ih:(Ho (λkv=>decide (kv.1=Z6 z))<|qJ ws as).map (λx=>x.2)=_:=ih;rw[ih];cases ws.findIdx? (λu=>decide (u=z)) with
   |none=>rfl
   |some i=>rfl
inductive Rw where
 |alone (i:Nat) | place (j:Nat) (n m:Int)
def iH(z:Str):Int:=(zP z).getD 0
def qK:List Str->Option Rw
 |[]=>none
 |z::ns=>match dU i' z,ns with
  |some i,[]=>some<|.alone i
  |_,ns=>match dU nH z with
   |some j=>if kA ns=true then some (.place j (iH<|ns.getD 0 f9)<|iH<|ns.getD 1 f9) else none
   |none=>none
def gF:Xd->Option Rw
 |.str t=>qK<|Z5 t<|Qb " "
 |_=>none
def iQ(C:Xb)(xc:Str->Xb):List Sp:=[lY C xc .row,lY C xc .col,lY C xc .turn,lY C xc .rest,lY C xc .aT,kH C Mz,kH C Mu,kH C GZ,kH C MI,kH C MJ]
def kS(C:Xb)(xc:Str->Xb):List Sp:=[BQ C xc .put,BQ C xc .take]
def Bg(C:Xb)(xc:Str->Xb)(b:Xb)(r:Option Rw)(H:Hp)(Q:VK)(E:XK):Prop:=match r with
 |none=>∀H',ag H H'->E (.ref<|xc "row") none H'
 |some (.alone i)=>∀H' sp,ag H H'->(iQ C xc)[i]? = some sp->sp [.ref b] H' Q E
 |some (.place j n m)=>∀H' sp,ag H H'->(kS C xc)[j]? = some sp->sp [.ref b,.int n,.int m] H' Q E
def vK(D C:Xb)(xc:Str->Xb):Sp:=λvs H Q E=>∃(s b:Xb)(x:V)(d:Xd),vs=[.ref s,x]/\(∃dx,H s=some (.ins D dx<|qz b))/\DA N0 H x d/\(∀t,d=.str t->t.length<=3000)/\Bg C xc b (gF d) H Q E
def QE3(x:V)(xs:List V):kz (x::xs) (some 1) none=xs:=by
 unfold kz HT.aX;simp
def HB{l:List Str}{z:Str}{i:Nat}(h:dU l z=some i):i<l.length:=by
 unfold dU at h;exact(QeB.mp h).1
def HZ{ws:List Str}{as:List Xb}(hl:ws.length=as.length){z:Str}{i:Nat}(h:dU ws z=some i):∃g,as[i]? = some g/\valueAt (qJ ws as) (Z6 z:Key)=some (.ref g):=by
 have hi:=HB h;have e:as[i]? = some as[i]:=Qc (by omega);refine⟨_,e,?_⟩;rw[zr z ws as hl,h];show(as[i]?).map JM=_;rw[e];rfl
def RQ{ws:List Str}{as:List Xb}(hl:ws.length=as.length){z:Str}(h:dU ws z=none):valueAt (qJ ws as) (Z6 z:Key)=none:=by
 rw[zr z ws as hl,h];rfl
def PY{z:Str}(h:qP z=true):∃n:Nat,n<100/\zP z=some (n:Int)/\z.length<=34:=by
 have h:=X2 h;unfold Aa at h;obtain⟨n,hn,rfl⟩:=Qq.mp h;have hn:=Jw.mp hn;exact⟨n,hn,QgE (by omega)<|by omega,nM (by omega)<|by omega⟩
def Qxk{α:Type}{l:List α}(h:l.length=2):∃a b,l=[a,b]:=by
 obtain _ | ⟨a,_ | ⟨b,_ | _⟩⟩:=l<;>first | exact⟨_,_,rfl⟩ | cases h
def QAd{D C dA dW:Xb}{xc:Str->Xb}{as ps:List Xb}{tB:Tok}(F:bX P w K mg base D "say" "Desk.say" xS)(Tg:aB mg)(Td:w8 K D)
  (xO:mg "BLANK" = some (.str " " tB))(mA:mg "ALONE" = some (.ref dA))(mW:mg "WITH_PLACE" = some (.ref dW))(bA:BD P w K dA<|qJ i' as)(bW:BD P w K dW<|qJ nH ps)(lA:as.length=10)(lW:ps.length=2)
  (hA:∀(i:Nat) g sp,as[i]? = some g->(iQ C xc)[i]? = some sp->∃k gd qs,k<=8/\aI P w K mg base (Rx.aQ P w) k g gd qs sp/\Q7 K (.ref g)=true/\Binds K gd qs [])
  (hW:∀(i:Nat) g sp,ps[i]? = some g->(kS C xc)[i]? = some sp->∃k gd qs,k<=8/\aI P w K mg base (Rx.aQ P w) k g gd qs sp/\Q7 K (.ref g)=true/\Binds K gd qs [])
  (c2:ar P w K mg base aq 1 "are_two_numbers" SG)
  (mC:mg "NoRow" = some (.ref<|xc "row"))(qC:JH K (xc "row") Rx.cD "ValueError.__new__" = true) :
  aD P w K mg base (Rx.aQ P w) 9 D "say" (vK D C xc):=by
 refine qH ["self", "row", "words", "word", "numbers", "answer", "deed"] 2 F λaj A outer s H vs Q E nD hr h=>?_
 obtain⟨sd,b,x,d,rfl,⟨dx,es⟩,hx,ht,st⟩:=h;refine⟨_,Qu (d_ (QT.h (E:=E0)<|o_<|pe<|JC<|zd .str (by rfl) Tg.isinstance (qp 1) (by rfl) Tg.str kD) (QP<|Rx.zy (C:=xc "row") (E:=E) (λ_ _ h=>h) rfl rfl rfl rfl (by rfl) mC qC JR) Zu)
  (Qu (ip 2 nD<|i6 JG Ww Wx VA (pv 1)<|Qj (Za (v:=.str " ") (by rfl) xO ⟨_,rfl⟩) Qp)
  (Qu (ip 3 nD<|fm Yn (pv 2) Jj λ_ _=>rfl)
  (Qu (ip 4 nD<|VL Vl (pv 2) (Uu Jj) Ut)
  (Qu (d_ (PW.pt<|vX (JK P2 (pv 3) (Za (v:=.ref dA) (by rfl) mA rfl)<|by rfl)<|wG<|o8<|CA (pv 4) λ_=>rfl) (Qu (ip 5 nD<|Uq (Za (v:=.ref dA) (by rfl) mA rfl) (pv 3) λ_ _=>rfl)<|QP<|JV<|VI (M:=λg sp=>∃i:Nat,as[i]? = some g/\(iQ C xc)[i]? = some sp) (i:=5) ?hA (pv 5) (Rx.i5 (E:=E) (λ_ _ h=>h) rfl rfl rfl)<|Qj (iq (pv 0) rfl) Qp) Zu)
  (Qu (d_ (PW.pt<|vX (JK P2 (pv 3) (Za (v:=.ref dW) (by rfl) mW rfl)<|by rfl)<|wG<|tZ<|Zr c2 hr<|Qj (pv 4) Qp) (Qu (ip 6 nD<|Uq (Za (v:=.ref dW) (by rfl) mW rfl) (pv 3) λ_ _=>rfl)<|QP<|JV<|VI (M:=λg sp=>∃i:Nat,ps[i]? = some g/\(kS C xc)[i]? = some sp) (i:=6) ?hW (pv 6) (Rx.i5 (E:=E) (λ_ _ h=>h) rfl rfl rfl)<|Qj (iq (pv 0) rfl)<|Qj (Zq Qem (by rfl) Tg.int BI<|Qj (fm Yn (pv 4) Jj λ_ _=>rfl) Qp)<|Qj (Zq Qem (by rfl) Tg.int BI<|Qj (fm Yn (pv 4) Jj λ_ _=>rfl) Qp) Qp) Zu)
  (QP<|Rx.zy (C:=xc "row") (E:=E) (λ_ _ h=>h) rfl rfl rfl rfl (by rfl) mC qC JR)))))),?rd⟩
 case hA=>
  rintro g sp ⟨i,h1,h2⟩;obtain⟨k,gd,qs,hk,G,kp,bd⟩:=hA i g sp h1 h2;exact⟨k,gd,qs,G,hr.mono<|by omega,kp,bd⟩
 case hW=>
  rintro g sp ⟨i,h1,h2⟩;obtain⟨k,gd,qs,hk,G,kp,bd⟩:=hW i g sp h1 h2;exact⟨k,gd,qs,G,hr.mono<|by omega,kp,bd⟩
 case rd=>
  refine AQ [.no,.v d,.no,.no,.no,.no,.no] (.cons Jn<|.cons ⟨_,rfl,hx⟩<|.cons Jn<|.cons Jn<|.cons Jn<|.cons Jn<|.cons Jn .nil) ?_
  have no:∀H1,ag H H1->gF d=none->E (.ref<|xc "row") none H1:=λH1 s1 e=>by rw[e] at st;exact st H1 s1
  cases d with
  |str t=>
   refine λH1 s1=>?_
   show if(false:Bool)=true then _ else _
   refine a9 ?_
   have xt:x=.str t:=by cases hx;rfl
   subst xt;have ht:=ht t rfl;refine⟨_,rfl,rfl,t,Qb " ",rfl,rfl,rfl,by omega,λlw H2 s2 n2 a2=>?_⟩;obtain⟨z,ns,ew⟩:=Vp t<|Qb " ";have sl:=L2.split_le t<|Qb " ";have er:gF (.str t)=qK (z::ns):=by show qK (Z5 t<|Qb " ")=_;rw[ew]
   rw[er] at st no;rw[ew] at a2 sl;have nl:ns.length<=3002:=by rw[Qw] at sl;omega
   refine⟨_,rfl,lw,_,_,.str z,rfl,rfl,aA.of a2,Jc (j:=0) rfl,?_⟩;refine⟨_,rfl,_,rfl,lw,_,rfl,aA.of a2,λln H3 s3 n3 a3=>?_⟩;have a3:H3 ln=some (.lst<|ns.map V.str):=by rw[a3];exact X6 (λq=>some<|HO.lst q)<|QE3 (.str z)<|ns.map V.str
   have AE:=(s1.trans s2).trans s3;have ed:∀{H'},ag H3 H'->H' sd=some (.ins D dx<|qz b):=λs'=>s' _ _<|AE _ _ es
   have vA:=zr z i' as (by rw[lA];rfl);have vW:=zr z nH ps (by rw[lW];rfl);refine⟨_,rfl,z,dA,_,rfl,rfl,bA,_,rfl,?_⟩;by_cases pq:∃i,dU i' z=some i/\ns=[]
   ·obtain⟨i,hi,rfl⟩:=pq;obtain⟨g,hg,vg⟩:=HZ (as:=as) (by rw[lA];rfl) hi;rw[vg];refine bI ⟨_,rfl,false,.inl ⟨_,aA.of a3,rfl⟩,bI ?_⟩;have vt:=HB hi;obtain⟨sp,a8⟩:∃sp,(iQ C xc)[i]? = some sp:=⟨_,Qc<|show i<(iQ C xc).length from vt⟩
    have e:qK [z]=some (.alone i):=by show(match dU i' z,([]:List Str) with | some i,[]=>some (Rw.alone i) | _,ns=>_)=_;rw[hi]
    rw[e] at st;exact⟨_,rfl,dA,z,_,g,rfl,rfl,bA,vg,g,sp,rfl,⟨i,hg,a8⟩,_,rfl,sd,D,dx,_,_,rfl,ed λ_ _ q=>q,Td.cl,Td.nB,QAW b,st H3 sp AE a8⟩
   ·have Oh:qK (z::ns)=match dU nH z with | some j=>if kA ns=true then some (.place j (iH<|ns.getD 0 f9)<|iH<|ns.getD 1 f9) else none | none=>none:=by
     cases ns with
     |nil=>
      cases hi:dU i' z with
      |none=>show(match dU i' z,([]:List Str) with | some i,[]=>some (Rw.alone i) | _,ns=>_)=_;rw[hi]
      |some i=>exact X5 ⟨i,hi,rfl⟩ pq
     |cons n ns=>
      cases hi:dU i' z with
      |none=>show(match dU i' z,n::ns with | some i,[]=>some (Rw.alone i) | _,ns=>_)=_;rw[hi]
      |some i=>show(match dU i' z,n::ns with | some i,[]=>some (Rw.alone i) | _,ns=>_)=_;rw[hi]
    rw[Oh] at st no;clear vA vW er Oh;cases hi:dU i' z
    case' none=>
     rw[RQ (by rw[lA];rfl) hi];refine a9 ?_
     show if(false:Bool)=true then _ else _
     refine a9 ?_
    case' some i=>
     obtain⟨g,hg,vg⟩:=HZ (as:=as) (by rw[lA];rfl) hi;rw[vg];have ne:(ns.map V.str).isEmpty=false:=by
      cases ns with
      |nil=>exact X5 ⟨i,hi,rfl⟩ pq
      |cons _ _=>rfl
     refine bI ⟨_,rfl,true,.inl ⟨_,aA.of a3,by rw[ne];rfl⟩,?_⟩;show if(false:Bool)=true then _ else _
     refine a9 ?_
    all_goals
     refine⟨_,rfl,z,dW,_,rfl,rfl,bW,_,rfl,?_⟩;cases hj:dU nH z with
     |none=>
      rw[RQ (by rw[lW];rfl) hj];rw[hj] at st;exact a9<|a9<|st H3 AE
     |some j=>
      obtain⟨g,hg,vg⟩:=HZ (as:=ps) (by rw[lW];rfl) hj;rw[vg];rw[hj] at st;refine bI ⟨_,rfl,ln,ns,rfl,a3,by omega,λH4 s4=>⟨kA ns,rfl,?_⟩⟩;have Nk:=AE.trans s4;cases oj:kA ns with
      |false=>
       rw[oj] at st;exact a9<|st H4 Nk
      |true=>
       rw[oj] at st;refine bI ?_
       have vq:=HB hj;obtain⟨sp,a8⟩:∃sp,(kS C xc)[j]? = some sp:=⟨_,Qc<|show j<(kS C xc).length from vq⟩
       unfold kA at oj;have oj:=Qz.mp oj;have l2:=X2 oj.1;obtain⟨u1,u2,rfl⟩:=Qxk l2;have ls:=oj.2;have h1:qP u1=true/\qP u2=true:=by simpa using ls
       obtain⟨n1,_,i1,k1⟩:=PY h1.1;obtain⟨n2,_,i2,k2⟩:=PY h1.2;have st:=st H4 sp Nk a8;have e1:iH (([u1,u2]:List Str).getD 0 f9)=n1:=by show(zP u1).getD 0=_;rw[i1];rfl
       have e2:iH (([u1,u2]:List Str).getD 1 f9)=n2:=by show(zP u2).getD 0=_;rw[i2];rfl
       rw[e1,e2] at st;exact⟨_,rfl,dW,z,_,g,rfl,rfl,bW,vg,g,sp,rfl,⟨j,hg,a8⟩,_,rfl,sd,D,dx,_,_,rfl,ed s4,Td.cl,Td.nB,QAW b,_,rfl,ln,_,_,.str u1,rfl,rfl,aA.of<|s4 _ _ a3,Jc (j:=0) rfl,u1,n1,rfl,i1,by omega,_,rfl,ln,_,_,.str u2,rfl,rfl,aA.of<|s4 _ _ a3,Jc (j:=1) rfl,u2,n2,rfl,i2,by omega,st⟩
  |_=>exact λH1 s1=>no H1 s1 rfl
end
end Rk


namespace Rk
open L2 _root_.Rd
open Dl
open Rt
abbrev PN:Ze:=top 97
def tM:Rw->Option bq
 |.alone 0=>some .row
 |.alone 1=>some .col
 |.alone 2=>some .turn
 |.alone 3=>some .rest
 |.alone 4=>some .aT
 |.place 0 n m=>some<|.put (.int n)<|.int m
 |.place 1 n m=>some<|.take (.int n)<|.int m
 |_=>none
def B5:Rw->Option (Bo->Str->Prop)
 |.alone 5=>some Mz
 |.alone 6=>some Mu
 |.alone 7=>some GZ
 |.alone 8=>some MI
 |.alone 9=>some MJ
 |_=>none
def Res(t:Xb)(a b:Str)(H:Hp):Prop:=H t=some (.tup [.str a,.str b])
structure P' (D C:Xb) (d:Xd) (H:Hp) (Q:VK) (s b l:Xb) (es:List Bo) (k:Bo):Prop where
 no:gF d=none->∀t H',ag H H'->Res t "refused" "row" H'->Q (.ref t) H'
 due:∀r dd wd,gF d=some r->tM r=some dd->cM dd es k=some wd->∀t H',ag H H'->Res t "refused" wd H'->Q (.ref t) H'
 ok:∀r dd,gF d=some r->tM r=some dd->cM dd es k=none->∀t H',K2 b l H H'->ba C H' b l (jF dd es k).1 (jF dd es k).2->Res t "told" "ok" H'->Q (.ref t) H'
 tell:∀r R u,gF d=some r->B5 r=some R->R k u->∀t H',ag H H'->Res t "told" u H'->Q (.ref t) H'
def SF(D C:Xb):Sp:=λvs H Q _=>∃(s b l:Xb)(es:List Bo)(k:Bo)(x:V)(d:Xd),vs=[.ref s,x]/\dh D C H s b l es k/\k.ok/\es.length<=900/\DA N0 H x d/\(∀t,d=.str t->t.length<=3000)/\P' D C d H Q s b l es k
def Kc{dd:bq}{es:List Bo}{k:Bo}{wd:Str}(h:cM dd es k=some wd):wd = "place" ∨ wd = "double" ∨ wd = "cell" ∨ wd = "many" ∨ wd = "deed" := QxH h
section
variable{P:QB}{w:Jf}{K:Qa}{mg:Str->Option Xc}{base:Xl}
def QwM{D C:Xb}{xc:Str->Xb}(F:az P w K mg base "_law_said" PN)(Td:w8 K D)(DS:aD P w K mg base (Rx.aQ P w) 9 D "say"<|vK D C xc)
  {fK R:Xb} {cs:List Xb} {yw:Zs} (mK:mg "_law_kind_of" = some (.ref fK)) (GK:Rx.w5 P w K mg base 1 fK yw ["_law_e"]<|qZ K cs) (bK:Binds K yw ["_law_e"] []) (kK:Q7 K (.ref fK)=true) (mR:mg "RookError" = some (.ref R)) (Fb:∀wd:Str,wd = "row" ∨ wd = "place" ∨ wd = "double" ∨ wd = "cell" ∨ wd = "many" ∨ wd = "deed" -> md K cs R (xc wd) wd) :
  ar P w K mg base aq 10 "_law_said" (SF D C):=by
 obtain⟨gS,gdS,psS,nS,DS,cS⟩:=DS.ex;refine fG ["_law_desk", "_law_row", "_law_e"] 2 F λaj A outer s H vs Q E nD hr h=>?_
 obtain⟨sd,b,l,es,k,x,d,rfl,⟨⟨dx,ed⟩,B⟩,o,hl,hx,ht,S⟩:=h;refine⟨_,QP<|Rx.T7 (i:=2) rfl rfl (Rx.Ye<|Rx.QvT<|Rx.Qrx JR<|Rx.K7 (pv 0) Td.cl nS DS (hr.mono<|by decide) cS rfl<|Qj (pv 1) Qp)
  nD rfl rfl (by rfl) mR (λe=>Y1<|a_ JR<|a_ (Rx.VH GK (Rx.ao.m (hr.mono<|by decide) e) (by rfl) mK kK bK<|Qj (pv 2) Qp) Qp),?_⟩
 have h3:(2:Nat)<3:=by decide
 have ref:∀(wd:Str) H1,ag H H1->(wd = "row" ∨ wd = "place" ∨ wd = "double" ∨ wd = "cell" ∨ wd = "many" ∨ wd = "deed")->(∀t H',ag H H'->Res t "refused" wd H'->Q (.ref t) H') ->
   ∃D',JM (xc wd)=.ref D'/\(Rx.u0 K D' R/\∀a,H1 a=none->(dX (bV 2) fj) ((start ["_law_desk", "_law_row", "_law_e"] [.ref sd,x]).set 2<|some<|.ref a) (upd H1 a<|Rx.oC a D') λvs H2=>qZ K cs vs H2 (λv H3=>(2<=1000/\∀t H',ag H3 H'->H3 t=none->H' t=some (.tup [.str "refused",v])->Q (.ref t) H')) E0):=λwd H1 s1 hw kq=>
  ⟨_,rfl,handled (Q:=λv H3=>(2<=1000/\∀t H',ag H3 H'->H3 t=none->H' t=some (.tup [.str "refused",v])->Q (.ref t) H')) (Fb wd hw) h3 λH2 s2=>⟨by decide,λt H' s' _ e=>kq t H' ((s1.trans s2).trans s') e⟩⟩
 refine⟨_,rfl,sd,dx,_,rfl,ed,qW _<|by decide,_,rfl,sd,b,x,d,rfl,⟨dx,ed⟩,hx,ht,?_⟩;unfold Bg;cases om:gF d with
 |none=>exact λH' s'=>ref "row" H' s' (.inl rfl) λt MQ rS r=>S.no om t MQ rS r
 |some rw=>
  have cJ:∀dd,tM rw=some dd->∀H1,ag H H1->GL C xc H1 (λy H2=>∀t H',ag H2 H'->H2 t=none->H' t=some (.tup [.str "told",y])->Q (.ref t) H') (λcv _ H3=>∃D',cv=.ref D'/\(Rx.u0 K D' R/\∀a,H3 a=none->(dX (bV 2) fj) ((start ["_law_desk", "_law_row", "_law_e"] [.ref sd,x]).set 2<|some<|.ref a) (upd H3 a<|Rx.oC a D') λvs H2=>qZ K cs vs H2 (λv H3=>(2<=1000/\∀t H',ag H3 H'->H3 t=none->H' t=some (.tup [.str "refused",v])->Q (.ref t) H')) E0)) b l es k dd:=λdd hd H1 s1=>
   ⟨λwd hw H2 s2=>ref wd H2 (s1.trans s2) (.inr<|Kc hw) λt MQ rS r=>S.due rw dd wd om hd hw t MQ rS r,
    λhn H2 k2 B2 t H3 s3 _ e=>S.ok rw dd om hd hn t H3 ((K2.of s1).trans<|k2.trans<|K2.of s3) (B2.same s3) e⟩
  have tell:∀R',B5 rw=some R'->∀H1,ag H H1->∀u H2,R' k u->ag H1 H2->∀t H3,ag H2 H3->H2 t=none->H3 t=some (.tup [.str "told",.str u])->Q (.ref t) H3:=λR' hR H1 s1 u H2 hu s2 t H3 s3 _ e=>S.tell rw R' u om hR hu t H3 ((s1.trans s2).trans s3) e
  cases rw with
  |alone i=>
   intro H1 sp s1 a8;have Bn:=B.same s1
   match i,a8,cJ,tell with
   |0,a8,cJ,_=>cases a8;exact⟨b,l,es,k,rfl,Bn,o,by omega,cJ _ rfl H1 s1⟩
   |1,a8,cJ,_=>cases a8;exact⟨b,l,es,k,rfl,Bn,o,by omega,cJ _ rfl H1 s1⟩
   |2,a8,cJ,_=>cases a8;exact⟨b,l,es,k,rfl,Bn,o,by omega,cJ _ rfl H1 s1⟩
   |3,a8,cJ,_=>cases a8;exact⟨b,l,es,k,rfl,Bn,o,by omega,cJ _ rfl H1 s1⟩
   |4,a8,cJ,_=>cases a8;exact⟨b,l,es,k,rfl,Bn,o,by omega,cJ _ rfl H1 s1⟩
   |5,a8,_,tell=>cases a8;exact⟨b,l,es,k,rfl,Bn,o,λu H2 hu s2=>tell _ rfl H1 s1 u H2 hu s2⟩
   |6,a8,_,tell=>cases a8;exact⟨b,l,es,k,rfl,Bn,o,λu H2 hu s2=>tell _ rfl H1 s1 u H2 hu s2⟩
   |7,a8,_,tell=>cases a8;exact⟨b,l,es,k,rfl,Bn,o,λu H2 hu s2=>tell _ rfl H1 s1 u H2 hu s2⟩
   |8,a8,_,tell=>cases a8;exact⟨b,l,es,k,rfl,Bn,o,λu H2 hu s2=>tell _ rfl H1 s1 u H2 hu s2⟩
   |9,a8,_,tell=>cases a8;exact⟨b,l,es,k,rfl,Bn,o,λu H2 hu s2=>tell _ rfl H1 s1 u H2 hu s2⟩
   |i+10,a8,_,_=>cases a8
  |place j n m=>
   intro H1 sp s1 a8;have Bn:=B.same s1
   match j,a8,cJ with
   |0,a8,cJ=>cases a8;exact⟨b,l,es,k,_,_,.int n,.int m,rfl,Bn,o,by omega,.int _,.int _,cJ _ rfl H1 s1⟩
   |1,a8,cJ=>cases a8;exact⟨b,l,es,k,_,_,.int n,.int m,rfl,Bn,o,by omega,.int _,.int _,cJ _ rfl H1 s1⟩
   |j+2,a8,_=>cases a8
abbrev TB:Ze:=top 95
def oX(wd:Str)(ns:List Int):Str:=ZF (Qb " ") (wd::ns.map λn=>Qb<|toString n)
def U3:Sp:=λvs H Q _=>∃(wd:Str)(t:Xb)(ns:List Int),vs=[.str wd,.ref t]/\H t=some (.lst<|ns.map V.int)/\(∀n∈ns,0<=n/\n<100)/\ns.length<=2/\wd.length<=10/\∀H',ag H H'->Q (.str<|oX wd ns) H'
def QDi:(["_law_number"]:List Str).Nodup:=by decide
def Qr1(F:az P w K mg base "_law_row_of" TB)(Tg:aB mg) :
  ar P w K mg base aq 1 "_law_row_of" U3:=by
 refine fG ["_law_word", "_law_told"] 2 F λaj A outer s H vs Q E nD hr h=>?_
 obtain⟨wd,t,ns,rfl,ht,nb,nl,wl,q⟩:=h;refine⟨_,QP<|JV<|i6 JG Zm Zl ur JR<|Qj (YQ wB (Y2<|a_ (pv 0) Qp)<|YC (M:=["_law_number"]) (cap:=[none]) (g:=Yu 0) (tc:=YF) (te:=pX (λxs H Q=>∃i:Int,xs=[.int i]/\i.natAbs.log2<1920/\Q (.str<|toString i) H)<|dX (bV 0) fj) rfl (by rfl) (wD<|pv 1) λcl ex s3 H3 C=>⟨ZC (i:=0) QDi rfl (QJ rfl)<|QU rfl,j8,Zq Zw (by rfl) Tg.str kD<|Qj (pv 0) Qp⟩) Qp,?_⟩;refine⟨rfl,_,rfl,by show 1<=1000;decide,λl1 H1 s1 n1 a1=>?_⟩;have e0:=s1 _ _ ht;refine⟨_,rfl,t,rfl,⟨_,aA.of e0⟩,λpl hpl=>?_⟩;have at_:∀i,i<ns.length->(ns.map V.int)[i]? = some (.int<|ns.getD i 0):=λi hi=>by
  rw[Qt,Qi,Qc hi];rfl
 have gm:∀i,i<ns.length->ns.getD i 0∈ns:=λi hi=>by
  rw[Qi,Qc hi];exact Jz _
 refine Y5 ns.length (Zv<|by omega) (λi=>some<|.str<|Qb<|toString<|ns.getD i 0) hpl (λi H2 hi s2=>?_) (λH2 s2=>?_) λH2 s2 e3=>?_
 ·refine⟨⟨_,_,aA.of<|s2 _ _ e0,at_ i hi⟩,λx H3 ⟨eH,ev⟩ kn kv h1 h2=>?_⟩;subst eH;have ex:=ev _<|aA.of<|s2 _ _ e0;rw[at_ i hi] at ex;cases ex;refine⟨trivial,?_⟩;refine(bI (B:=kn H3) ?_:if true=true then _ else kn H3);have Fn:=nb _<|gm i hi;exact⟨_,rfl,_,rfl,Y3 Fn.1<|by omega,h2 _ rfl H3 λ_ _ z=>z⟩
 ·exact⟨_,aA.of<|s2 _ _ e0,by rw[Qd];exact Qf _⟩
 ·rw[lB] at e3;have e4:H2 pl=some (.lst<|(ns.map λn=>Qb<|toString n).map V.str):=by
   rw[e3,Q4];exact X6 (λz=>some<|HO.lst z)<|vQ (λn=>V.str<|Qb<|toString n) 0 ns
  refine⟨l1,pl,_,_,rfl,rfl,s2 _ _ a1,e4,by rw[Qd,Qd];show 1+_<=1000;omega,λl3 H5 s5 n5 e5=>?_⟩;have e6:H5 l3=some (.lst<|(wd::ns.map λn=>Qb<|toString n).map V.str):=e5;refine⟨_,l3,_,rfl,rfl,aA.of e6,ui (B:=34) (λy hy=>?_) ?_,q H5<|(s1.trans s2).trans s5⟩
  ·rcases Qv.mp hy with z | z
   ·rw[z];omega
   ·obtain⟨n,hn,rfl⟩:=Qq.mp z;have Fn:=nb n hn;exact nM Fn.1 (by omega)
  ·rw[Qw,Qd];show _*34+_*1<=_;omega
abbrev PM:Ze:=top 94
structure QBB (p t l:Xb) (wd:Str) (ns:List Int) (H H':Hp):Prop where
 gd:oB wd ns
 nl:ns.length<=2
 nb:∀n∈ns,0<=n/\n<100
 k1:K1 p H H'
 hp:∃m:Int,H' p=some (.lst [.int m])
 ht:H' t=some (.tup [.str wd,.ref l])
 hl:H' l=some (.lst<|ns.map V.int)
 lp:l≠p
 nw:H l=none
def Sz:Sp:=λvs H Q _=>∃(p:Xb)(m:Int)(v:V)(k:Bo),vs=[.ref p,v]/\H p=some (.lst [.int m])/\DA N0 H v k.d/\k.ok/\∀t l wd ns H',QBB p t l wd ns H H'->Q (.ref t) H'
def QwU(F:az P w K mg base "_law_good_deed" PM)(Tg:aB mg)
   (c1:ar P w K mg base aq 2 "_law_deed"<|Zz false Rr)
   (c2:ar P w K mg base aq 1 "_law_take" CG) :
  ar P w K mg base aq 3 "_law_good_deed" Sz:=by
 refine fG ["_law_pot_here", "_law_board", "_law_word", "_law_told", "_law_far"] 2 F λaj A outer s H vs Q E nD hr h=>?_
 obtain⟨p,m,v,k,rfl,hp,hv,o,Q0⟩:=h;refine⟨_,Qu (pj (Zr c1 hr<|Qj (pv 0)<|Qj (pv 1)<|Qj Jj Qp)<|lV rfl<|J3 (i7 2 nD)<|J3 (i7 3 nD) l9)
  (Qu (ip 4 nD<|fm Yn (Y2<|a_ Jj<|a_ Jj<|a_ Jj<|a_ Jj<|a_ Jj<|a_ Jj Qp) (Zr c2 hr<|Qj (pv 0)<|Qj Jj Qp) λ_ _=>rfl)
  (Qu (d_ (PW.pt<|vX (JK Qz3 (pv 3) (Y2 Qp)<|JE _)<|wG<|JK iI (Zr c2 hr<|Qj (pv 0)<|Qj Jj Qp) Jj<|JE _) (QP<|pj (pv 4)<|HQ (pv 3) (Zr c2 hr<|Qj (pv 0)<|Qj Jj Qp) CF) Zu)
  (QP<|JV<|Y1<|a_ (pv 2)<|a_ (pv 3) Qp))),?_⟩
 have hU:=ao.rK hr;have dm:∀x,(∃xs,H x=some (.lst xs))->∃ys,H x=some (.lst ys):=λx hx=>hx
 refine⟨_,rfl,_,rfl,(λx=>∃xs,H x=some (.lst xs)),(λx=>x=p),[.cZ,.v k.d,.v<|.int 0],(λd=>∃(wd:Str)(ns:List Int),d=.tuple [.str wd,.list<|ns.map Qr]/\oB wd ns/\∀n∈ns,0<=n/\n<100),XF,dm,λx hx=>⟨⟨[.int m],by rw[hx];exact hp⟩,m,by rw[hx];exact hp⟩,.cons ⟨p,rfl,rfl⟩<|.cons (QA1 (λ_ _ e=>e) dm _ _ (G5 _) hv)<|.cons (.int _) .nil,⟨_,rfl,o,λwd ns g bd=>⟨wd,ns,rfl,g,λn hn=>⟨(bd n hn).1,by have:=(bd n hn).2;omega⟩⟩⟩,λd hd v3 H3 kq dv _=>?_,λ_ z=>z.elim⟩;obtain⟨wd,ns,rfl,hw,nb⟩:=hd;obtain⟨n0,e0⟩:=kq.2 p rfl;obtain⟨ct,tl,rfl,ec,et,na⟩:∃ct tl,v3=.ref ct/\H3 ct=some (.tup [.str wd,.ref tl])/\H3 tl=some (.lst<|ns.map V.int)/\¬ ∃xs,H tl=some (.lst xs):=by
  cases dv with
  |tup _ e q=>cases q with
   |cons q1 q=>cases q with
    |cons q2 q=>
     cases q;cases q1;cases q2 with
     |lst n2 e2 q2=>exact⟨_,_,rfl,e,by rw[wH q2] at e2;exact e2,n2⟩
 have tp:tl≠p:=λe=>na ⟨_,by rw[e];exact hp⟩
 have nt:H tl=none:=by
  cases z:H tl with
  |none=>rfl
  |some u=>
   have h3:=kq.1 _ _ tp z;rw[et] at h3;cases h3;exact(na ⟨_,z⟩).elim
 have cp:ct≠p:=ZL ec e0 λz=>nomatch z;have k3:K1 p H H3:=λa u h e=>kq.1 a u h e
 refine⟨ct,_,rfl,aP.of ec,rfl,_,_,rfl,_,_,rfl,rfl,?_⟩;refine⟨by show 6<=1000;decide,λl1 H4 s4 n4 e4=>?_⟩;refine⟨_,rfl,p,n0,6,rfl,s4 _ _ e0,by decide,by decide,λr m1 r0 r6=>?_⟩;have lp:l1≠p:=(QK e0 n4).symm;obtain⟨fv,f0,f1,hf⟩:∃fv:Int,0<=fv/\fv<100/\gR [V.int 0,.int 5,.int 6,.int 9,.int 10,.int 99] r=some (.int fv):=by
  obtain⟨j,rfl⟩:=Yh r0
  match j,r6 with
  |0,_=>exact⟨0,by decide,by decide,rfl⟩
  |1,_=>exact⟨5,by decide,by decide,rfl⟩
  |2,_=>exact⟨6,by decide,by decide,rfl⟩
  |3,_=>exact⟨9,by decide,by decide,rfl⟩
  |4,_=>exact⟨10,by decide,by decide,rfl⟩
  |5,_=>exact⟨99,by decide,by decide,rfl⟩
  |j+6,h=>omega
 refine⟨l1,_,r,.int fv,rfl,rfl,aA.of (by rw[QH lp];exact e4),hf,?_⟩;have k4:K1 p H (upd H4 p<|.lst [.int m1]):=λa u h e=>by rw[QH h];exact s4 _ _<|k3 a u h e
 have t4:(upd H4 p<|.lst [.int m1]) tl=some (.lst<|ns.map V.int):=by rw[QH tp];exact s4 _ _ et
 have p4:(upd H4 p<|.lst [.int m1]) p=some (.lst [.int m1]):=QC;generalize upd H4 p (.lst [.int m1])=H5 at k4 t4 p4;have fin:∀(og:List Int)(m':Int)(H5:Hp),oB wd og->og.length<=2->(∀n∈og,0<=n/\n<100)->K1 p H H5->H5 p=some (.lst [.int m'])->H5 tl=some (.lst<|og.map V.int)->(BA<|dX (bV 2)<|dX (bV 3) fj) [some<|.ref p,some v,some<|.str wd,some<|.ref tl,some<|.int fv] H5 Q:=λog m' H5 g5 l5 b5 k5 p5 t5=>
  ⟨_,rfl,_,rfl,by show 2<=1000;decide,λt H6 s6 n6 e6=>Q0 t tl wd og H6 ⟨g5,l5,b5,λa u h e=>s6 _ _<|k5 a u h e,⟨m',s6 _ _ p5⟩,e6,s6 _ _ t5,tp,nt⟩⟩
 refine⟨_,rfl,by show 0<=1000;decide,λl2 H6 s6 n6 e6=>⟨tl,l2,ns.map V.int,rfl,rfl,s6 _ _ t4,e6,JJ (KW _ 60) hU,_,rfl,?_⟩⟩;have k6:K1 p H H6:=λa u h e=>s6 _ _<|k4 a u h e
 have t6:=s6 _ _ t4;have p6:=s6 _ _ p4;rcases hw with⟨rfl,hw⟩ | ⟨x,y,rfl,hw⟩
 ·exact a9 (fin [] m1 H6 (.inl ⟨rfl,hw⟩) (by decide) nb k6 p6 t6)
 ·refine bI ?_
  refine⟨_,rfl,p,m1,10,rfl,p6,by decide,by decide,λr2 m2 _ _=>?_⟩;refine⟨rfl,_,rfl,?_⟩;have k7:∀m:Int,K1 p H (upd H6 p<|.lst [.int m]):=λm a u h e=>by rw[QH h];exact k6 a u h e
  have t7:∀m:Int,(upd H6 p<|.lst [.int m]) tl=some (.lst [.int x,.int y]):=λm=>by rw[QH tp];exact t6
  cases decide (V.int r2=V.int 0) with
  |false=>exact a9<|fin [x,y] m2 _ (.inr ⟨_,_,rfl,hw⟩) (Qf _) nb (k7 m2) QC<|t7 m2
  |true=>
   refine bI ⟨_,rfl,_,rfl,_,rfl,p,m2,2,rfl,QC,by decide,by decide,λr3 m3 c0 c2=>?_⟩;rw[Qvk];have kk:∀z:List V,K1 p H (upd (upd H6 p<|.lst [.int m3]) tl<|.lst z):=λz a u h e=>by rw[QH<|QK e nt];exact k7 m3 a u h e
   have pp:∀z:List V,(upd (upd H6 p<|.lst [.int m3]) tl<|.lst z) p=some (.lst [.int m3]):=λz=>by rw[QH tp.symm];exact QC
   have bx:=nb x<|Q1 ..;have bY:=nb y<|QN _<|Qm.mpr rfl;rcases(show r3=0∨r3=1 by omega) with rfl | rfl
   ·exact⟨tl,_,0,0,rfl,rfl,t7 m3,IZ (n:=2)<|by decide,fin [fv,y] m3 _ (.inr ⟨_,_,rfl,hw⟩) (Qf _) (λn hn=>by
     rcases Qv.mp hn with rfl | hn
     ·omega
     ·rw[Qm.mp hn];omega) (kk _) (pp _) QC⟩
   ·exact⟨tl,_,1,1,rfl,rfl,t7 m3,IZ (n:=2)<|by decide,fin [x,fv] m3 _ (.inr ⟨_,_,rfl,hw⟩) (Qf _) (λn hn=>by
     rcases Qv.mp hn with rfl | hn
     ·omega
     ·rw[Qm.mp hn];omega) (kk _) (pp _) QC⟩
end
def QDj(h w:Int)(cs:List (Int×Int)):nd (cX h w cs)=true:=by
 show(true&&(true&&(iS (cs.map pairD)&&true)))=true;rw[Yz];rfl
def yP:R2:=λx y H Q=>∃i j,x=.str i/\y=.str j/\i.length+j.length<=Xj/\Q (.str<|i++j) H
def Iu:aK X (Xr .Add) yP:=QlJ
def QxX(p:Int×Int):dY p=Qb (toString p.1)++Qb "-" ++ Qb (toString p.2):=by
 unfold dY;have e:∀x:Str,Yl++x=x:=λx=>by
  obtain⟨c⟩:=x;show vG (#[]++c)=vG c;rw[To]
 rw[e]
end Rk




namespace Rk
open L2 _root_.Rd
open Dl
open Rt
def p0(a b:Str):Xd:=.tuple [.str a,.str b]
def wF(e:H t=some (.tup [.str a,.str b]))(ha:Jb (.str a)=true)(hb:Jb (.str b)=true):Dat H (.ref t) (p0 a b):=.tup e<|.cons (.str _ ha)<|.cons (.str _ hb) .nil
def ID:Q3 (p0 a b) (p0 a b)=true:=by
 unfold p0;simp[Q3,wV]
def IC(h:u+60<cLine):u+min (p0 a b).depth (p0 c d).depth<cLine:=by
 have:(p0 a b).depth<=60:=by unfold p0;simp[YV,ZZ]
 omega
section
variable{P:QB}{w:Jf}{K:Qa}{mg:Str->Option Xc}{base:Xl}
def dh.same(x:dh D C H s b l es k)(z:ag H H'):dh D C H' s b l es k:=by
 obtain⟨dx,e⟩:=x.dk;exact⟨⟨dx,z _ _ e⟩,x.bn.same z⟩
def QsH:dU l z=none↔z∉l:=by
 unfold dU;rw[Wv];constructor
 ·intro h hz;have:=h z hz;simp at this
 ·intro h x hx;exact X0 λe=>h<|e ▸ hx
def Qsl(h:z∈nH):dU i' z=none:=by
 have:∀z∈nH,dU i' z=none:=by decide
 exact this z h
def XN(hj:dU nH z=some j):qK (z::ns)=if kA ns=true then some (.place j (iH<|ns.getD 0 f9)<|iH<|ns.getD 1 f9) else none:=by
 have hz:=Classical.byContradiction λh=>by rw[QsH.mpr h] at hj;cases hj
 show(match dU i' z,ns with | some i,[]=>some (Rw.alone i) | _,ns=>match dU nH z with | some j=>if kA ns=true then some (.place j (iH<|ns.getD 0 f9)<|iH<|ns.getD 1 f9) else none | none=>none)=_;rw[Qsl hz,hj]
def Wm{n:Int}(h0:0<=n)(h1:n<100):(Qb<|toString n).length<=2/\gT (Qb<|toString n)=true:=by
 obtain⟨j,rfl⟩:=Yh h0;have:∀j:Fin 100,(Qb<|toString (j.val:Int)).length<=2/\gT (Qb<|toString (j.val:Int))=true:=by decide
 exact this ⟨j,by omega⟩
def Uh(hw:wd.length<=10/\gT wd=true)(nl:ns.length<=2)(nb:∀n∈ns,0<=n/\n<100):(oX wd ns).length<=20/\gT (oX wd ns)=true:=by
 refine⟨?_,Qx6 (by decide) λt ht=>?_⟩
 ·show(WH _ _).length<=20;rw[L0];refine QQ (StrLaws.join_length_le _ _) ?_
  have l1:=λn hn=>(Wm (nb n hn).1 (nb n hn).2).1
  match ns,nl,l1 with
  |[],_,_=>show wd.length+0+(0+1)*1<=20;omega
  |[a],_,l1=>
   have:=l1 a<|Q1 ..;show wd.length+((Qb<|toString a).length+0)+(1+1)*1<=20;omega
  |[a,b],_,l1=>
   have h1:=l1 a<|Q1 ..;have h2:=l1 b<|QN _<|Q1 ..;show wd.length+((Qb<|toString a).length+((Qb<|toString b).length+0))+(2+1)*1<=20;omega
  |_::_::_::_,h,_=>exact X5 h (by simp)
 ·rcases Qv.mp ht with rfl | ht
  ·exact hw.2
  ·obtain⟨n,hn,rfl⟩:=Qq.mp ht;exact(Wm (nb n hn).1 (nb n hn).2).2
def VG{n:Int}(h0:0<=n):32∉(Qb<|toString n).cps.toList:=λhc=>by
 obtain⟨m,rfl⟩:=Yh h0;have hc:=hc;rw[QgD] at hc;obtain⟨d,hd,e⟩:=Qq.mp hc;have:=Nat.isDigit_of_mem_toDigits (by decide) (by decide) hd;have:=X2 (Qz.mp this).1;have:48<=d.toNat:=this;omega
def PX(h0:0<=n)(h1:n<100):qP (Qb<|toString n)=true/\iH (Qb<|toString n)=n:=by
 obtain⟨m,rfl⟩:=Yh h0;refine⟨X1<|Qq.mpr ⟨m,Jw.mpr<|by omega,rfl⟩,?_⟩;unfold iH;rw[QgE (by omega)<|by omega];rfl
def QAM(g:oB wd ns)(nb:∀n∈ns,0<=n/\n<100):∃(d:bq)(r:Rw),d.wd=wd/\d.xf=ns.map Qr/\gF (.str<|oX wd ns)=some r/\tM r=some d/\(oX wd ns).length<=20/\gT (oX wd ns)=true:=by
 rcases g with⟨rfl,hw⟩ | ⟨x,y,rfl,hw⟩
 ·simp only[Qv,Jo,or_false] at hw;rcases hw with rfl | rfl | rfl | rfl | rfl
  ·exact⟨.row,.alone 0,rfl,rfl,by kernel_rfl,rfl,by decide,by decide⟩
  ·exact⟨.col,.alone 1,rfl,rfl,by kernel_rfl,rfl,by decide,by decide⟩
  ·exact⟨.turn,.alone 2,rfl,rfl,by kernel_rfl,rfl,by decide,by decide⟩
  ·exact⟨.rest,.alone 3,rfl,rfl,by kernel_rfl,rfl,by decide,by decide⟩
  ·exact⟨.aT,.alone 4,rfl,rfl,by kernel_rfl,rfl,by decide,by decide⟩
 ·have bx:=nb x<|.head _;have bY:=nb y<|.tail _<|.head _;have ix:=PX bx.1 bx.2;have iy:=PX bY.1 bY.2;have sp:∀wd:Str,32∉wd.cps.toList->Z5 (oX wd [x,y]) (Qb " ")=[wd,Qb<|toString x,Qb<|toString y]:=λwd h=>by
   refine Qga λp hp=>?_
   simp only[Yc,Ck,Qv,Jo,or_false] at hp;rcases hp with rfl | rfl | rfl
   ·exact h
   ·exact VG bx.1
   ·exact VG bY.1
  have two:kA [Qb<|toString x,Qb<|toString y]=true:=by
   unfold kA;rw[zJ,zJ,ix.1,iy.1];rfl
  rcases hw with rfl | rfl
  ·refine⟨.put (.int x)<|.int y,.place 0 x y,rfl,rfl,?_,rfl,Uh (by decide) (Qf 2) nb⟩;show qK (Z5 _ _)=_;rw[sp _<|by decide,XN (j:=0)<|by decide,two];show some (Rw.place 0 (iH<|Qb<|toString x)<|iH<|Qb<|toString y)=_;rw[ix.2,iy.2]
  ·refine⟨.take (.int x)<|.int y,.place 1 x y,rfl,rfl,?_,rfl,Uh (by decide) (Qf 2) nb⟩;show qK (Z5 _ _)=_;rw[sp _<|by decide,XN (j:=1)<|by decide,two];show some (Rw.place 1 (iH<|Qb<|toString x)<|iH<|Qb<|toString y)=_;rw[ix.2,iy.2]
def ba.keep(F:Xb->Prop)(x:ba C H b l es k)(kp:∀a o,¬F a->H a=some o->H' a=some o)(nb:¬F b)(nl:¬F l)(nt:∀a ys,H a=some (.tup ys)->¬F a):ba C H' b l es k:=by
 obtain⟨dx,v,xs,e1,e2,d1,d2⟩:=x.at_;have tp:=λa ys e=>kp a _ (nt a ys e) e
 exact⟨dx,v,xs,kp _ _ nb e1,kp _ _ nl e2,jZ tp d1,tL tp d2⟩
def fN.keep(F:Xb->Prop)(x:fN H r es k)(kp:∀a o,¬F a->H a=some o->H' a=some o)(nr:¬F r)(nt:∀a ys,H a=some (.tup ys)->¬F a):fN H' r es k:=by
 obtain⟨xs,v,e,d2,d1⟩:=x.at_;have tp:=λa ys e=>kp a _ (nt a ys e) e
 exact⟨xs,v,kp _ _ nr e,tL tp d2,jZ tp d1⟩
def fN.same(x:fN H r es k)(s:ag H H'):fN H' r es k:=x.keep (λ_=>False) (λa o _ e=>s a o e) id λ_ _ _=>id
def QAp(h:∀x∈es++[k],x.ok):∀x∈(fP d es k).1++[(fP d es k).2],x.ok:=by
 cases hd:cM d es k with
 |some wd=>rw[wM hd];exact h
 |none=>
  rw[zL hd];by_cases hu:d.wd = "undo"
  ·have e:=Kd hu;subst e;cases es with
   |nil=>cases hd
   |cons a as=>
    obtain⟨ep,kl,ee⟩:∃ep kl,a::as=ep++[kl]:=⟨(a::as).dropLast,(a::as).getLast<|by simp,(Jh _).symm⟩
    rw[ee] at h ⊢;have en:jF .aT (ep++[kl]) k=(ep,kl):=by
     show((ep++[kl]).dropLast,(ep++[kl]).getLastD k)=_;simp
    rw[en];exact λx hx=>h x<|QV.mpr<|.inl hx
  ·rw[KL hu];rw[T1 hu] at hd;intro x hx;rcases QV.mp hx with hx | hx
   ·exact h x hx
   ·rw[Qm.mp hx];exact Qsn (h k<|by simp) hd
def Qw6(h:es.length<=n):(fP d es k).1.length<=n+1:=by
 cases hd:cM d es k with
 |some wd=>rw[wM hd];exact RG h
 |none=>
  rw[zL hd];by_cases hu:d.wd = "undo"
  ·have e:=Kd hu;subst e;show es.dropLast.length<=n+1;rw[Uy];omega
  ·rw[KL hu];rw[Qg];show es.length+1<=n+1;omega
def dh.keep(F:Xb->Prop)(x:dh D C H s b l es k)(kp:∀a o,¬F a->H a=some o->H' a=some o)(ns:¬F s)(nb:¬F b)(nl:¬F l)(nt:∀a ys,H a=some (.tup ys)->¬F a):dh D C H' s b l es k:=by
 obtain⟨dx,e⟩:=x.dk;exact⟨⟨dx,kp _ _ ns e⟩,x.bn.keep F kp nb nl nt⟩
def Qw4(h:tM r=some d):B5 r=none:=by
 rcases r with i | ⟨j,n,m⟩
 ·have:∀i:Fin 10,(tM<|.alone i).isNone=true∨(B5<|.alone i).isNone=true:=by decide
  by_cases z:i<10
  ·rcases this ⟨i,z⟩ with e | e
   ·rw[h] at e;cases e
   ·exact Option.isNone_iff_eq_none.mp e
  ·obtain⟨k,rfl⟩:∃k,i=k+10:=⟨i - 10,by omega⟩
   cases h
 ·rfl
def PF(g:oB wd ns):wd.length<=10/\ns.length<=2:=by
 rcases g with⟨rfl,hw⟩ | ⟨x,y,rfl,hw⟩
 ·exact⟨(by
        have:∀z∈(["row", "column", "turn", "rest", "undo"]:List Str),z.length<=10:=by decide
        exact this _ hw),Q6 _⟩
 ·exact⟨(by rcases hw with rfl | rfl<;>decide),Qf _⟩
def TR:∀ns:List Int,aG N0 H (ns.map V.int) (ns.map Qr)
 |[]=>.nil
 |_::ns=>.cons (.int _)<|TR ns
def gf(K:(L2.St->Hp->Prop)->Prop)(h:∀N,K N->t { D with nx:=N } σ H)(k:K<|u D):D_ t u D σ H:=h _ k
def BL(K:(L2.St->Hp->Prop)->Prop)(h:∀N,K N->t1 { D with nx:=t2 { D with nx:=N } } σ H)(k:K<|u D):D_ t1 (D_ t2 u) D σ H:=h _ k
def QAU{t:TS}(K:(L2.St->Hp->Prop)->Prop)(h:∀E:Ends,K E.nx->t E (σ.set i<|some v) H)(k:K D.nx):Yu i v σ H λσ2 H2=>t D σ2 H2:=h D k
end
end Rk
namespace Rk
open L2 _root_.Rd
section
variable{P:QB}{w:Jf}{K:Qa}{mg:Str->Option Xc}{base:Xl}
def qY:Ya ["_law_e", "_law_some", "_law_words"] ["_law_e"] (QL GU):=⟨rfl,rfl,rfl,by decide,rfl,by decide,by decide⟩
def QwR{f c1 c2 c3 c4 c5 c6 c7 c8 c9 Gx Gw Gv Gu Gs Gr Gq Gp Gn Gm:Xb}{fd:Zs}(F:iz K "_law_kind_of" "_law_kind_of" GU f fd)(T:aB mg)(mV:mg "ValueError" = none)
  (m1:mg "NoText" = some (.ref c1))(m2:mg "NoOrder" = some (.ref c2))(m3:mg "NoLines" = some (.ref c3))(m4:mg "TooFew" = some (.ref c4))(m5:mg "NoSize" = some (.ref c5))(m6:mg "TooMany" = some (.ref c6))(m7:mg "NoNumber" = some (.ref c7))(m8:mg "NoStand" = some (.ref c8))(m9:mg "NoCell" = some (.ref c9))(m10:mg "NotSquare" = some (.ref Gx))(m11:mg "NoHits" = some (.ref Gw))(m12:mg "NoCounts" = some (.ref Gv))(m13:mg "NoStairs" = some (.ref Gu))(m14:mg "NotAlike" = some (.ref Gs))(m15:mg "NoParting" = some (.ref Gr))(m16:mg "NoPlace" = some (.ref Gq))(m17:mg "Double" = some (.ref Gp))(m18:mg "NoDeed" = some (.ref Gn))(m19:mg "NoRow" = some (.ref Gm)) :
  Rx.w5 P w K mg base 1 f fd ["_law_e"] (qZ K [c1,c2,c3,c4,c5,c6,c7,c8,c9,Gx,Gw,Gv,Gu,Gs,Gr,Gq,Gp,Gn,Gm]):=by
 refine Rx.okM F qY (λvs H Q E h=>?_) λaj A outer s H vs Q E hr h=>?_
 ·obtain⟨a,C,bs,j,wd,rfl,_⟩:=h;rfl
 ·obtain⟨a,C,bs,j,wd,rfl,ha,hc,pb,eV,FX,hj,hm,hw,k⟩:=h;obtain⟨b1,bs1,rfl,q1,pb1⟩:=JB pb;obtain⟨b2,bs2,rfl,q2,pb2⟩:=JB pb1;obtain⟨b3,bs3,rfl,q3,pb3⟩:=JB pb2;obtain⟨b4,bs4,rfl,q4,pb4⟩:=JB pb3;obtain⟨b5,bs5,rfl,q5,pb5⟩:=JB pb4;obtain⟨b6,bs6,rfl,q6,pb6⟩:=JB pb5;obtain⟨b7,bs7,rfl,q7,pb7⟩:=JB pb6;obtain⟨b8,bs8,rfl,q8,pb8⟩:=JB pb7;obtain⟨b9,bs9,rfl,q9,pb9⟩:=JB pb8;obtain⟨Bd,bs10,rfl,q10,EY⟩:=JB pb9;obtain⟨Bc,bs11,rfl,q11,EW⟩:=JB EY;obtain⟨Bb,bs12,rfl,q12,EV⟩:=JB EW;obtain⟨GC,bs13,rfl,q13,EU⟩:=JB EV;obtain⟨GA,bs14,rfl,q14,ET⟩:=JB EU;obtain⟨Gz,bs15,rfl,q15,ES⟩:=JB ET;obtain⟨Gy,bs16,rfl,EK,EO⟩:=JB ES;obtain⟨OE,bs17,rfl,EJ,EN⟩:=JB EO;obtain⟨OD,bs18,rfl,EI,EM⟩:=JB EN;obtain⟨OC,bs19,rfl,EH,EL⟩:=JB EM;cases QlG EL;refine' ⟨_,Qu (i9 (i:=1) qY.nd rfl (QJ rfl)<|Y2<|vU (x := "_law_e") (ns:=["NoText", "NoOrder", "NoLines", "TooFew"]) (cs:=[c1,c2,c3,c4]) rfl (QJ rfl) (by decide) (by decide) (by rfl) T.isinstance (by decide) (by rfl)<|.cons m1<|.cons m2<|.cons m3<|.cons m4 .nil) ?p1,?rd⟩
  case p1=>
   show aV _ _ _;refine' Qu (i9 (i:=1) qY.nd rfl (QJ rfl)<|YQ wB (pv 1)<|Y2<|vU (x := "_law_e") (ns:=["NoSize", "TooMany", "NoNumber", "NoStand"]) (cs:=[c5,c6,c7,c8]) rfl (QJ rfl) (by decide) (by decide) (by rfl) T.isinstance (by decide) (by rfl)<|.cons m5<|.cons m6<|.cons m7<|.cons m8 .nil) ?_
   show aV _ _ _;refine' Qu (i9 (i:=1) qY.nd rfl (QJ rfl)<|YQ wB (pv 1)<|Y2<|vU (x := "_law_e") (ns:=["NoCell", "NotSquare", "NoHits", "NoCounts"]) (cs:=[c9,Gx,Gw,Gv]) rfl (QJ rfl) (by decide) (by decide) (by rfl) T.isinstance (by decide) (by rfl)<|.cons m9<|.cons m10<|.cons m11<|.cons m12 .nil) ?_
   show aV _ _ _;refine' Qu (i9 (i:=1) qY.nd rfl (QJ rfl)<|YQ wB (pv 1)<|Y2<|vU (x := "_law_e") (ns:=["NoStairs", "NotAlike", "NoParting", "NoPlace"]) (cs:=[Gu,Gs,Gr,Gq]) rfl (QJ rfl) (by decide) (by decide) (by rfl) T.isinstance (by decide) (by rfl)<|.cons m13<|.cons m14<|.cons m15<|.cons m16 .nil) ?_
   show aV _ _ _;refine' Qu (i9 (i:=1) qY.nd rfl (QJ rfl)<|YQ wB (pv 1)<|Y2<|vU (x := "_law_e") (ns:=["Double", "NoDeed", "NoRow"]) (cs:=[Gp,Gn,Gm]) rfl (QJ rfl) (by decide) (by decide) (by rfl) T.isinstance (by decide) (by rfl)<|.cons m17<|.cons m18<|.cons m19 .nil) ?_
   show aV _ _ _;refine' Qu (d_ (nv (JK qQ (i6 JD PySem.F.slot_list_count PySem.F.type_list_count Rx.Qsu (pv 1)<|Qj Bw Qp) Jj<|JE _)<|ua<|o8<|tZ<|Zc Rx.WD (by rfl) T.isinstance L6<|Qj (pv 0)<|Qj (Up (v:=.ty "ValueError") (by rfl) mV QDM rfl) Qp).pt (QP<|JV JR) Zu) ?_
   show aV _ _ _;refine' Qu ?a1 ?_
   case a1=>
    refine' i9 (i:=2) (hs:=?hh) (hf:=?hf) ?hN ?hi ?hx ?he
    case hN=>exact qY.nd
    case hi=>exact rfl
    case hx=>exact QJ rfl
    case hf=>exact QJ rfl
    case hh=>kernel_rfl
    case he=>
     refine' Y2 ?ww
     case ww=>exact Iz (ws:=v_.take 10) (by kernel_rfl)
   show aV _ _ _;refine' Qu ?a2 ?_
   case a2=>
    refine' i9 (i:=2) (hs:=?hh) (hf:=?hf) ?hN ?hi ?hx ?he
    case hN=>exact qY.nd
    case hi=>exact rfl
    case hx=>exact QJ rfl
    case hf=>exact QJ rfl
    case hh=>kernel_rfl
    case he=>
     refine' YQ wB (pv 2) ?ww
     case ww=>
      refine' Y2 ?w2
      case w2=>exact Iz (ws:=v_.drop 10) (by kernel_rfl)
   show aV _ _ _;exact QP<|JV<|fm Yn (pv 2) (i6 JD PySem.F.slot_list_index PySem.F.type_list_index Rx.Qst (pv 1)<|Qj Bw Qp) λ_ _=>rfl
  refine gf (λN=>∀l H',ag H H'->H' l=some (.lst<|([b1,b2,b3,b4]:List Bool).map V.bl)->N [some<|.ref a,some<|.ref l,none] H') (λN kN=>⟨a,C,[b1,b2,b3,b4],rfl,ha,hc,(.cons q1<|.cons q2<|.cons q3<|.cons q4 .nil),by show 4<=1000;decide,λl H1 s n e=>kN l H1 s e⟩) ?_
  intro l H1 s e;refine gf (λN=>∀l H',ag H H'->H' l=some (.lst<|([b1,b2,b3,b4,b5,b6,b7,b8]:List Bool).map V.bl)->N [some<|.ref a,some<|.ref l,none] H') (λN kN=>⟨_,rfl,a,C,[b5,b6,b7,b8],rfl,s _ _ ha,hc,(.cons q5<|.cons q6<|.cons q7<|.cons q8 .nil),by show 4<=1000;decide,λl2 H2 s2 n2 e2=>⟨l,l2,_,_,rfl,rfl,s2 _ _ e,e2,by show 8<=1000;decide,λl3 H3 s3 n3 e3=>kN l3 H3 ((s.trans s2).trans s3) e3⟩⟩) ?_
  clear e s l H1;intro l H1 s e;refine gf (λN=>∀l H',ag H H'->H' l=some (.lst<|([b1,b2,b3,b4,b5,b6,b7,b8,b9,Bd,Bc,Bb]:List Bool).map V.bl)->N [some<|.ref a,some<|.ref l,none] H') (λN kN=>⟨_,rfl,a,C,[b9,Bd,Bc,Bb],rfl,s _ _ ha,hc,(.cons q9<|.cons q10<|.cons q11<|.cons q12 .nil),by show 4<=1000;decide,λl2 H2 s2 n2 e2=>⟨l,l2,_,_,rfl,rfl,s2 _ _ e,e2,by show 12<=1000;decide,λl3 H3 s3 n3 e3=>kN l3 H3 ((s.trans s2).trans s3) e3⟩⟩) ?_
  clear e s l H1;intro l H1 s e;refine gf (λN=>∀l H',ag H H'->H' l=some (.lst<|([b1,b2,b3,b4,b5,b6,b7,b8,b9,Bd,Bc,Bb,GC,GA,Gz,Gy]:List Bool).map V.bl)->N [some<|.ref a,some<|.ref l,none] H') (λN kN=>⟨_,rfl,a,C,[GC,GA,Gz,Gy],rfl,s _ _ ha,hc,(.cons q13<|.cons q14<|.cons q15<|.cons EK .nil),by show 4<=1000;decide,λl2 H2 s2 n2 e2=>⟨l,l2,_,_,rfl,rfl,s2 _ _ e,e2,by show 16<=1000;decide,λl3 H3 s3 n3 e3=>kN l3 H3 ((s.trans s2).trans s3) e3⟩⟩) ?_
  clear e s l H1;intro l H1 s e;refine gf (λN=>∀l H',ag H H'->H' l=some (.lst<|([b1,b2,b3,b4,b5,b6,b7,b8,b9,Bd,Bc,Bb,GC,GA,Gz,Gy,OE,OD,OC]:List Bool).map V.bl)->N [some<|.ref a,some<|.ref l,none] H') (λN kN=>⟨_,rfl,a,C,[OE,OD,OC],rfl,s _ _ ha,hc,(.cons EJ<|.cons EI<|.cons EH .nil),by show 3<=1000;decide,λl2 H2 s2 n2 e2=>⟨l,l2,_,_,rfl,rfl,s2 _ _ e,e2,by show 19<=1000;decide,λl3 H3 s3 n3 e3=>kN l3 H3 ((s.trans s2).trans s3) e3⟩⟩) ?_
  clear e s l H1;intro l H1 s e;refine gf (λN=>N [some<|.ref a,some<|.ref l,none] H1) (λN kN=>?_) ?_
  ·refine⟨_,rfl,.inl ⟨rfl,_,aA.of e⟩,l,_,rfl,rfl,e,rfl,_,rfl,?_⟩;rw[FX];refine QDp rfl ?_
   exact⟨_,rfl,a,C,.ty "ValueError",.type "ValueError",true,rfl,s _ _ ha,hc,(λu r=>r),eV,_,rfl,kN⟩
  refine BL (λN=>∀l2 H',ag H1 H'->H' l2=some (.lst<|v_.map V.str)->N [some<|.ref a,some<|.ref l,some<|.ref l2] H') (λN kN=>?_) ?_
  ·exact⟨by show 10<=1000;decide,λl10 Aj s10 n10 lG=>⟨_,rfl,by show 9<=1000;decide,λl11 H11 Nl n11 lF=>⟨l10,l11,_,_,rfl,rfl,Nl _ _ lG,lF,by show 19<=1000;decide,λl12 H12 eZ n12 lE=>kN l12 H12 ((s10.trans Nl).trans eZ) lE⟩⟩⟩
  intro l2 H2 s2 e2;have e1:=s2 _ _ e;exact⟨_,rfl,_,rfl,.inl ⟨rfl,_,aA.of e1⟩,l,_,j,rfl,rfl,e1,hj,hm,⟨l2,_,_,.str wd,rfl,rfl,aA.of e2,Jc (by rw[Qt,hw];rfl),k H2<|s.trans s2⟩⟩
end
end Rk


namespace L2
section
variable{K:Qa}{x:Str}{f:Xb}{h:Xl}{mg:Str->Option Xc}{P:QB}{w:Jf}{base:Xl}
def ar.al(c:ar P w K mg base CX k x sp)(X:K.In h)(G:h.Ns Xf mg)(e:Qh K Xf x=some (some<|.ref f))(e2:Qh K Xf y=some (some<|.ref f)):ar P w K mg base CX k y sp:=
 let ⟨g,fd,ps,hm,r⟩:=c.ex;⟨g,fd,ps,by rw[uz X G e2,<- hm,uz X G e],r⟩
def ar.at_(c:ar P w K mg base CX k x sp)(X:K.In h)(G:h.Ns Xf mg)(e:Qh K Xf x=some (some<|.ref f))(hk:k<=8:=by decide):∃k gd qs,k<=8/\aI P w K mg base CX k f gd qs sp/\Q7 K (.ref f)=true/\Binds K gd qs []:=by
 obtain⟨g,fd,ps,hm,F,b,kp⟩:=c.ex;rw[uz X G e] at hm;cases hm;exact⟨k,fd,ps,hk,F,kp,b⟩
def ar.yx(c:ar P w K mg base aq k x sp):ar P w K mg base (Rx.aQ P w) k x sp:=let ⟨g,fd,ps,hm,F,r⟩:=c.ex;⟨g,fd,ps,hm,F.ex,r⟩
def ar.imp(c:ar P w K mg base CX k x sp)(hs:∀vs H Q E,Ey vs H Q E->sp vs H Q E):ar P w K mg base CX k x Ey:=let ⟨g,fd,ps,hm,F,r⟩:=c.ex;⟨g,fd,ps,hm,F.imp hs,r⟩
end
end L2
namespace Rk
open L2
structure FnAt (K:Qa) (x:Str) (st:Ze):Prop where
 ex:∃f fd,Qh K Xf x=some (some<|.ref f)/\iz K x x st f fd
structure bZ (K:Qa) (C:Xb) (m q:Str) (st:Ze):Prop where
 ex:∃f fd,iw K C m f/\iz K m q st f fd
structure Am (K:Qa) (x:Str) (C:Xb):Prop where
 a:Qh K Xf x=some (some<|.ref C)
 pg:z5 K C Yl=true
 hd:Dp K C=true
 po:Lu K C=true
 sa:Jr K (.ref C) "__setattr__" = some (some<|.builtin "object.__setattr__")
 ms:Li K C=true
 kc:Q7 K (.ref C)=true
structure pE (K:Qa):Prop where
 isinstance:Qh K Xf "isinstance" = some none
 int:Qh K Xf "int" = some none
 bool:Qh K Xf "bool" = some none
 str:Qh K Xf "str" = some none
 tuple:Qh K Xf "tuple" = some none
 list:Qh K Xf "list" = some none
 all:Qh K Xf "all" = some none
 len:Qh K Xf "len" = some none
 zip:Qh K Xf "zip" = some none
 enumerate:Qh K Xf "enumerate" = some none
 range:Qh K Xf "range" = some none
 max:Qh K Xf "max" = some none
 min:Qh K Xf "min" = some none
 sorted:Qh K Xf "sorted" = some none
 sum:Qh K Xf "sum" = some none
 set:Qh K Xf "set" = some none
 any:Qh K Xf "any" = some none
 reversed:Qh K Xf "reversed" = some none
 divmod:Qh K Xf "divmod" = some none
section
variable{K:Qa}{x m q:Str}{st:Ze}{f C:Xb}{oc kV dc pm cd ct:Xc}{od an:Option Xb}{sl:Array (Option Xc)}{h:Xl}{mg:Str->Option Xc}{P:QB}{w:Jf}{base:Xl}
def QDz(a:Qh K Xf x=some (some<|.ref f))(l:K.lookup f=some ⟨oc,od,.func<|Yp x x (uh st) (ZS st) (QL st) .none kV dc pm an cd ct,sl⟩)(c:zR K cd x=true)(k:Q7 K (.ref f)=true):FnAt K x st:=⟨f,_,a,RE l c k⟩
def QDk(a:Jr K (.ref C) m=some (some<|.ref f))(i:Cr K (.ref f)=true)(l:K.lookup f=some ⟨oc,od,.func<|Yp m q (uh st) (ZS st) (QL st) .none kV dc pm an cd ct,sl⟩)(c:zR K cd q=true)(k:Q7 K (.ref f)=true):bZ K C m q st:=⟨f,_,⟨a,i,k⟩,RE l c k⟩
def FnAt.c(d:FnAt K x st)(X:K.In h)(G:h.Ns Xf mg):az P w K mg base x st:=let ⟨f,fd,a,F⟩:=d.ex;⟨f,fd,uz X G a,F⟩
def bZ.c(d:bZ K C m q st):bX P w K mg base C m q st:=⟨d.ex⟩
def Am.i(d:Am K x C)(X:K.In h)(G:h.Ns Xf mg)(c:aD P w K mg base aq k C "__init__" sp):mh P w K mg base k C x sp:=let ⟨f,fd,ps,M,F,b⟩:=c.ex;⟨f,fd,ps,⟨d.ms,M.at_,M.fn,d.kc⟩,F,b,uz X G d.a⟩
def pE.c(n:pE K)(X:K.In h)(G:h.Ns Xf mg):aB mg:=by
 have z:∀{y:Str},Qh K Xf y=some none->mg y=none:=λe=>UO X G e
 exact⟨z n.1,z n.2,z n.3,z n.4,z n.5,z n.6,z n.7,z n.8,z n.9,z n.10,z n.11,z n.12,z n.13,z n.14,z n.15,z n.16,z n.17,z n.18,z n.19⟩
def A9(j:Nat):List Bool:=Q8 j false++true::Q8 (18 - j) false
def vO(j:Nat)(r1:KY K (.ref R)=some (.type "type"))(r2:zT K R=some dR)(r3:Y9 K R (.type "BaseException")=some true)(qr:Y9 K C (.ref R)=some true)
  (qg:Jr K (.ref C) "__getattribute__" = some (some<|.builtin "BaseException.__getattribute__"))(qh:Jr K (.ref C) "__getattr__" = some none)(qb:Y9 K C (.type "BaseException")=some true)(qc:zT K C=some dC)(qa:Jr K (.ref C) "__class__" = some (some<|.builtin "object.__class__"))
  (u1:UD K (.builtin "object.__class__") "__get__" = some (some<|.builtin "getset_descriptor.__get__"))(u2:Tj K (.builtin "object.__class__")=some true)(qo:Y9 K C (.type "object")=some true)(qv:Zj K (.ref C) (.type "ValueError")=some true)
  (p:Zy (λc b=>Zj K (.ref C) (.ref c)=some b) cs<|A9 j)(hc:(A9 j).countP id=1/\(A9 j)[j]? = some true/\(∀m,m<j->(A9 j)[m]? = some false)/\v_[j]? = some wd):md K cs R C wd:=
 ⟨⟨r1,by rw[r2];rfl,r3,qr⟩,_,j,⟨qg,qh,qb,by rw[qc];rfl,qa,u1,u2,qo⟩,p,qv,hc⟩
end
end Rk
namespace Rk
open L2 Dl
def dB(a0 a1 a2 a3 a4 a5:Xb):Str->Xb:=λs=>if s = "place" then a0 else if s = "double" then a1 else if s = "cell" then a2 else if s = "many" then a3 else if s = "row" then a4 else a5
def QpZ(a0 a1 a2 a3 a4 a5:Xb):dB a0 a1 a2 a3 a4 a5 "place" = a0:=XZ rfl
def QmA(a0 a1 a2 a3 a4 a5:Xb):dB a0 a1 a2 a3 a4 a5 "double" = a1:=(XY<|by decide).trans<|XZ rfl
def Qvf(a0 a1 a2 a3 a4 a5:Xb):dB a0 a1 a2 a3 a4 a5 "cell" = a2:=(XY<|by decide).trans ((XY<|by decide).trans<|XZ rfl)
def Qvd(a0 a1 a2 a3 a4 a5:Xb):dB a0 a1 a2 a3 a4 a5 "many" = a3:=(XY<|by decide).trans ((XY<|by decide).trans<|(XY<|by decide).trans<|XZ rfl)
def QyG(a0 a1 a2 a3 a4 a5:Xb):dB a0 a1 a2 a3 a4 a5 "row" = a4:=(XY<|by decide).trans ((XY<|by decide).trans<|(XY<|by decide).trans<|(XY<|by decide).trans<|XZ rfl)
def Qve(a0 a1 a2 a3 a4 a5:Xb):dB a0 a1 a2 a3 a4 a5 "deed" = a5:=(XY<|by decide).trans ((XY<|by decide).trans<|(XY<|by decide).trans<|(XY<|by decide).trans<|(XY<|by decide))
def QEz{l:Lh}{XP:(Str->Option Xc)->Xl->Prop}{K:Params->Qa}(hn:l.most=some 63)(yj:d.params.defaults=[])
  (hY:∀(w:Jf)(h:Xl),YP w h->(K w.params).In h)
  (F:∀(w:Jf)(mg:Str->Option Xc)(fa:Xb)(h:Xl),(K w.params).In h->h.Ns Xf mg->mg d.name=some (.ref fa) ->
   ∃fd:Zs,(∀(s:Xe)(u:Xc),o7 s fd ⟨[u],[]⟩ [("_law_script",u)])/\∀base:Xl,(K w.params).In base->base.Ns Xf mg->aI l.prog w (K w.params) mg base aq 13 fa fd ["_law_script"] (Ie<|K w.params)) :
  RI q loose XP YP l.row.toRowW d [] (λf vs=>Hu f vs):=
 L2.Qvj hn (by decide) yj ⟨rfl,by decide,by decide,rfl⟩ hY F (λ_ _ a ns hl _ hS=>⟨a,ns,rfl,hS,hl,λ_=>rfl⟩) λ_ _ _ _ _ z=>z
end Rk
open PySem.W



namespace Zt
def wu:Slot "set_iterator" "__next__" "set_iterator.__next__" :=
 .of (owner := "set_iterator") (n := "__next__") (by rw[Il,Lv];kernel_rfl) (by decide) (by decide) (by decide) (by first | exact .inl (by decide) | exact .inr<|by decide) (by rw[zO];kernel_rfl)
def T2:entryFor table "set_iterator.__next__" = some j7.«set_iterator.__next__» := entryFor_of_fast (by kernel_rfl)
def OX:Manifest.owners.lookup (String.ofList ['r', 'o', 't', 'a', 'r', 'e', 't', 'i', '_', 't', 'e', 's'].reverse)=some Manifest.sig_set_iterator:=by kernel_rfl
def S5(a:Xc):argsOk "set_iterator.__next__" ⟨[a],[]⟩:=by
 unfold argsOk;rw[signature?_of (id := "set_iterator.__next__") (n:=['_', '_', 't', 'x', 'e', 'n', '_', '_']) (o:=['r', 'o', 't', 'a', 'r', 'e', 't', 'i', '_', 't', 'e', 's']) (by kernel_rfl) OX];kernel_rfl
def QxE:entryFor table "set.__iter__" = some j7.«frozenset.__iter__» := entryFor_alias (id' := "frozenset.__iter__") (by kernel_rfl) (by first | rfl | decide | (unfold RK;simp +decide [S0])) (by decide) (by kernel_rfl)
def eh(h:Xl)(I:Xb)(first:Xc)(i a n ep:Nat):Prop:=∃o,h.get? I=some o/\o.cls=.type "set_iterator" /\ o.data=.fields #[first,.int i 0,.ref a,.int n 0,.int ep 0]
def eh.typeIs{s:Xe}{I:Xb}{first:Xc}{i a n ep:Nat}(x:eh s.heap I first i a n ep):s.TypeIs (.ref I) "set_iterator" := let ⟨o,h,c,_⟩:=x;⟨o,h,c⟩
section
variable{prog:QB}{w:Jf}{A:JF}{E:Xc->Xe->Prop}{s:Xe}
def Qw3{I a:Xb}{i ep slot nx:Nat}{es:Array (Int×Xc)}{t:SetTable}{x:Xc}{Q:Option Xc->Xe->Prop}(hit:eh s.heap I (.int slot 0) i a es.size ep)(ha:a6 s.heap a es ep t)
  (hN:∀(A:JF)(E:Xc->Xe->Prop)(Q':Option (Xc×Nat)->Xe->Prop),Q' (some (x,nx)) s->Xh (Xg prog w) A (setNext a slot i ep) Q' E s)
  (hQ:∀h',eh h' I (.int nx 0) (i+1) a es.size ep->Yy I s.heap h'->Q (some x) { s with heap:=h' }):Xh (Xg prog w) A (pyNext<|.ref I) Q E s:=by
 obtain⟨o,ho,hc,hd⟩:=id hit;obtain⟨os,fX,hex,bC⟩:=ha.at_;unfold pyNext;refine Xa<|Cf<|DH (name:=Qb "__next__") hit.typeIs wu<|Zk wu hit.typeIs T2 ?_<|S5 _;unfold j7.«set_iterator.__next__»
 wp_walk
 rw[hd];refine wpAny_pure ?_
 dsimp only
 refine Xa<|O7 fX bC ha.ft ?_;rw[XY<|by simp];refine Xa ?_
 refine hN _ _ _ ?_
 dsimp only
 refine Xa (HV ho hd (by simp) ?_);have g1:(s.heap.update I<|Ii λx=>x.setIfInBounds 0<|rawInt ↑nx).get? I=some (Ii (λx=>x.setIfInBounds 0<|rawInt ↑nx) o):=J7 _ ho<|UA<|Dn hd _;have d1:(Ii (λx=>x.setIfInBounds 0<|rawInt ↑nx) o).data=.fields #[.int nx 0,.int i 0,.ref a,.int es.size 0,.int ep 0]:=by rw[Dn hd];simp[rawInt]
 refine Xa (HV g1 d1 (by simp)<|wpAny_pure ⟨x,rfl,wpAny_pure<|hQ _ ?_<|(Yx ..).trans<|Yx ..⟩);exact⟨_,J7 _ g1<|UA<|Dn d1 _,(RH ..).trans<|(RH ..).trans hc,by rw[Dn d1];simp[rawInt]⟩
def QAn{I a:Xb}{i ep slot:Nat}{es:Array (Int×Xc)}{t:SetTable}{Q:Option Xc->Xe->Prop}(hh:A.handled=none)(hit:eh s.heap I (.int slot 0) i a es.size ep)(ha:a6 s.heap a es ep t)
  (hN:∀(A:JF)(E:Xc->Xe->Prop)(Q':Option (Xc×Nat)->Xe->Prop),Q' none s->Xh (Xg prog w) A (setNext a slot i ep) Q' E s)
  (hQ:∀h',Heap.ExtBut I s.heap h'->Q none { s with heap:=h' }):Xh (Xg prog w) A (pyNext<|.ref I) Q E s:=by
 obtain⟨o,ho,hc,hd⟩:=id hit;obtain⟨os,fX,hex,bC⟩:=ha.at_;unfold pyNext;refine Xa<|Cf<|DH (name:=Qb "__next__") hit.typeIs wu<|Zk wu hit.typeIs T2 ?_<|S5 _;unfold j7.«set_iterator.__next__»
 wp_walk
 rw[hd];refine wpAny_pure ?_
 dsimp only
 refine Xa<|O7 fX bC ha.ft ?_;rw[XY<|by simp];refine Xa ?_
 refine hN _ _ _ ?_
 dsimp only
 refine Xa (HV ho hd (by simp) ?_);refine Xa ?_
 simp only[newExc,newTuple];refine Xa (Jt ?_<|by size_fits);refine Xa (m:=firstArgMember _ _) (ZM (a:=Zi) (by first | rfl | (simp only[firstArgMember];rfl)) ?_);refine Jt ?_ (by size_fits)
 simp only[raiseNew];refine Xa<|wpAny_handled ?_
 first | rw[show A.in1.handled=none from hh] | rw[hh]
 refine Xa<|wpAny_pure<|wpAny_throw ?_;refine Xa (wpAny_isInstance (T := "StopIteration") (b:=true) ⟨_,Qo _ rfl,rfl⟩ (by rw[zO];kernel_rfl) ?_);exact wpAny_pure<|hQ _<|((Yx ..).extBut.push _).push _
def Sw{a:Xb}{ep slot given:Nat}{es:Array (Int×Xc)}{t:SetTable}{Q:Option (Xc×Nat)->Xe->Prop}(hb:w.params.followText "set-order" = false)(ha:a6 s.heap a es ep t)(hp:t.plain=true)(hl:t.led=true)
  (h:Q (match es[C8 t.place slot]?,t.place[C8 t.place slot]? with | some (_,x),some j=>some (x,j+1) | _,_=>none) s):Xh (Xg prog w) A (setNext a slot given ep) Q E s:=by
 obtain⟨os,fX,hex,bC⟩:=ha.at_;unfold setNext;refine Xa<|z9 fX bC ha.ft ?_
 dsimp only
 unfold setsByText;refine Xa<|Xa<|ZY<|wpAny_pure ?_;rw[show(Xg prog w).w.params.followText "set-order" = false from hb,XY Qx];split
 ·rename_i vw
  exact X5 (show(!t.plain&&decide (es.size > 1))=true from vw) (by rw[hp];simp)
 ·refine Xa ?_
  show Xh (Xg prog w) A (if(!t.led && !es.isEmpty)=true then unsupported "set:maker-not-led" else pure ()) _ E s;rw[XY (by rw[hl];simp)];exact wpAny_pure<|wpAny_pure h
def U0{a:Xb}{ep slot given:Nat}{es:Array (Int×Xc)}{t:SetTable}{Q:Option (Xc×Nat)->Xe->Prop}(hb:w.params.followText "set-order" = true)(ha:a6 s.heap a es ep t)
  (h:Q (((pickOrder (w.params.setOrder a ep) es)[given]?).map λe=>(e.2,slot)) s):Xh (Xg prog w) A (setNext a slot given ep) Q E s:=by
 obtain⟨os,fX,hex,bC⟩:=ha.at_;unfold setNext;refine Xa<|z9 fX bC ha.ft ?_
 dsimp only
 unfold setsByText;refine Xa<|Xa<|ZY<|wpAny_pure ?_;rw[show(Xg prog w).w.params.followText "set-order" = true from hb,XZ rfl,XY<|by simp];refine Xa ?_
 unfold setWalk;refine Xa<|z9 fX bC ha.ft ?_
 dsimp only
 unfold setsByText;refine Xa<|Xa<|ZY<|wpAny_pure ?_;rw[show(Xg prog w).w.params.followText "set-order" = true from hb,XZ rfl];refine Xa<|ZY<|wpAny_pure ?_;exact wpAny_pure h
def Ws{α:Type}(next:Nat->Nat)(xs:Array α):(pickOrder next xs).toList.Perm xs.toList:=by
 unfold pickOrder;have go:∀(n k:Nat)(left:List α)(out:Array α),left.length=n->(R0 next n k left out).toList.Perm (out.toList++left):=λn=>by
  induction n with
  |zero=>
   intro k left out hl;rw[List.length_eq_zero_iff.mp hl,JW];exact Dc _
  |succ n ih=>
   intro k left out hl;have hi:next k % left.length<left.length:=Nat.mod_lt _ (by omega)
   unfold R0;rw[Qc hi]
   dsimp only
   refine(ih (k+1) _ _ (by rw[List.length_eraseIdx,XZ hi];omega)).trans ?_
   rw[Array.toList_push,Lk];refine List.Perm.append_left _ ?_
   have sp:left=left.take (next k % left.length)++left[next k % left.length]::left.drop (next k % left.length+1):=by rw[<- Wu hi,UM]
   have pm:=(List.perm_middle (a:=left[next k % left.length]) (l₁:=left.take<|next k % left.length) (l₂:=left.drop<|next k % left.length+1)).symm;rw[<- sp,<- List.eraseIdx_eq_take_drop_succ] at pm;exact pm
 have:=go xs.size 0 xs.toList #[] (by simp)
 simpa using this
def QAD{a:Xb}{ep:Nat}{es:Array (Int×Xc)}{t:SetTable}{Q:Xc->Xe->Prop}(ha:a6 s.heap a es ep t)(hp:t.plain=true)
  (hQ:Q (.ref s.heap.objs.size) { s with heap:=s.heap.push { cls:=.type "set_iterator",data:=.fields #[.int 0 0,.int 0 0,.ref a,.int es.size 0,.int ep 0] } }):Xh (Xg prog w) A (pyIter<|.ref a) Q E s:=by
 obtain⟨os,fX,hex,bC⟩:=ha.at_;have hT:s.TypeIs (.ref a) "set" := ⟨os,fX,hex.1⟩;refine QB4 hT WI<|Zk WI hT QxE ?_<|PySem.F.args_set_iter_1 _;unfold j7.«frozenset.__iter__»
 wp_walk
 have nf:¬(t.place.size != es.size||decide (t.fill > t.mask))=true:=by
  have hf:=ha.ft;simp only[SetTable.fits,Jp,X7,X4] at hf;simp[hf.1,Nat.not_lt.mpr hf.2]
 rw[bC]
 dsimp only
 rw[XY nf];refine wpAny_pure<|wpAny_pure<|wpAny_pure ?_;refine Xa ?_
 unfold setDrawn;refine Xa<|z9 fX bC ha.ft ?_
 dsimp only
 unfold setsByText;refine Xa<|Xa<|ZY<|wpAny_pure ?_;refine wpAny_pure ?_
 split
 ·rename_i vw
  have vw:(!(w.params.followText "set-order")&&(!t.plain&&decide (es.size > 1)))=true:=vw;rw[hp] at vw;simp at vw
 ·refine Xa<|wpAny_pure ?_;refine Xa<|wpAny_setEpoch_of fX bC ha.ft ?_;exact Xa<|Jt<|wpAny_pure ⟨_,rfl, "set_iterator",_,⟨_,Qo _ rfl,rfl⟩,wu.lookup,hQ⟩
def a6.at'{h h':Xl}{a:Xb}{es:Array (Int×Xc)}{ep:Nat}{t:SetTable}(x:a6 h a es ep t)(k:∀o,h.get? a=some o->h'.get? a=some o):a6 h' a es ep t:=let ⟨o,h1,h2⟩:=x.at_;⟨⟨o,k o h1,h2⟩,x.ft⟩
def eh.at'{h h':Xl}{I:Xb}{first:Xc}{i a n ep:Nat}(x:eh h I first i a n ep)(k:∀o,h.get? I=some o->h'.get? I=some o):eh h' I first i a n ep:=let ⟨o,h1,h2⟩:=x;⟨o,k o h1,h2⟩
end
structure Way (prog:QB) (w:Jf) (a:Xb) (es:Array (Int×Xc)) (ep:Nat) (t:SetTable) (so:Nat->Nat) (vs:Array (Int×Xc)):Prop where
 pm:vs.toList.Perm es.toList
 s0:so 0=0
 item:∀(s:Xe)(A:JF)(E:Xc->Xe->Prop)(Q:Option (Xc×Nat)->Xe->Prop)(i:Nat)(e:Int×Xc),a6 s.heap a es ep t->vs[i]? = some e->Q (some (e.2,so<|i+1)) s->Xh (Xg prog w) A (setNext a (so i) i ep) Q E s
 fin:∀(s:Xe)(A:JF)(E:Xc->Xe->Prop)(Q:Option (Xc×Nat)->Xe->Prop),a6 s.heap a es ep t->Q none s->Xh (Xg prog w) A (setNext a (so es.size) es.size ep) Q E s
def Way.walks{prog:QB}{w:Jf}{A:JF}(hh:A.handled=none){a:Xb}{es:Array (Int×Xc)}{ep:Nat}{t:SetTable}{so:Nat->Nat}{vs:Array (Int×Xc)}(W:Way prog w a es ep t so vs)(I:Xb)(cO:a≠I)(self:∀(s:Xe)(Q:Xc->Xe->Prop)(E:Xc->Xe->Prop)(i:Nat),eh s.heap I (.int (so i) 0) i a es.size ep->Q (.ref I) s->Xh (Xg prog w) A (pyIter<|.ref I) Q E s) :
  Walks prog w A I [I,a] [I] es.size (λi v=>(vs[i]?).map (·.2)=some v) (λi h=>eh h I (.int (so i) 0) i a es.size ep/\a6 h a es ep t) where
 sub:=λb hb=>by simp at hb;simp[hb]
 frame:=λ_ _ _ st hk=>⟨st.1.at' λo e=>hk I (by simp) o e,st.2.at' λo e=>hk a (by simp) o e⟩
 item:=λi s Q E hi st hQ=>by
  have hl:vs.size=es.size:=by rw[<- Q5,W.pm.length_eq,Q5]
  have hv:vs[i]? = some vs[i]:=by simp[hl,hi]
  refine Qw3 st.1 st.2 (x:=vs[i].2) (nx:=so<|i+1) (λA E Q' q=>W.item s A E Q' i _ st.2 hv q) λh' FP vm=>?_
  refine hQ _ h' s.toks (by rw[hv];rfl) ⟨FP,st.2.at' λo e=>vm.extBut a o (λz=>cO z) e⟩ λb o hb e=>vm.extBut b o (λz=>hb<|by simp[z]) e
 done:=λs Q E st hQ=>QAn hh st.1 st.2 (λA E Q' q=>W.fin s A E Q' st.2 q) λh' he'=>hQ h' s.toks λb o hb e=>he' b o (λz=>hb<|by simp[z]) e
 self:=λi s Q E st hQ=>self s Q E i st.1 hQ
def Qp2{prog:QB}{w:Jf}(hb:w.params.followText "set-order" = true)(a:Xb)(es:Array (Int×Xc))(ep:Nat)(t:SetTable):Way prog w a es ep t (λ_=>0) (pickOrder (w.params.setOrder a ep) es) where
 pm:=Ws _ _
 s0:=rfl
 item:=λs A E Q i e ha hv q=>U0 hb ha (by rw[hv];exact q)
 fin:=λs A E Q ha q=>U0 hb ha (by
  have hl:(pickOrder (w.params.setOrder a ep) es).size=es.size:=by rw[<- Q5,(Ws _ _).length_eq,Q5]
  rw[ZK<|by omega];exact q)
def Qvi{prog:QB}{w:Jf}(hb:w.params.followText "set-order" = false)(a:Xb)(es:Array (Int×Xc))(ep:Nat)(t:SetTable)(hp:t.plain=true)(hl:t.led=true)(hz:t.place.size=es.size)(so:Nat->Nat)(s0:so 0=0)(hs:∀i,i<t.place.size->so (i+1)=t.place.getD i 0+1)(yn:∀i,i<=t.place.size->C8 t.place (so i)=i):Way prog w a es ep t so es where
 pm:=Dc _
 s0:=s0
 item:=λs A E Q i e ha hv q=>Sw hb ha hp hl (by
  have hi:i<es.size:=by
   by_cases z:i<es.size
   ·exact z
   ·rw[ZK<|by omega] at hv;cases hv
  rw[yn i<|by omega,hv,show t.place[i]? = some (t.place.getD i 0) by simp[Array.getD,show i<t.place.size by omega]]
  dsimp only
  rw[<- hs i (by omega)];exact q)
 fin:=λs A E Q ha q=>Sw hb ha hp hl (by
  rw[yn es.size<|by omega,ZK<|Qf _];exact q)
end Zt

namespace Zt
def pz(m v:Nat):Nat:=((Sm m).filter (· < v)).length
def Qvn:∀led:Bool,tb 0 led=SetTable.fresh 0 0 led:=by decide
def QyP:∀m:Fin 64,∀v:Fin 6,∀led:Bool,m.val.testBit v.val=false->(tb m led).freeSlot (v.val:Int)=some (v.val,false):=by decide
def QCu:∀m:Fin 64,∀v:Fin 6,∀led:Bool,m.val.testBit v.val=false->(tb m led).put v.val=(tp m v led,pz m v):=by decide
def HY:∀m:Fin 64,∀led:Bool,(tb m led).fits (Sm m).length=true:=by decide
def P4:∀m:Fin 64,∀v:Fin 6,∀led:Bool,m.val.testBit v.val=false->(tp m v led).fits ((Sm m).length+1)=true:=by decide
def BB:∀m:Fin 64,∀v:Fin 6,m.val.testBit v.val=false->Sm (m ||| 2^v.val)=(Sm m).take (pz m v)++v.val::(Sm m).drop (pz m v):=by decide
def QyO:∀m:Fin 64,∀v:Fin 6,∀led:Bool,m.val.testBit v.val=false->(tp m v led).tooFull=decide ((Sm m).length=4):=by decide
def QyN:∀m:Fin 64,∀v:Fin 6,∀led:Bool,m.val.testBit v.val=false->(Sm m).length≠4->tp m v led=tb (m ||| 2^v.val) led:=by decide
def Qvm:∀m:Fin 64,∀v:Fin 6,∀led:Bool,m.val.testBit v.val=false->(Sm m).length=4->(tp m v led).relaid ((Sm<|m ||| 2^v.val).map λ(x:Nat)=>(x:Int)).toArray (Lr 5)=some (tb (m ||| 2^v.val) led,#[0,1,2,3,4]):=by decide
def QCx:coversAll #[0,1,2,3,4] 5=true:=by decide
def so(m i:Nat):Nat:=match i with
 |0=>0
 |i+1=>(Sm m).toArray.getD i 0+1
def Qvo:∀m:Fin 64,∀i:Fin 7,i.val<=(Sm m).length->C8 (Sm m).toArray (so m i)=i:=by decide
def QCv:∀m:Fin 64,∀v:Fin 6,decide (v.val∈Sm m)=m.val.testBit v.val:=by decide
def QD0:∀m:Fin 64,∀v:Fin 6,m.val ||| 2^v.val<64:=by decide
def QCw:∀m:Fin 64,∀v:Fin 6,m.val.testBit v.val=true->m.val ||| 2^v.val=m:=by decide
def tJ:∀m:Fin 64,(Sm m).length<=6:=by decide
def QDR{m x:Nat}(h:x∈Sm m):x<6:=Jw.mp (Q2.mp h).1
def XU:∀v:Fin 6,hashInt (v.val:Int)=(v.val:Int):=by decide
def cN.mem{es:Array (Int×Xc)}{S:List Nat}(h:cN es S){e:Int×Xc}(he:e∈es.toList):∃v∈S,∃tk,e=((v:Int),.int v tk):=by
 obtain⟨cq,hl,e'⟩:=h;rw[e'] at he;exact Qvb he
def cN.hashes{es:Array (Int×Xc)}{S:List Nat}(h:cN es S):es.map (·.1)=(S.map λ(x:Nat)=>(x:Int)).toArray:=by
 obtain⟨cq,hl,e⟩:=h;apply C7.mp
 rw[Lf,e,Lz];have:∀(S:List Nat)(cq:List Tok),cq.length=S.length->(Cm (λ(v:Nat)(tk:Tok)=>((v:Int),nR (v:Int) tk)) S cq).map (·.1)=S.map λ(x:Nat)=>(x:Int):=λS=>by
  induction S with
  |nil=>intro cq _;cases cq<;>rfl
  |cons x S ih=>
   intro cq hl;cases cq with
   |nil=>cases hl
   |cons t cq=>
    show(x:Int)::_=(x:Int)::_;rw[ih cq<|YO hl]
 exact this S cq hl
def cN.elems{prog:QB}{w:Jf}{es:Array (Int×Xc)}{m:Nat}(h:cN es<|Sm m):ElemsOf (intKind prog w) es.toList:=λe he=>by
 obtain⟨v,hv,tk,rfl⟩:=h.mem he;exact⟨⟨(v:Int),Bx _ _ _ _,(XU ⟨v,QDR hv⟩).symm⟩,rfl⟩
structure jB (h:Xl) (a:Xb) (m:Nat) (led:Bool):Prop where
 ex:∃es ep,a6 h a es ep (tb m led)/\cN es (Sm m)
def jB.at'{h h':Xl}{a:Xb}{m:Nat}{led:Bool}(x:jB h a m led)(k:∀o,h.get? a=some o->h'.get? a=some o):jB h' a m led:=by
 obtain⟨es,ep,sa,eo⟩:=x.ex;exact⟨es,ep,sa.at' k,eo⟩
def a6.store{h:Xl}{a:Xb}{es es':Array (Int×Xc)}{ep:Nat}{t t':SetTable}(x:a6 h a es ep t)(hf:t'.fits es'.size=true):a6 (h.update a<|Hm es' t') a es' (ep+1) t':=by
 obtain⟨o,ho,hex,hd⟩:=x.at_;have hg:=J7 (Hm es' t') ho (by rw[putSet_of es' t' hd];rfl);rw[putSet_of es' t' hd] at hg;exact⟨⟨_,hg,hex,rfl⟩,hf⟩
section
variable{prog:QB}{w:Jf}{A:JF}{E:Xc->Xe->Prop}{s:Xe}
def Qpn{a:Xb}{m v:Nat}{led:Bool}{tk:Tok}{Q:Bool->Xe->Prop}(hm:m<64)(hv:v<6)(x:jB s.heap a m led)
  (h:∀h' b,Yy a s.heap h'->jB h' a (m ||| 2^v) led->Q b { s with heap:=h' }):Xh (Xg prog w) A (setAddHashed a (.int (v:Int) tk)<|hashInt (v:Int)) Q E s:=by
 obtain⟨es,ep,sa,eo⟩:=x.ex;obtain⟨o,ho,hex,hd⟩:=sa.at_;have sz:=eo.size;have l6:=tJ ⟨m,hm⟩;have N3:ElemsOf (intKind prog w) es.toList:=eo.elems;have hb:es.size<scanBound:=by unfold scanBound;have:(Sm m).length<=6:=l6;omega
 unfold setAddHashed setAddHashedIn;refine Jx<|Xa<|z9 ho hd sa.ft ?_
 dsimp only
 rw[byScan_of (knd:=intKind prog w) (x:=.int (v:Int) tk) rfl hb N3,XZ rfl];unfold setAddByScan;refine Xa<|Xa<|wpAny_rule<|Xa<|wpAny_setScan_of (knd:=intKind prog w) (k:=(v:Int)) (Bx _ _ _ _) ho hd sa.ft N3 ?_;have tm:decide (v∈Sm m)=m.testBit v:=QCv ⟨m,hm⟩ ⟨v,hv⟩;cases hr:List.findIdx? (λe=>(intKind prog w).is (v:Int) e.2) es.toList with
 |some j=>
  obtain⟨hj,NX,_⟩:=QeB.mp hr;obtain⟨u,hu,MX,eu⟩:=eo.mem<|Jz hj;rw[eu] at NX;have e2:u=v:=by
   have:=(intKind prog w).inj (.int (u:Int) MX) (v:Int) (u:Int) NX<|Bx _ _ _ _;omega
  subst e2;have tb1:m.testBit u=true:=by rw[<- tm];exact X1 hu
  have e3:m ||| 2^u=m:=QCw ⟨m,hm⟩ ⟨u,hv⟩ tb1
  dsimp only
  refine wpAny_pure<|wpAny_pure ?_;have e:s={ s with heap:=s.heap }:=by cases s;rfl
  rw[e];exact h s.heap false (Wt a s.heap) (by rw[e3];exact⟨es,ep,sa,eo⟩)
 |none=>
  have nb:m.testBit v=false:=by
   rw[<- tm];refine X0 λhu=>?_
   obtain⟨MX,ht⟩:=eo.has hu;have:=Wv.mp hr _ ht;rw[Bx] at this;cases this
  have lay:layNew (tb m led) es (hashInt (v:Int)) (.int (v:Int) tk)=(Jy es (pz m v) ((v:Int),.int (v:Int) tk),tp m v led,false,false):=by
   have f1:(tb m led).freeSlot (v:Int)=some (v,false):=QyP ⟨m,hm⟩ ⟨v,hv⟩ led nb;have f2:(tb m led).put v=(tp m v led,pz m v):=QCu ⟨m,hm⟩ ⟨v,hv⟩ led nb;have f3:(tp m v led).fits ((Sm m).length+1)=true:=P4 ⟨m,hm⟩ ⟨v,hv⟩ led nb;have ei:=(eo.ins (pz m v) v tk).size;have ei:(Jy es (pz m v) ((v:Int),.int (v:Int) tk)).size=(Sm m).length+1:=by rw[ei,<- BB ⟨m,hm⟩ ⟨v,hv⟩ nb,BB ⟨m,hm⟩ ⟨v,hv⟩ nb];simp;omega
   unfold layNew;rw[XU ⟨v,hv⟩];rw[show((⟨v,hv⟩:Fin 6).val:Int)=(v:Int) from rfl,f1]
   dsimp only
   rw[f2]
   dsimp only
   unfold SetTable.orStandIn;rw[ei,f3];rfl
  have oE:=eo.ins (pz m v) v tk;rw[<- BB ⟨m,hm⟩ ⟨v,hv⟩ nb] at oE;have oE:cN (Jy es (pz m v) ((v:Int),.int (v:Int) tk)) (Sm<|m ||| 2^v):=oE;have s1:(Jy es (pz m v) ((v:Int),.int (v:Int) tk)).size=(Sm m).length+1:=by
   rw[oE.size,show Sm (m ||| 2^v)=_ from BB ⟨m,hm⟩ ⟨v,hv⟩ nb];simp;omega
  dsimp only
  rw[lay]
  dsimp only
  refine Xa<|ZM (a:=()) rfl ?_;rw[XZ<|show(tp m v led).plain=true from rfl,hashByValue_scannable 8 (x:=.int (v:Int) tk) rfl];refine Xa<|wpAny_pure ?_;have pk:plainKind (.int (v:Int) tk)=true:=rfl;simp only[pk,if_true];have Fp:m ||| 2^v<64:=QD0 ⟨m,hm⟩ ⟨v,hv⟩;have f3:(tp m v led).fits (Jy es (pz m v) ((v:Int),.int (v:Int) tk)).size=true:=by rw[s1];exact P4 ⟨m,hm⟩ ⟨v,hv⟩ led nb
  have EC:=sa.store (es':=Jy es (pz m v) ((v:Int),.int (v:Int) tk)) (t':=tp m v led) f3;have EB:=Yx s.heap a<|Hm (Jy es (pz m v) ((v:Int),.int (v:Int) tk))<|tp m v led;refine Xa (QB2 ho hd ?_ (by rw[s1];show _<=2^24;have:(Sm m).length<=6:=l6;omega));have tf:(tp m v led).tooFull=decide ((Sm m).length=4):=QyO ⟨m,hm⟩ ⟨v,hv⟩ led nb;rw[tf];by_cases z:(Sm m).length=4
  ·rw[X1 z,XZ<|show(!false&&true)=true from rfl];have rl:relayAll (tp m v led) (Jy es (pz m v) ((v:Int),.int (v:Int) tk)) (Lr (Jy es (pz m v) ((v:Int),.int (v:Int) tk)).size)=(Jy es (pz m v) ((v:Int),.int (v:Int) tk),tb (m ||| 2^v) led,false):=by
    rw[s1,z];have s5:(Jy es (pz m v) ((v:Int),.int (v:Int) tk)).size=5:=by rw[s1,z]
    have f4:(tp m v led).relaid ((Sm<|m ||| 2^v).map λ(x:Nat)=>(x:Int)).toArray (Lr 5)=some (tb (m ||| 2^v) led,#[0,1,2,3,4]):=Qvm ⟨m,hm⟩ ⟨v,hv⟩ led nb z;have f5:(tb (m ||| 2^v) led).fits 5=true:=by
     have:=HY ⟨m ||| 2^v,Fp⟩ led;rw[show(Sm (⟨m ||| 2^v,Fp⟩:Fin 64).val).length=5 by show(Sm<|m ||| 2^v).length=5;rw[<- oE.size,s5]] at this;exact this
    unfold relayAll;rw[oE.hashes,show(4:Nat)+1=5 from rfl,f4]
    dsimp only
    generalize Jy es (pz m v) ((v:Int),.int (v:Int) tk)=X at s5;have ex:(#[0,1,2,3,4]:Array Nat).filterMap (X[·]?)=X:=by
     have q:=filterMap_getElem?_range X
     rw[s5] at q;apply C7.mp
     rw[Array.toList_filterMap];exact q
    rw[ex,s5,QCx,f5];rfl
   rw[rl]
   dsimp only
   refine Xa<|ZM (a:=()) rfl ?_;obtain⟨o1,vo,hex1,hd1⟩:=EC.at_;refine Xa (QB2 vo hd1 ?_ (by rw[s1];show _<=2^24;omega));refine wpAny_pure ?_
   dsimp only
   refine wpAny_pure (h _ _ (EB.trans<|Yx _ a _) ⟨_,_,EC.store (by rw[oE.size];exact HY ⟨m ||| 2^v,Fp⟩ led),oE⟩)
  ·rw[X0 z,XY<|show ¬(!false&&false)=true by decide];refine wpAny_pure ?_
   dsimp only
   have tn:tp m v led=tb (m ||| 2^v) led:=QyN ⟨m,hm⟩ ⟨v,hv⟩ led nb z;have Nd:=EC;rw[tn] at Nd;rw[tn] at EB ⊢;exact wpAny_pure<|h _ _ EB ⟨_,_,Nd,oE⟩
end
end Zt

namespace Zt
section
variable{prog:QB}{w:Jf}{A:JF}{E:Xc->Xe->Prop}{s:Xe}
def aN(w:Jf):Bool := !w.params.followText "set-order"
end
end Zt

namespace Zt
def UZ:Slot "set_iterator" "__iter__" "set_iterator.__iter__" :=
 .of (owner := "set_iterator") (n := "__iter__") (by rw[Il,Lv];kernel_rfl) (by decide) (by decide) (by decide) (by first | exact .inl (by decide) | exact .inr<|by decide) (by rw[zO];kernel_rfl)
def QDD:entryFor table "set_iterator.__iter__" = some j7.«dict_keyiterator.__iter__» := entryFor_alias (id' := "dict_keyiterator.__iter__") (by kernel_rfl) (by first | rfl | decide | (unfold RK;simp +decide [S0])) (by decide) (by kernel_rfl)
def QDO(a:Xc):argsOk "set_iterator.__iter__" ⟨[a],[]⟩:=by
 unfold argsOk;rw[signature?_of (id := "set_iterator.__iter__") (n:=['_', '_', 'r', 'e', 't', 'i', '_', '_']) (o:=['r', 'o', 't', 'a', 'r', 'e', 't', 'i', '_', 't', 'e', 's']) (by kernel_rfl) OX];kernel_rfl
def Qxl:typeLookup (.type "set") "__len__" = pure (some<|.builtin "set.__len__"):=by rw[Il,Lv];kernel_rfl
section
variable{prog:QB}{w:Jf}{A:JF}{E:Xc->Xe->Prop}{s:Xe}
def Qvy{I a:Xb}{first:Xc}{i n ep:Nat}{Q:Xc->Xe->Prop}(hit:eh s.heap I first i a n ep)(h:Q (.ref I) s):Xh (Xg prog w) A (pyIter<|.ref I) Q E s:=by
 refine QB4 hit.typeIs UZ<|Zk UZ hit.typeIs QDD ?_<|QDO _;show Xh _ _ (ret<|.ref I) _ _ s;exact wpAny_pure ⟨_,rfl, "set_iterator",_,hit.typeIs,wu.lookup,h⟩
def QjM{a:Xb}{es vs:Array (Int×Xc)}{ep:Nat}{t:SetTable}{so:Nat->Nat}{Q:List Xc->Xe->Prop}(hh:A.handled=none)(W:Way prog w a es ep t so vs)(ha:a6 s.heap a es ep t)(hp:t.plain=true)(hn:es.size<=Xj)
  (hQ:∀(h':Xl)(tk:Nat),(∀b o,s.heap.get? b=some o->h'.get? b=some o)->Q (vs.toList.map (·.2)) { s with heap:=h',toks:=tk }):Xh (Xg prog w) A (collect<|.ref a) Q E s:=by
 have df:a<s.heap.objs.size:=let ⟨o,ho,_⟩:=ha.at_;Ql ho
 unfold collect;refine Xa<|wpAny_runValue<|Yf F.entry_proto_collect ?_;rw[ZW F.plain_proto_collect _];show Xh _ A.in1 (newList [] >>= λl=>again<|.builtin "list.__iadd__" ⟨[l,.ref a],[]⟩) _ _ s;refine Xa<|Jt<|wpAny_pure ⟨uD Pm _,Yf F.entry_list_iadd ?_⟩;rw[ZW Pm _];generalize hH:s.heap.push { cls:=.type "list",data:=.seq ([]:List Xc).toArray }=H;have Oa:H.objs.size=s.heap.objs.size+1:=by rw[<- hH,Ym]
 have keep:∀b o,s.heap.get? b=some o->H.get? b=some o:=λb o e=>hH ▸ Qe _ e
 have hS:H.get? s.heap.objs.size=some { cls:=.type "list",data:=.seq ([]:List Xc).toArray }:=hH ▸ Qo _ rfl;have F3:a6 H a es ep t:=ha.at' λo e=>keep a o e
 have hT:Pd { s with heap:=H } (.ref a) "set" := let ⟨o,ho,hx,_⟩:=F3.at_;⟨o,ho,hx.1⟩
 show Xh _ A.in1 (Qeg (.ref s.heap.objs.size) (.ref a)<|.ref s.heap.objs.size) _ _ { s with heap:=H };unfold Qeg;refine Xa<|zq hT ?_;have h1:QeW (.ref s.heap.objs.size) (.ref a)=false:=by simp[QeW,wO df]
 have h2:(uv "set" == uv "list")=false:=by decide
 have h3:(uv "set" == uv "tuple")=false:=by decide
 simp only[h1,h2,h3,Bool.or_false,zZ,if_false];refine Xa<|QAD F3 hp ?_;generalize Ob:Heap.push H { cls:=.type "set_iterator",data:=.fields #[.int 0 0,.int 0 0,.ref a,.int es.size 0,.int ep 0] }=H2;have jo:∀b o,H.get? b=some o->H2.get? b=some o:=λb o e=>Ob ▸ Qe _ e
 have F6:Pd { s with heap:=H2 } (.ref a) "set" := let ⟨o,ho,hc⟩:=hT;⟨o,jo a o ho,hc⟩
 have hI:eh H2 H.objs.size (.int (so 0) 0) 0 a es.size ep:=⟨_,Ob ▸ Qo _ rfl,rfl,by rw[W.s0];rfl⟩;refine Xa<|Jx ?_;show Xh _ A.in1 _ _ _ { s with heap:=H2 };unfold Builtin.List.listLengthHint;refine Xa<|Im F6 Qxl ?_
 wp_delta
 refine Xa (wpAny_isInstance (b:=true) F6 (by rw[zO];kernel_rfl) ?_);show Xh _ A.in1 (typeOf (JM a) >>= _) _ _ _;refine Xa<|zq F6<|wpAny_pure ?_;show Xh _ A.in1 (rule "list.extend.makes-room" >>= λ_=>Builtin.List.listTouch (.ref s.heap.objs.size) >>= λ_=>again<|.builtin "list.extend.loop" ⟨[.ref s.heap.objs.size,.ref H.objs.size,.ref s.heap.objs.size],[]⟩) _ _ _;refine Xa<|wpAny_rule<|Xa ?_;show Xh _ A.in1 (updateSeq s.heap.objs.size (·.push .none) >>= λ_=>updateSeq s.heap.objs.size (·.pop)) _ _ _;have N':=jo _ _ hS;refine Xa<|zV N' rfl ?_;have N9:=J7 (ZO (·.push Zi)) N' rfl;refine zV N9 rfl ?_
 have N8:=J7 (ZO (·.pop)) N9 rfl;generalize hH3:(H2.update s.heap.objs.size (ZO (·.push Zi))).update s.heap.objs.size (ZO (·.pop))=H3 at N8 ⊢;have EZ:∀b o,b≠s.heap.objs.size->H2.get? b=some o->H3.get? b=some o:=λb o hb e=>hH3 ▸ (Zh _ _<|ir hb).trans ((Zh _ _<|ir hb).trans e)
 have hIS:H.objs.size≠s.heap.objs.size:=by omega
 have cO:a≠H.objs.size:=by rw[Oa];exact Qy<|YE df
 have hSf:s.heap.objs.size∉[H.objs.size,a]:=by simp only[Qv,Jo,or_false,not_or];exact⟨by omega,wO df⟩
 have WW:=(Way.walks (A:=A.in1) hh W H.objs.size cO λs Q E i st q=>Qvy st q).toS;refine wpAny_pure ⟨uD F.plain_extend_loop _,codeAny_extend_loopS WW hn _ hSf _ es.size 0 { s with heap:=H3 } _ _ rfl (Q6 _) ⟨hI.at' λo e=>EZ _ o hIS e,F3.at' λo e=>EZ a o (Qy df)<|jo a o e⟩ N8 (ItemsOf.nil _) λs' oJ c' hm hS' yp=>?_⟩;show Xh _ A (load s.heap.objs.size >>= _) _ _ s';refine Xa<|wpAny_load hS'<|wpAny_pure ?_;have hl:vs.size=es.size:=by rw[<- Q5,W.pm.length_eq,Q5]
 have he:oJ.toList=vs.toList.map (·.2):=by
  apply z6
  intro j;rw[Qt,Dz,Dz];by_cases z:j<oJ.size
  ·have:=yp.2 j oJ[j] (by simp[z]);rw[this];simp[z]
  ·rw[ZK<|by omega,ZK (by have:=yp.1;omega)];rfl
 show Q oJ.toList s';rw[he];have es':s'={ s with heap:=s'.heap,toks:=s'.toks }:=by
  obtain⟨qf,g',d',tk',Nw⟩:=s';have e1:=hm.gens;have e2:=hm.drawn;have e3:=hm.os;simp only at e1 e2 e3;rw[e1,e2,e3]
 rw[es'];refine hQ _ _ λb o e=>?_
 have hb:=Ql e;refine hm.heap b o ?_<|EZ b o (Qy hb)<|jo b o<|keep b o e
 simp only[Qv,Jo,or_false,not_or];exact⟨Qy hb,by rw[Oa];exact Qy<|YE hb⟩
end
end Zt

namespace L2
section
variable{X:Cx}

variable{a b:JO}{ta tb:TE}{pos:Pos}
def PC(X:Cx)(op:CmpOp)(a b:JO)(t:TE):Prop:=
 ∀(XI:List (Xb×Xp))(s:Xe)(σ:St)(H:Hp)(Q:VK),Inv X XI σ H s->t σ H Q ->
  Xh (Xg X.prog X.w) X.A (eval a X.env) (λv s₁=>Xh (Xg X.prog X.w) X.A (eval b X.env) (λu s₂=>Xh (Xg X.prog X.w) X.A (Xm op v u) (EP X XI σ Q) X.xe s₂) X.xe s₁) X.xe s
def QzA{op:CmpOp}{t:TE}(h:PC X op a b t)(h1:behindInMarks op b=false:=by first | exact xF _ (by decide) (by decide) | rfl):PT X (.Compare a [op] [b] pos) (tB t):=by
 intro XI s σ H Q I hw;refine P9 (ax (h XI s σ H _ I hw) λv s1 h1=>ax h1 λu s2 h2=>ax h2 λc s3 ⟨x,H1,I1,r1,q1⟩=>?_) h1;obtain⟨d,rfl,q⟩:=q1;cases r1;exact JT ⟨H1,I1,q⟩
variable{tA xi:TT}{rest:List JO}
end
end L2

namespace L2

def ao.in1{k:Nat}{A:JF}(r:ao (k+1) A):ao k A.in1:=
 ⟨r.hd,by have:=r.dp;show A.depth+3*k+5<_;omega,by have:=r.un;show A.units+1+16*k+200<_;omega,r.gd⟩
def dE.in1{P:QB}{w:Jf}{K:Qa}{mg:Str->Option Xc}{base:Xl}{A:JF}{outer:List Env}{s:Xe}{H:Hp}(e:dE P w K mg base A outer s H) :
  dE P w K mg base A.in1 outer s H:=⟨e.frames,e.mod,e.bs,e.jX,e.cf,e.lu,e.au,e.bare⟩

end L2

namespace HT

def Qrq(A:JF)(s:Xe)(a:Int)(t:Tok)(c:Int)(u:Tok)(prog:QB)(w:Jf)(E:Xc->Xe->Prop)(Q:Xc->Xe->Prop)(h:Q (.bool<|decide (a<c)) s) :
  Xh (Xg prog w) A (richCompare .Lt (.int a t)<|.int c u) Q E s:=
 (PyProof.Rows.lt_int h:Xh (Xg prog w) A (Xm .Lt (.int a t)<|.int c u) Q E s)

end HT

namespace L2

section
variable{X:Cx}{a b:JO}{ta tb:TE}{pos:Pos}
def LV:aF X (.builtin "len") (λxs H Q=>∃z,xs=[.str z]/\z.length<=Xj/\Q (.int z.length) H):=by
 intro XI s σ H xs us Q I r h;obtain⟨z,rfl,hz,q⟩:=h;obtain⟨u,rfl,t,rfl⟩:=vals1 r;have hn:=vP;exact len_str (by omega) ⟨.int z.length,H,I.tok _,⟨_,rfl⟩,q⟩
variable{o e:JO}{es:List JO}{to:TE}{t:TA}{name:Str}{apos XJ:Pos}{T id:String}{r:V->List V->Hp->VK->Prop}
end
end L2

namespace Rk
open L2
def KX.upd{p:Xb}{H:Hp}{o:HO}:KX p H (upd H p o):=λb u n e=>by rw[QH n];exact e
end Rk

namespace Rk
open L2
def QCt{H:Hp}{l:Xb}{o:HO}{Q:Hp->Prop}(h:H l=none)(k:∀H',ag H H'->H' l=some o->Q H'):Q (upd H l o):=k _ (Jl h) QC
def Cs.keep{p:Xb}{H H':Hp}(k:∀d xs,d≠p->H d=some (.tup xs)->H' d=some (.tup xs)):∀{ps:List V}{L:List (Int×Int)},Cs p H ps L->Cs p H' ps L:=λh=>Zy.xN h λx ij ⟨d,n,e,q⟩=>⟨d,n,e,k d _ n q⟩
def Cs.kx{p:Xb}{H H':Hp}(k:KX p H H'){ps:List V}{L:List (Int×Int)}(h:Cs p H ps L):Cs p H' ps L:=h.keep λd xs n e=>k d _ n e
def Cs.len{p:Xb}{H:Hp}{ps:List V}{L:List (Int×Int)}(h:Cs p H ps L):ps.length=L.length:=J_ h
end Rk

namespace Rk
open L2
def QDh{H:Hp}{p q:Xb}{o:HO}(e:H p=some o)(h:H q=none):q≠p:=λz=>by rw[z,e] at h;cases h
end Rk

namespace Rk
open L2 _root_.Rd
def nL(F:Nat->Nat->Option (Int×Int))(m i:Nat):List (Int×Int):=(QD i).flatMap λk=>(QD m).filterMap<|F k
def Qe7(F:Nat->Nat->Option (Int×Int))(m i:Nat):nL F m (i+1)=nL F m i++(QD m).filterMap (F i):=by
 unfold nL;rw[CT,Tq];simp
def RC{α β:Type}(F:α->Option β)(l:List α):(l.filterMap F).length<=l.length:=Mf F l
def XX(F:Nat->Nat->Option (Int×Int))(m:Nat):∀i,(nL F m i).length<=i*m
 |0=>by simp[nL]
 |i+1=>by
  rw[Qe7,Qg,Cp];have h1:=XX F m i;have h2:=RC (F i)<|QD m;rw[QR] at h2;omega
def Qyd(H1:Hp)(pl:Xb)(m:Nat)(Fi:Nat->Option (Int×Int))(g2:TG)(tc2:TT)(te:TE)(σ4:L2.St)(J2:It):Prop:=
 (∀j H6,j<m->ag H1 H6->(∃ys,H6 pl=some (.lst ys))->J2.go j H6/\∀y H7,J2.nU j H6 y H7->∀(kn:Hp->Prop)(kv:VK),(Fi j=none->∀H8,ag H6 H8->kn H8) ->
  (∀ij t H8,Fi j=some ij->ag H6 H8->t≠pl->H8 t=some (.tup [.int ij.1,.int ij.2])->kv (.ref t) H8)->g2 y σ4 H7 λσ6 H9=>Wk σ4 σ6/\tc2 σ6 H9 λb Aj=>if b=true then te σ6 Aj kv else kn Aj) /\
 ∀H6,ag H1 H6->J2.stop m H6
def Qs0{J:It}{σ:L2.St}{g:TG}{wi2:TI}{g2:TG}{tc2:TT}{te:TE}{pl:Xb}{H1:Hp}{Qn:Hp->Prop}(n m:Nat)(hnm:n*m<=900)(hm:m<=90)(F:Nat->Nat->Option (Int×Int))(hp:H1 pl=none)
  (hs:∀i H2,i<n->ag H1 H2->(∃ys,H2 pl=some (.lst ys))->J.go i H2/\∀x H3,J.nU i H2 x H3->∀(k2:L2.St->It->Hp->Prop)(kk:Hp->Prop),(∀σ4 J2 H5,ag H2 H5->Qyd H1 pl m (F i) g2 tc2 te σ4 J2->k2 σ4 J2 H5) ->
   g x σ H3 λσ4 H4=>Wk σ σ4/\if true=true then wi2 σ4 H4 (λJ2 H5=>k2 σ4 J2 H5) else kk H4)
  (gs:∀H2,ag H1 H2->J.stop n H2) (hq:∀H2 ys,ag H1 H2->H2 pl=some (.lst ys)->Cs pl H2 ys (nL F m n)->Qn H2) :
  kC J (ku σ g YF<|G6 wi2 g2 tc2 pl te) Qn (upd H1 pl<|.lst []):=by
 refine q_ n (λi H2=>ag H1 H2/\∃ys,H2 pl=some (.lst ys)/\Cs pl H2 ys (nL F m i)) ⟨Jl hp,[],QC,.nil⟩ (λi H2 hi ⟨s2,ys,e2,c2⟩=>?_) λH2 ⟨s2,ys,e2,c2⟩=>⟨gs H2 s2,hq H2 ys s2 e2 c2⟩
 obtain⟨go,st⟩:=hs i H2 hi s2 ⟨ys,e2⟩;refine⟨go,λx H3 y k hk=>?_⟩;refine st x H3 y (λσ4 J2 H5=>kC J2 (ku σ4 g2 tc2<|oR pl te) k H5) k λσ4 J2 H5 s5 ⟨inn,fin⟩=>?_
 refine q_ m (λj H6=>ag H1 H6/\∃zs,H6 pl=some (.lst zs)/\Cs pl H6 zs (nL F m i++(QD j).filterMap (F i))) ⟨s2.trans s5,ys,s5 _ _ e2,by simpa using c2.kx (KX.of s5)⟩ (λj H6 hj ⟨s6,zs,e6,c6⟩=>?_)
  λH6 ⟨s6,zs,e6,c6⟩=>⟨fin H6 s6,hk H6 ⟨s6,zs,e6,by rw[Qe7];exact c6⟩⟩
 obtain⟨F8,eY⟩:=inn j H6 hj s6 ⟨zs,e6⟩;refine⟨F8,λy2 H7 yl2 k7 NZ=>?_⟩;have er:(QD<|j+1).filterMap (F i)=(QD j).filterMap (F i)++(F i j).toList:=by
  rw[CT,List.filterMap_append];cases e:F i j<;>simp[e]
 refine eY y2 H7 yl2 k7 (λv H8=>∃ys,H8 pl=some (.lst ys)/\ys.length<Xj/\k7 (upd H8 pl<|.lst<|ys++[v])) (λe H8 s8=>?_) λij t H8 e s8 nt et=>?_
 ·refine NZ _ ⟨s6.trans s8,zs,s8 _ _ e6,?_⟩;rw[er,e]
  simpa using c6.kx (KX.of s8)
 ·have e8:=s8 _ _ e6;refine⟨_,e8,?_,NZ _ ⟨λb o q=>?_,zs++[.ref t],QC,?_⟩⟩
  ·have l1:=c6.len;rw[Qg] at l1;have l2:=XX F m i;have l3:=RC (F i)<|QD j;rw[QR] at l3;have l4:i*m<=n*m:=Tr m<|Ja hi;exact Zv (by omega)
  ·rw[QH<|QK q hp];exact s8 b o<|s6 b o q
  ·rw[er,e,<- Lk];exact((c6.kx<|KX.of s8).kx KX.upd).snoc ⟨t,nt,rfl,by rw[QH nt];exact et⟩
end Rk

namespace Rx
open PySem.Calls L2
def qR{P:QB}{w:Jf}{X:Cx}:Y6 (aQ P w) X E0:=by
 intro XI σ H s e s' I h;obtain⟨C,H',_,q⟩:=h;exact q.elim
section
variable{X:Cx}{e:JO}{st:Ze}{pos:Pos}{te:TX}{t u:sX}{tc:TT}{c:JO}{a b:List Ze}
def uw(he:wY X e te)(hs:Xw e none pos.line X.env=pure false:=by rfl):Ee X (.Expr e pos) (λD σ H Ex=>te σ H (λ_ H1=>D.nx σ H1) Ex):=by
 intro XI s σ H D Ex I h;exact wpAny_Expr_any (ax (he XI s σ H _ _ I h) λv s1 ⟨x,H1,I1,r1,q1⟩=>⟨σ,H1,I1,q1⟩) I.quiet hs
def vV(hc:PT X.jm c tc)(ha:Ec X a t)(hb:Ec X b u):Ee X (.If c a b pos) (λD σ H Ex=>tc σ H λd H1=>if d=true then t D σ H1 Ex else u D σ H1 Ex):=by
 intro XI s σ H D Ex I h;refine wpAny_If<|Xk (hc XI s σ H _ (I.cQ _) h) (λd s1 ⟨H1,J1,q1⟩=>?_) λ_ _ z=>Q9 z;have I1:Inv X XI σ H1 s1:=J1.a7;cases d with
 |true=>exact ha XI s1 σ H1 D Ex I1 q1
 |false=>exact hb XI s1 σ H1 D Ex I1 q1
end
end Rx

namespace Dl
open L2 _root_.Rd Rk
def sw:Ordering->Ordering
 |.lt=>.gt
 |.gt=>.lt
 |.eq=>.eq
def QEh:Ordering->Bool
 |.gt=>false
 |_=>true
def QyL(a b:Ordering):sw (ax a b)=ax (sw a) (sw b):=by cases a<;>rfl
def QxT(i j:Int):tj j i=sw (tj i j):=by
 unfold tj;by_cases h:i<j
 ·rw[XY<|by omega,XY<|by omega,XZ h];rfl
 ·by_cases h2:i=j
  ·rw[XY<|by omega,XZ h2.symm,XY h,XZ h2];rfl
  ·rw[XZ<|by omega,XY h,XY h2];rfl
mutual
def TL:∀(x y:Xd),m_ y x=sw (m_ x y)
 |.int i,.int j=>QxT i j
 |.tuple a,.tuple b=>VP a b
 |.int _,.tuple _=>rfl
 |.tuple _,.int _=>rfl
 |.int _,.none=>rfl
 |.int _,.bool _=>rfl
 |.int _,.str _=>rfl
 |.int _,.list _=>rfl
 |.int _,.dict _=>rfl
 |.tuple _,.none=>rfl
 |.tuple _,.bool _=>rfl
 |.tuple _,.str _=>rfl
 |.tuple _,.list _=>rfl
 |.tuple _,.dict _=>rfl
 |.none,y=>by cases y<;>rfl
 |.bool _,y=>by cases y<;>rfl
 |.str _,y=>by cases y<;>rfl
 |.list _,y=>by cases y<;>rfl
 |.dict _,y=>by cases y<;>rfl
def VP:∀(xs ys:List Xd),o3 ys xs=sw (o3 xs ys)
 |[],[]=>rfl
 |[],_::_=>rfl
 |_::_,[]=>rfl
 |x::xs,y::ys=>by
  show ax (m_ y x) (o3 ys xs)=sw (ax (m_ x y)<|o3 xs ys);rw[TL x y,VP xs ys,QyL]
end
def QAH(o:Ordering):xV (sw o) = !QEh o:=by cases o<;>rfl
def QAu(x y:Xd):vf y x = !QEh (m_ x y):=by unfold vf;rw[TL x y,QAH]
def Qsy(x y:Xd)(h:vf x y=true):vf y x=false:=by
 rw[QAu];unfold vf at h;cases e:m_ x y<;>rw[e] at h<;>first | rfl | cases h
end Dl
namespace Zt
open PySem.W PySem.Calls Rs
def QDQ:∀m:Fin 64,(Sm m).Pairwise (· < ·):=by decide
section
variable{prog:QB}{w:Jf}{A:JF}{E:Xc->Xe->Prop}{s:Xe}
def QmC{a:Xb}{m:Nat}(hm:m<64)(x:jB s.heap a m<|aN w):∃es ep so vs,Way prog w a es ep (tb m<|aN w) so vs/\a6 s.heap a es ep (tb m<|aN w)/\cN es (Sm m):=by
 obtain⟨es,ep,sa,eo⟩:=x.ex;cases hb:w.params.followText "set-order" with
 |true=>exact⟨es,ep,_,_,Qp2 hb a es ep _,sa,eo⟩
 |false=>
  have hl:aN w=true:=by unfold aN;rw[hb];rfl
  have hz:(Sm m).toArray.size=(Sm m).length:=by simp
  refine⟨es,ep,so m,es,Qvi hb a es ep _ rfl hl (by rw[eo.size];exact hz) (so m) rfl (λi hi=>rfl) λi hi=>?_,sa,eo⟩;have hi:i<=(Sm m).length:=by rw[<- hz];exact hi
  have:=tJ ⟨m,hm⟩;exact Qvo ⟨m,hm⟩ ⟨i,by simp only at this;omega⟩ hi
def Vv:∀(l:List (Int×Xc)),(∀e∈l,∃(v:Nat)(tk:Tok),e=((v:Int),nR (v:Int) tk))->nC (l.map (·.2)) (l.map (·.1))
 |[],_=>.nil
 |e::l,h=>by
  obtain⟨v,tk,rfl⟩:=h e<|.head _;exact .cons _ tk<|Vv l λe he=>h e<|.tail _ he
def Qhj{a:Xb}{m:Nat}{Q:List Xc->Xe->Prop}(hh:A.handled=none)(hm:m<64)(x:jB s.heap a m<|aN w)
  (hQ:∀(h':Xl)(tk:Nat)(us:List Xc)(ns:List Int),(∀b o,s.heap.get? b=some o->h'.get? b=some o)->nC us ns->ns.Perm ((Sm m).map λ(x:Nat)=>(x:Int))->Q us { s with heap:=h',toks:=tk }):Xh (Xg prog w) A (collect<|.ref a) Q E s:=by
 obtain⟨es,ep,so,vs,W,sa,eo⟩:=QmC (prog:=prog) hm x;refine QjM hh W sa rfl (by have:=tJ ⟨m,hm⟩;simp only at this;rw[eo.size,ZE];omega) λh' tk kp=>?_
 refine hQ h' tk _ (vs.toList.map (·.1)) kp (Vv _ λe he=>?_) ?_
 ·obtain⟨v,_,tk,e'⟩:=eo.mem<|W.pm.mem_iff.mp he;exact⟨v,tk,e'⟩
 ·have h1:=W.pm.map (·.1);have h2:=X6 Ih eo.hashes;rw[Lf] at h2;rw[h2] at h1
  simpa using h1
def QhW{Q:Xc->Xe->Prop}{a:Xb}{m:Nat}(hh:A.handled=none)(hm:m<64)(x:jB s.heap a m<|aN w)
  (h:∀(h':Xl)(tk:Nat)(us:List Xc)(ns:List Int),(∀b x,s.heap.get? b=some x->h'.get? b=some x)->nC us ns->ns.Perm ((Sm m).map λ(x:Nat)=>(x:Int))->∀(P:rz->Xe->Prop)(E':Xc->Xe->Prop),(∀s2,Q (.ref h'.objs.size) s2->P (.done<|.ret .none) s2) ->
   Xh (Xg prog w) A.in1.in1 (j7.«list.sort» ⟨[.ref h'.objs.size],[]⟩) P E' { s with heap:=h'.push<|seqObj "list" us.toArray 0,toks:=tk }) :
  Xh (Xg prog w) A (call (.builtin "sorted") [.ref a]) Q E s:=by
 refine WY kind_sorted plain_sorted entry_sorted (args_sorted1 _) ?_
 unfold j7.«sorted»;refine Xa (m:=checkCount "sorted" 1 1 _)<|wpAny_pure ?_;refine Xa<|Qhj (A:=A.in1) hh hm x λh' tk us ns kp ia pm=>?_;have hlen:us.length<=6:=by
  have h1:=ia.length;have h2:=pm.length_eq;have:=tJ ⟨m,hm⟩;simp only at this;rw[Qd] at h2;omega
 refine Xa (Hz ?_ (by rw[ZE];omega));have qi:(h'.push<|seqObj "list" us.toArray 0).get? h'.objs.size=some (seqObj "list" us.toArray 0):=Qo _ rfl;show Xh _ _ _ _ _ { s with heap:=h'.push<|seqObj "list" us.toArray 0,toks:=tk };refine Xa<|Jx<|Zk slot_list_sort ⟨_,qi,rfl⟩ entry_list_sort ?body<|args_list_sort _;exact h h' tk us ns kp ia pm _ _ λs2 hq=>⟨_,rfl,wpAny_pure ⟨_,rfl,hq⟩⟩
end
end Zt
namespace L2
open Zt
section
variable{X:Cx}
def Qzn(led:Bool):List V->Hp->VK->Prop:=λxs H Q=>∃(a:Xb)(m:Nat),xs=[.ref a]/\m<64/\H a=some (.ext λh=>jB h a m led) /\
 ∀(t:Xb)(H2:Hp),ag H H2->H t=none->H2 t=some (.lst<|(Sm m).map λ(n:Nat)=>V.int (n:Int))->Q (.ref t) H2
def Ql4(hc:X.calm=true):aF X (.builtin "sorted") (Qzn<|aN X.w):=by
 intro XI s σ H xs us Q I r h;obtain⟨a,m,rfl,hm,ha,q⟩:=h;obtain⟨u,rfl,ru⟩:=vals1 r;cases ru;obtain⟨hS,_⟩:=I.au a _ ha;refine QhW (I.ok.hd hc) hm hS λh' tk its ns kp ia pm P E' hP=>?_
 have hn:(h'.push<|seqObj "list" its.toArray 0).get? h'.objs.size=some (seqObj "list" its.toArray 0):=Qo _ rfl;have h6:ns.length<=6:=by
  have h2:=pm.length_eq;have:=tJ ⟨m,hm⟩;simp only at this;rw[Qd] at h2;omega
 have h6':=ia.length;refine list_sort_tree (s:={ s with heap:=h'.push<|seqObj "list" its.toArray 0,toks:=tk }) hn ia (by omega) λout og ia' Nt pw=>hP _ ?_
 have I1:Inv X XI σ H { s with heap:=h',toks:=tk }:=I.kept (t':=tk) kp;have hf:H h'.objs.size=none:=I1.au.fresh<|Qf _;obtain⟨e,he⟩:∃e,(sortedHeap (h'.push<|seqObj "list" its.toArray 0) h'.objs.size its out).get? h'.objs.size=some (seqObj "list" out e):=sortedHeap_at hn
 have AG:=U8 ia';have en:og=(Sm m).map λ(n:Nat)=>(n:Int):=by
  refine ZQ (le:=(·<=·)) (λa b _ _ h1 h2=>Int.le_antisymm h1 h2) pw ?_<|Nt.trans pm
  rw[z7];exact(QDQ ⟨m,hm⟩).imp λh=>by omega
 have rT:ah ((Sm m).map λ(n:Nat)=>V.int (n:Int)) out.toList:=by
  rw[en,Q4] at AG;exact AG
 have lp:=Nt.length_eq;have I2:Inv X XI σ (upd H h'.objs.size<|.lst<|(Sm m).map λ(n:Nat)=>V.int (n:Int)) { s with heap:=sortedHeap (h'.push<|seqObj "list" its.toArray 0) h'.objs.size its out,toks:=tk }:=
  I1.laid (t':=tk) (λb x e'=>(sortedHeap_old (Qy<|Ql e')<|QM (Ql e') (by rw[size_push'];exact Hs _)).trans<|Qe _ e') (Qf _) (show aO X.prog X.w _ _ _ (.lst _) from⟨by
   have:=tJ ⟨m,hm⟩;simp only at this;rw[Qd];exact Ja<|Rk.Zv<|by omega,out.toList,e,rT,by rw[he]⟩)
 exact⟨.ref h'.objs.size,_,I2,rfl,q _ _ (Jl hf) hf QC⟩
end
end L2
namespace Zt
section
variable{prog:QB}{w:Jf}{A:JF}{E:Xc->Xe->Prop}{s:Xe}
def Qw5{Q:Xc->Xe->Prop}(h:Q (.ref s.heap.objs.size) { s with heap:=s.heap.push { cls:=.type "set",dict:=none,data:=.set #[] 0 (.fresh 0 0<|aN w) } }):Xh (Xg prog w) A (newSet<|.type "set") Q E s:=by
 unfold newSet
 wp_walk
 refine ZY<|wpAny_pure ?_;dsimp only;simp only[newObj];refine Xa<|wpAny_alloc<|wpAny_pure ?_;exact h
end
end Zt

namespace L2
open Zt
def QiA(elt target iter:JO)(ifs:List JO)(scope:gW)(pos:Pos)(it acc:Xc)(env:Env) :
  compTurn (.SetComp elt [⟨target,iter,ifs,0⟩] scope pos) 0 it acc env=(do
   Xu iter.pos
   let r <- pyNext it
   match r with
   |none=>pure<|.done .next
   |some v=>
    letOwnedTupleGo target it v
    assign target env v
    let ok <- Ka ifs env
    if ok then
     (do let x <- eval elt env;Xu elt.pos;let _ <- call (.builtin "set.add") [acc,x])
    again (.compLoop (.SetComp elt [⟨target,iter,ifs,0⟩] scope pos) 0 it acc env)):=by rfl
section
variable{prog:QB}{w:Jf}{A:JF}{R:wX->Xe->Prop}{s:Xe}
def Qcm{elt target iter ifs rest scope pos it acc env}
  (h0:Xs (Xg prog w) A (.compLoop (.SetComp elt (⟨target,iter,ifs,0⟩::rest) scope pos) 0 it acc env) R s)
  (h:Xh (Xg prog w) A (pyIter it) (λxU s'=>Xs (Xg prog w) A (.compLoop (.SetComp elt (⟨target,iter,ifs,0⟩::rest) scope pos) 0 xU acc env) R s') (notedBy (Xg prog w) A env λx s'=>R (.error x) s') s) :
  Xs (Xg prog w) A (.compStart (.SetComp elt (⟨target,iter,ifs,0⟩::rest) scope pos) 0 it acc env) R s:=by
 refine Ik ?_
 show Xh _ _ ((compStart (.SetComp elt (⟨target,iter,ifs,0⟩::rest) scope pos) 0 it acc env).onRaise (λx=>do noteFrame x env;Xu theWindowsPlace)) _ _ s;refine wpAny_notedAt ?_
 unfold compStart;show Xh _ _ (ask >>= _) _ _ s;refine Xa<|ZY<|wpAny_ite ?_;split
 ·first | exact Xa (wpAny_pure<|wpAny_pure<|GN rfl h0) | exact wpAny_pure<|GN rfl h0
 ·refine Xa<|wpAny_rule ?_;show Xh _ _ (Xu iter.pos >>= _) _ _ s;refine Xa<|wpAny_standAt<|Xa<|Xk h (λp_ s2 q=>wpAny_pure<|GN rfl q) λ_ _ e=>e
end
def S3(Y:Cx)(elt:JO)(D:Xb):Act:=λQ s=>Xh (Xg Y.prog Y.w) Y.A (eval elt Y.env) (λv s6=>Xh (Xg Y.prog Y.w) Y.A (call (.builtin "set.add") [.ref D,v]) (λ_ s7=>Q s7) (λ_ _=>False) s6) (λ_ _=>False) s
def QlC{Y:Cx}{σ:St}{tg:JO}{elt:JO}{gens:List Comprehension}{scope:gW}{XJ:Pos}{d:Nat}{it D:Xb}{fp:List Xb}{tn:Nat->Xl->Prop}{J:It}{XI:List (Xb×Xp)}{s:Xe}{H:Hp}{body:V->Hp->(Hp->Prop)->Prop}{Qn:Hp->Prop}{R:wX->Xe->Prop}{act:Xc->Act}
  (hc:Y.calm=true)(T:Turn Y.prog Y.w Y.K tg J fp it tn)(st:tn 0 s.heap)(hf:∀b∈fp,aR Y XI H b)
  (lg:∀(Q:rz->Xe->Prop)(E:Xc->Xe->Prop)(s:Xe),Xh (Xg Y.prog Y.w) Y.A (pyNext<|.ref it) (λr s1=>match r with
   |none=>Q (.done .next) s1
   |some v=>Xh (Xg Y.prog Y.w) Y.A (letOwnedTupleGo tg (.ref it) v) (λ_ s2=>act v (λs3=>Q (.again<|.compLoop (.SetComp elt gens scope XJ) d (.ref it) (.ref D) Y.env) s3) s2) E s1) E s ->
   Xh (Xg Y.prog Y.w) Y.A (compTurn (.SetComp elt gens scope XJ) d (.ref it) (.ref D) Y.env) Q E s)
  (sE:∀(x:V)(u:Xc),RelV x u->BodyOk Y σ (act u) (body x))
  (I:Inv Y XI σ H s)(h:kC J body Qn H)(hR:∀s' H',Inv Y XI σ H' s'->Qn H'->R (.ok .next) s') :
  Xs (Xg Y.prog Y.w) Y.A (.compLoop (.SetComp elt gens scope XJ) d (.ref it) (.ref D) Y.env) R s:=by
 obtain⟨W,⟨m0,w0⟩,turn⟩:=h;have eW:∀{H':Hp},(∀b∈fp,H' b=none)->∀b∈fp,aR Y XI H' b:=λhn b hb=>⟨hn b hb,(hf b hb).2⟩
 refine codeAny_loop rfl (λn s'=>∃i H',Inv Y XI σ H' s'/\tn i s'.heap/\(∀b∈fp,H' b=none)/\W i n H') (λn s3 hI=>?_) m0 ⟨0,H,I,st,λb hb=>(hf b hb).1,w0⟩;show Xh _ Y.A ((compTurn (.SetComp elt gens scope XJ) d (.ref it) (.ref D) Y.env).onRaise (λx=>do noteFrame x Y.env;theTreesLotGoes x)) _ _ s3;refine wpAny_noted<|lg _ _ _ ?_;obtain⟨i,H3,I3,mH,qm,w3⟩:=hI;rcases turn i n H3 w3 with⟨stop,qn⟩ | ⟨go,step⟩
 ·refine ax (T.done Y rfl rfl rfl hc i XI s3 σ H3 _ I3 (eW qm) mH stop) λr s4 ⟨hr,I4⟩=>?_
  subst hr;exact hR s4 H3 I4 qn
 ·refine ax (T.item Y rfl rfl rfl hc i XI s3 σ H3 _ I3 (eW qm) mH go) λr s4 ⟨u,hr,h4⟩=>?_
  subst hr;refine ax h4 λ_ s5 ⟨x,H5,I5,r5,y5,iE,yv⟩=>?_
  have Ai:=I5.pinned (eW yv)<|T.obj _ _ iE;refine sE x u r5 _ s5 H5 _ _ Ai (step x H5 y5) λs7 H7 I7 ⟨m',hm,w7⟩=>?_
  refine⟨rfl,m',hm,i+1,H7,I7.br,T.keep _ _ _ iE λb hb o e=>(I7.pin (b,o)<|Qs _<|Qs _<|Z8 hb e).1,λb hb=>?_,w7⟩;obtain⟨o,e,dd⟩:=T.obj _ _ iE b hb;exact(I7.pin (b,o)<|Qs _<|Qs _<|Z8 hb e).2.1

def QmT{Y:Cx}{elt tg iter:JO}{ifs:List JO}{scope:gW}{XJ:Pos}{it D:Xb}(Q:rz->Xe->Prop)(E:Xc->Xe->Prop)(s:Xe)
  (h:Xh (Xg Y.prog Y.w) Y.A (pyNext<|.ref it) (λr s1=>match r with
   |none=>Q (.done .next) s1
   |some v=>Xh (Xg Y.prog Y.w) Y.A (letOwnedTupleGo tg (.ref it) v) (λ_ s2=>yJ Y tg ifs (S3 Y elt D) v (λs3=>Q (.again<|.compLoop (.SetComp elt [⟨tg,iter,ifs,0⟩] scope XJ) 0 (.ref it) (.ref D) Y.env) s3) s2) E s1) E s) :
  Xh (Xg Y.prog Y.w) Y.A (compTurn (.SetComp elt [⟨tg,iter,ifs,0⟩] scope XJ) 0 (.ref it) (.ref D) Y.env) Q E s:=by
 rw[QiA];refine Xa<|wpAny_standAt<|Xa<|ax h λr s1 h1=>?_;cases r with
 |none=>exact wpAny_pure h1
 |some v=>
  refine Xa<|ax h1 λ_ s2 h2=>?_;refine Xa<|Xk h2 (λ_ s4 h4=>Xa<|Xk h4 (λok s5 h5=>?_) λ_ _ f=>f.elim) λ_ _ f=>f.elim;cases ok with
  |false=>exact wpAny_pure h5
  |true=>exact Xa<|Xa<|Xk h5 (λx s6 h6=>Xa<|wpAny_standAt<|Xa<|Xk h6 (λ_ s7 h7=>wpAny_pure<|wpAny_pure h7) λ_ _ f=>f.elim) λ_ _ f=>f.elim
end L2

namespace L2
open Zt
def jW{prog:QB}{w:Jf}{A:JF}{E:Xc->Xe->Prop}{s:Xe}{a:Xb}{u:Xc}{Q:Xc->Xe->Prop}(ty:s.TypeIs (.ref a) "set")(h:Xh (Xg prog w) A.in1 (setAdd a u) (λ_ s'=>Q .none s') E s):Xh (Xg prog w) A (call (.builtin "set.add") [.ref a,u]) Q E s:=by
 refine Zk F.slot_set_add ty F.entry_set_add ?_<|F.args_set_add_2 _ _
 unfold j7.«set.add»;refine Xa ?_
 obtain⟨hp,g,d,tk,os⟩:=s;unfold Qva;generalize setAdd=SA at h ⊢
 wp_walk
 refine Xk h (λ_ s' q=>?_) λ_ _ e=>e
 exact wpAny_pure ⟨_,rfl,q⟩
def kh(p:Xb)(m:Nat)(led:Bool):Xl->Prop:=λh=>jB h p m led
def QBu(W:Jf)(p:Xb)(te:TE):St->Hp->(Hp->Prop)->Prop:=λσ H k=>te σ H λv H6=>∃(c m:Nat),v=.int (c:Int)/\c<6/\m<64/\H6 p=some (.ext<|kh p m<|aN W)/\k (upd H6 p<|.ext<|kh p (m ||| 2^c)<|aN W)
def Sv{P:QB}{W:Jf}{H:Hp}{h:Xl}{a:Xb}{m:Nat}{led:Bool}(x:jB h a m led):aO P W H h a (.ext<|kh a m led):=by
 refine⟨x,?_,λh1 h2 x k=>?_⟩
 ·obtain⟨es,ep,sa,_⟩:=x.ex;obtain⟨o,ho,_⟩:=sa.at_;exact⟨o,ho⟩
 ·exact jB.at' (show jB h1 a m led from x) k
def Qvw{X:Cx}{XI:List (Xb×Xp)}{σ:St}{H:Hp}{s:Xe}(I:Inv X XI σ H s):Inv X XI σ (upd H s.heap.objs.size<|.ext<|kh s.heap.objs.size 0<|aN X.w) { s with heap:=s.heap.push { cls:=.type "set",dict:=none,data:=.set #[] 0 (.fresh 0 0<|aN X.w) } }:=by
 refine I.laid (t':=s.toks) (λb x e=>Qe _ e) (Qf _) (Sv ⟨#[],0,⟨⟨_,Qo _ rfl,⟨rfl,rfl,rfl⟩,?_⟩,HY ⟨0,by decide⟩ _⟩,⟨[],by decide,by decide⟩⟩);rw[Qvn]
def Qpc{Y:Cx}{σ:St}{elt:JO}{te:TE}{D:Xb}(hx:Y.xe=λ_ _=>False)(he:PE Y elt te):BodyOk Y σ (S3 Y elt D) (QBu Y.w D te σ):=by
 intro XI s H k Q I h hQ;have iG:∀(v:Xc)(s':Xe),Y.xe v s'->False:=λv s' z=>by rw[hx] at z;exact z
 refine Xk (he XI s σ H _ I h) (λv s6 ⟨y,H6,I6,r6,c,m,ey,hc,hm,eD,k1⟩=>?_) iG;subst ey;obtain⟨tk,rfl⟩:∃tk,v=.int (c:Int) tk:=by
  first
  |exact r6
  |(cases r6;exact⟨_,rfl⟩)
 obtain⟨sq,_,_⟩:=(show aO Y.prog Y.w H6 s6.heap D (.ext _) from I6.au D _ eD);have x:jB s6.heap D m (aN Y.w):=sq;obtain⟨es,ep,sa,eo⟩:=x.ex;obtain⟨o,ho,hex,hd⟩:=sa.at_;have mu:wZ (H6 D):=by rw[eD];exact Jn
 refine jW ⟨o,ho,hex.1⟩ ?_
 unfold setAdd;refine Jx<|Xa<|wpAny_pyHash_int ?_;refine Qpn hm hc x λh' b sb x'=>?_
 refine hQ _ _ ?_ k1
 obtain⟨es',AX,sa',_⟩:=x'.ex;obtain⟨o',gO,_⟩:=sa'.at_;exact I6.write (t':=s6.toks+1) (x:=D) (e:=D) mu (.inl rfl) (λb u hb z=>(sb.2 b hb).trans z) ⟨o',gO⟩<|Sv x'
def QyU(W:Jf)(cap:List<|Option Nat)(wi:TI)(g:TG)(tc:TT)(te:TE):TE:=λσ H Q=>wi σ H λJ H1=>∀p,H1 p=none->kC J (ku (dj cap σ) g tc<|QBu W p te) (Q<|.ref p) (upd H1 p<|.ext<|kh p 0<|aN W)
def Qnz{X:Cx}{M:List Str}{cap:List (Option Nat)}{elt tg iter:JO}{ifs:List JO}{scope:gW}{pos:Pos}{wi:TI}{g:TG}{tc:TT}{te:TE}{i:Nat}{y:Str}{py b_:Pos}(hN:X.N.Nodup)(oz:X.N[i]? = some y)(ou:X.env.scope.names.lookup y=some .local)(hc:X.calm=true)(ok:ny X.N X.env.scope M scope cap=true)
  (hi:PI X tg iter wi)(hb:∀cl ex s3 H3 C,PG (bG X M scope cl ex s3 H3 C) tg g/\iu (bG X M scope cl ex s3 H3 C) ifs tc/\PE (bG X M scope cl ex s3 H3 C) elt te)
  (hs:∀x,Xo iter X.env x=pure x:=by intro _;rfl)(jR:Xw (.SetComp elt [⟨tg,iter,ifs,0⟩] scope pos) (some<|.Name y py) b_.line X.env=pure true:=by rfl):PS X (.Assign [.Name y py] (.SetComp elt [⟨tg,iter,ifs,0⟩] scope pos) b_) (nq (QyU X.w cap wi g tc te)<|Yu i):=by
 intro XI s σ H D I h;have c:=dI.of ok;rw[Lw _ _ _ _ jR];refine Xa<|wpAny_standAt<|Xa ?_;show Xh _ X.A (do let _ <- comprehension (.SetComp elt [⟨tg,iter,ifs,0⟩] scope pos) scope X.env _ (newSet<|.type "set") false (eval iter X.env) (some<|assign (.Name y py) X.env)) _ _ s;refine Xa<|Xk (Dv (use:=some<|assign (.Name y py) X.env) (Q:=λ_ s'=>SP X XI D .next s') rfl hs (Ca<|I.ok.cells c) c.kind c.loc ?_) (λ_ s' hq=>wpAny_pure<|wpAny_pure hq) λ_ _ e=>e;refine ax (hi XI s σ H _ I h) λv s1 h1=>ax h1 λk8 s2 h2=>?_
 obtain⟨it,fp,tn,J,H2,e,I2,T,eY,f2,hW⟩:=h2;subst e;refine Qw5 (Dj c.cell (by intro y hy;simp at hy) (λh₁ iU iT=>?_) c.kind);have I3:Inv X XI σ (upd H2 s2.heap.objs.size<|.ext<|kh s2.heap.objs.size 0<|aN X.w) { s2 with heap:=s2.heap.push { cls:=.type "set",dict:=none,data:=.set #[] 0 (.fresh 0 0<|aN X.w) } }:=Qvw I2;have kY:∀b∈fp,b<s2.heap.objs.size:=λb hb=>by obtain⟨o,e,_⟩:=T.obj _ _ eY b hb;exact Ql e
 have f3:∀b∈fp,aR X XI (upd H2 s2.heap.objs.size<|.ext<|kh s2.heap.objs.size 0<|aN X.w) b:=λb hb=>(f2 b hb).upd<|Qy<|kY b hb
 generalize sk:({ s2 with heap:=s2.heap.push { cls:=.type "set",dict:=none,data:=.set #[] 0 (.fresh 0 0<|aN X.w) } }:Xe)=s3 at I3;have e3:s3.heap=s2.heap.push { cls:=.type "set",dict:=none,data:=.set #[] 0 (.fresh 0 0<|aN X.w) }:=by rw[<- sk]
 have z3:s3.heap.objs.size=s2.heap.objs.size+1:=by rw[e3,Ym]
 have hk:∀b o,s3.heap.get? b=some o->h₁.get? b=some o:=λb o e=>iT.extBut b o (by
  have:=Ql e;rw[e3] at this;exact Qy this)<|Qe _<|e3 ▸ e
 have sv:h₁.Ns s3.heap.objs.size λ_=>none:=by rw[e3];exact iU
 have B:=CY (t4:=s3.toks+([]:List (Str×Xc)).length) (fp:=fp) I3 c f3 (λb hb=>by rw[z3];exact YE<|kY b hb) sv hk;have iP:tn 0 h₁:=T.keep _ _ _ eY λb hb o e=>hk b o (by rw[e3];exact Qe _ e)
 have sG:∀b∈fp,aR (bG X M scope (bU X.env scope.names []) fp s3 (upd H2 s2.heap.objs.size<|.ext<|kh s2.heap.objs.size 0<|aN X.w) s3.heap.objs.size) [] (upd H2 s2.heap.objs.size<|.ext<|kh s2.heap.objs.size 0<|aN X.w) b:=λb hb=>by
  refine⟨(f3 b hb).1,(B.ok.ko b hb).1,B.ok.fL b hb,.inl hb,(B.ok.ko b hb).2,λp hp=>(nomatch hp)⟩
 obtain⟨hg,ht,he⟩:=hb (bU X.env scope.names []) fp s3 (upd H2 s2.heap.objs.size<|.ext<|kh s2.heap.objs.size 0<|aN X.w) s3.heap.objs.size;have loop:Xs (Xg X.prog X.w) X.A (.compLoop (.SetComp elt [⟨tg,iter,ifs,0⟩] scope pos) 0 (.ref it) (.ref s2.heap.objs.size)<|compEnvC scope (bU X.env scope.names []) s3.heap.objs.size X.env)
   (compPost (Xg X.prog X.w) X.A X.xe (some<|assign (.Name y py) X.env) (λ_ s'=>SP X XI D .next s') (.ref s2.heap.objs.size) s3.heap.objs.size) { s3 with heap:=h₁,toks:=s3.toks+([]:List (Str×Xc)).length }:=by
  refine QlC (Y:=bG X M scope (bU X.env scope.names []) fp s3 (upd H2 s2.heap.objs.size<|.ext<|kh s2.heap.objs.size 0<|aN X.w) s3.heap.objs.size) (gens:=[⟨tg,iter,ifs,0⟩]) (d:=0) hc T iP sG
   (λQ E s h=>QmT Q E s h) (λx u r=>zp rfl hg ht (λσ4=>Qpc rfl he) x u r) B (hW _<|I2.au.fresh<|Qf _) λs' H' I' q=>?_
  exact L5 (Q:=λ_ s'=>SP X XI D .next s') I3 f3 I' hN oz ou λNi J2=>⟨_,H',J2,q⟩
 exact Qcm loop<|T.self _ 0 _ _ _ iP loop
end L2

namespace L2
section
variable{X:Cx}{XI:List (Xb×Xp)}{σ:St}{H:Hp}{s:Xe}{a:Xb}{y v:V}{u r:Xc}{o:Option V}{A:JF}{E:Xc->Xe->Prop}

def QE2{Q:Xc->Xe->Prop}(hu:A.units+1<cLine)(I:Inv X XI σ H s)(g:fQ H a y o)(ry:RelV y u)(h:∀s',Inv X XI σ H s'->Q (.bool o.isSome) s') :
  Xh (Xg X.prog X.w) A (Xm .In u<|.ref a) Q E s:=by
 rcases g with⟨kvs,k,e,ey,l⟩ | ⟨kvs,k,b,e,ey,eb,l⟩
 ·subst ey;obtain⟨z,hd,vs,rel,dd⟩:=Bq I.au e;refine wpAny_in_of (Bs ry) hd dd.mapOf ?_
  rw[<- (rel.val k).fW,<- l];exact h _<|I.tok _
 ·subst ey;cases(show u=JM b from ry);obtain⟨z,hd,xs,rel,dd⟩:=G4 I.au e;refine wpAny_in_heap (QBD hu) (IW I.au eb) hd dd ?_
  have q:=(rel.val k).fW;rw[Option.isSome_map] at q;rw[<- q,<- l];exact h _<|I.tok _
end

def QEI(ty td:TE):TE:=λσ H Q=>ty σ H λy H1=>td σ H1 λx H2=>∃a o,x=.ref a/\fQ H2 a y o/\Q (.bl o.isSome) H2
section
variable{X:Cx}{o i e value:JO}{pos pos' cV:Pos}{td ty tv:TE}
def QzW(hu:X.A.units+1<cLine)(hi:PE X i ty)(ho:PE X o td):PC X .In i o (QEI ty td):=by
 intro XI s σ H Q I h;refine ax (hi XI s σ H _ I h) λiv s1 ⟨y,H1,I1,ry,q1⟩=>ax (ho XI s1 σ H1 _ I1 q1) λu s2 ⟨x,H2,I2,rx,a,ov,ex,g,q2⟩=>?_
 subst ex;obtain rfl:u=JM a:=rx;exact QE2 hu I2 g ry λs3 I3=>⟨.bl ov.isSome,H2,I3,rfl,q2⟩
end


end L2


namespace L2
section
variable{X:Cx}{XI:List (Xb×Xp)}{σ:St}{l it S fa:Xb}{xs:List V}{kw:List (Str×Xc)}{val:Nat->Int}{H0:Hp}{R:wX->Xe->Prop}
def cL(val:Nat->Int)(j:Nat):Nat:=argBest (λa b=>decide (val a<val b)) j
def kJ(S:Xb)(H0 H:Hp):Prop:=∀b o,b≠S->H0 b=some o->H b=some o
def B9(X:Cx)(σ:St)(S fa:Xb)(xs:List V)(val:Nat->Int)(H0:Hp):Prop:=
 ∀(i:Nat)(x:V)(u:Xc)(g_:List (Xb×Xp))(s:Xe)(H:Hp)(E:Xc->Xe->Prop),xs[i]? = some x->RelV x u->Inv X g_ σ H s->kJ S H0 H ->
  Xh (Xg X.prog X.w) X.A.in1 (call (.ref fa) [u]) (λr s'=>∃t H',r=.int (val i) t/\Inv X g_ σ H' s'/\ag H H') E s
def IG{s:Xe}{H:Hp}{ys zs:List V}{vs:List Xc}(I:Inv X XI σ H s)(e:H S=some (.lst ys))(r:ah zs vs)(hz:zs.length<=Xj):Inv X XI σ (upd H S<|.lst zs) { s with heap:=s.heap.update S (ZO λ_=>vs.toArray) }:=by
 obtain⟨_,its,n,rv,ln,ho⟩:=I.bF e;refine I.write (t':=s.toks) (x:=S) (e:=S) (by rw[e];exact Jn) (.inl rfl) (λb u hb z=>(Zh _ _<|ir hb).trans z) ⟨_,J7 _ ho rfl⟩ ⟨hz,vs,_,r,J7 _ ho rfl⟩
def Qin(hl:H0 l=some (.lst xs))(sx:l≠S)(h_:B9 X σ S fa xs val H0)(hc:X.calm=true)
  (hR:∀u s' H' x,xs[cL val<|xs.length - 1]? = some x->RelV x u->Inv X XI σ H' s'->kJ S H0 H'->R (.ok<|.ret u) s') :
  ∀(k j:Nat)(s:Xe)(H:Hp)(x:V),xs.length - (j+1)=k->j+1<=xs.length->Inv X XI σ H s->aR X XI H it->s.heap.IsListIter it l (j+1)->kJ S H0 H->H S=some (.lst [x,.int<|val<|cL val j])->xs[cL val j]? = some x ->
  Xs (Xg X.prog X.w) X.A (.builtin "min.loop" ⟨[.ref it,.ref fa,.ref S],kw⟩) R s:=by
 have fY:(toString "min" ++ toString ".loop" : String) = "min.loop" := by decide
 intro k;induction k with
 |zero=>
  intro j s H x hk hj I hf st kp eS hx;have sy:j+1=xs.length:=by omega
  obtain⟨_,its,n,rv,ln,ho⟩:=I.bF eS;obtain⟨u,w',e2,r1,r2⟩:∃u w',its=[u,w']/\RelV x u/\RelV (.int<|val<|cL val j) w':=by
   match its,rv with
   |[u,w'],.cons a (.cons b .nil)=>exact⟨u,w',rfl,a,b⟩
  subst e2;obtain⟨hz,its,n2,rl,ll,ot⟩:=I.bF<|kp _ _ sx hl;obtain⟨f0,f1,f2,f3,f4,f5⟩:=hf;refine Yf CO ?_
  rw[ZW ZU _];show Xh _ X.A.in1 (seqItems? (.ref S) >>= _) _ _ s;refine Xa<|Cn ho rfl ?_;show Xh _ X.A.in1 (tryCatch (pyNext<|.ref it) _ >>= _) _ _ s;refine Xa (uy<|Lx (I.ok.hd hc) st ⟨_,ot,rfl,_,rfl⟩ (by simp;omega) λh' eb=>?_);have I1:Inv X XI σ H { s with heap:=h' }:=I.turned (t':=s.toks) (λb o hb e=>eb b o hb e) f0 f1 f3 f4 f5;have vo:h'.get? S=_:=eb S _ (λz=>by rw[z,f0] at eS;cases eS) ho;show Xh _ X.A.in1 (updateSeq S (λ_=>#[]) >>= _) _ _ _;refine Xa ?_
  refine zV vo rfl<|Xa<|BG<|wpAny_pure ?_;refine hR u _ _ x (by rw[<- sy];exact hx) r1 (IG (vs:=[]) (zs:=[]) I1 eS .nil<|Q6 _) λb o hb e=>?_
  rw[QH hb];exact kp b o hb e
 |succ k ih=>
  intro j s H x hk hj I hf st kp eS hx;have df:j+1<xs.length:=by omega
  obtain⟨_,its,n,rv,ln,ho⟩:=I.bF eS;obtain⟨u,w',e2,r1,r2⟩:∃u w',its=[u,w']/\RelV x u/\RelV (.int<|val<|cL val j) w':=by
   match its,rv with
   |[u,w'],.cons a (.cons b .nil)=>exact⟨u,w',rfl,a,b⟩
  subst e2;obtain⟨tw,rfl⟩:=r2;obtain⟨hz,its,n2,rl,ll,ot⟩:=I.bF<|kp _ _ sx hl;obtain⟨v,hv,rT⟩:=rl.get (i:=j+1) (x:=xs[j+1])<|Qc df;obtain⟨f0,f1,f2,f3,f4,f5⟩:=id hf;have nS:S≠it:=λz=>by rw[z,f0] at eS;cases eS
  refine Yf CO ?_
  rw[ZW ZU _];show Xh _ X.A.in1 (seqItems? (.ref S) >>= _) _ _ s;refine Xa<|Cn ho rfl ?_;show Xh _ X.A.in1 (tryCatch (pyNext<|.ref it) _ >>= _) _ _ s;refine Xa (uy<|LO st ⟨_,ot,rfl,_,rfl⟩ (x:=v) (by simpa using hv) λh' bH sb=>?_);have I1:Inv X XI σ H { s with heap:=h' }:=I.turned (t':=s.toks) (λb o hb e=>(sb.2 b hb).trans e) f0 f1 f3 f4 f5;have pn:∀b∈[it],∃o,h'.get? b=some o/\∀v,o.data≠.cell v:=λb hb=>by
   have e:b=it:=by simpa using hb
   subst e;obtain⟨o,e,c,d⟩:=bH;exact⟨o,e,λv z=>by rw[d] at z;cases z⟩
  have FU:∀b∈[it],aR X XI H b:=λb hb=>by
   have e:b=it:=by simpa using hb
   rw[e];exact hf
  have MP:=I1.pinned (fp:=[it]) FU pn;show Xh _ X.A.in1 (tryCatch (Xt [v]<|call (.ref fa) [v]) _ >>= _) _ _ _;refine Xa<|uy<|Jx<|Xk (h_ (j+1) _ v _ _ H _ (Qc df) rT MP kp) (λr s2 ⟨t,H2,er,uG,eZ⟩=>?_) λ_ _ e=>e;subst er;have I2:=uG.br;have p_:s2.heap.IsListIter it l (j+1+1):=bH.at λo e=>(uG.pin (it,o)<|Qs _<|Qs _<|Z8 (Qm.mpr rfl) e).1
  have AW:H2 it=none:=by
   obtain⟨o,e,_⟩:=id bH;exact(uG.pin (it,o)<|Qs _<|Qs _<|Z8 (Qm.mpr rfl) e).2.1
  have jS:aR X XI H2 it:=⟨AW,f1,f2,f3,f4,f5⟩;have bB:kJ S H0 H2:=λb o hb e=>eZ _ _<|kp b o hb e
  have vy:=eZ _ _ eS;obtain⟨_,hV,n3,rv3,ln3,lh⟩:=I2.bF vy;show Xh _ X.A.in1 (tryCatch (Xt [v,.int (val<|j+1) t]<|richCompare .Lt (.int (val<|j+1) t) (.int (val<|cL val j) tw) >>= _) _ >>= _) _ _ _;refine Xa<|uy<|Jx<|Xa<|HT.Qrq _ _ _ _ _ _ _ _ _ _ ?_;refine Xa<|Jx<|JT ?_;refine Xa<|BG<|wpAny_pure ?_;have eb:cL val (j+1)=if decide (val (j+1)<val (cL val j))=true then j+1 else cL val j:=rfl
  cases hb:decide (val (j+1)<val (cL val j)) with
  |true=>
   rw[hb,XZ rfl] at eb;simp only[if_true];refine Xa ?_
   refine zV lh rfl<|Xa<|BG ?_;rw[fY];have I3:=IG (vs:=[v,.int (val<|j+1) t]) (zs:=[xs[j+1],.int<|val<|j+1]) I2 vy (.cons rT<|.cons ⟨t,rfl⟩ .nil) (by show 2<=Xj;decide);refine wpAny_pure ⟨uD ZU _,ih (j+1) _ _ xs[j+1] (by omega) df I3 ⟨by rw[QH<|ir nS];exact AW,f1,f2,f3,f4,f5⟩ (p_.at λo e=>(Zh _ _ nS).trans e) (λb o hb e=>by rw[QH hb];exact bB b o hb e) (by rw[eb];exact QC) (by rw[eb];exact Qc df)⟩
  |false=>
   rw[hb,XY Qx] at eb;simp only[zZ,if_false];refine Xa<|BG ?_;rw[fY];exact wpAny_pure ⟨uD ZU _,ih (j+1) _ _ x (by omega) df I2 jS p_ bB (by rw[eb];exact vy) (by rw[eb];exact hx)⟩
def Qg7(hl:H0 l=some (.lst xs))(sx:l≠S)(h_:B9 X σ S fa xs val H0)(hc:X.calm=true)(hn:0<xs.length)
  (hR:∀u s' H' x,xs[cL val<|xs.length - 1]? = some x->RelV x u->Inv X XI σ H' s'->kJ S H0 H'->R (.ok<|.ret u) s'){s:Xe}{H:Hp}(I:Inv X XI σ H s)(hf:aR X XI H it)(st:s.heap.IsListIter it l 0)(kp:kJ S H0 H)(eS:H S=some (.lst [])) :
  Xs (Xg X.prog X.w) X.A (.builtin "min.loop" ⟨[.ref it,.ref fa,.ref S],kw⟩) R s:=by
 have fY:(toString "min" ++ toString ".loop" : String) = "min.loop" := by decide
 obtain⟨_,its,n,rv,ln,ho⟩:=I.bF eS;cases rv;obtain⟨hz,its,n2,rl,ll,ot⟩:=I.bF<|kp _ _ sx hl;obtain⟨v,hv,rT⟩:=rl.get (i:=0) (x:=xs[0])<|Qc hn;obtain⟨f0,f1,f2,f3,f4,f5⟩:=id hf;have nS:S≠it:=λz=>by rw[z,f0] at eS;cases eS
 refine Yf CO ?_
 rw[ZW ZU _];show Xh _ X.A.in1 (seqItems? (.ref S) >>= _) _ _ s;refine Xa<|Cn ho rfl ?_;show Xh _ X.A.in1 (tryCatch (pyNext<|.ref it) _ >>= _) _ _ s;refine Xa (uy<|LO st ⟨_,ot,rfl,_,rfl⟩ (x:=v) (by simpa using hv) λh' bH sb=>?_);have I1:Inv X XI σ H { s with heap:=h' }:=I.turned (t':=s.toks) (λb o hb e=>(sb.2 b hb).trans e) f0 f1 f3 f4 f5;have pn:∀b∈[it],∃o,h'.get? b=some o/\∀v,o.data≠.cell v:=λb hb=>by
  have e:b=it:=by simpa using hb
  subst e;obtain⟨o,e,c,d⟩:=bH;exact⟨o,e,λv z=>by rw[d] at z;cases z⟩
 have FU:∀b∈[it],aR X XI H b:=λb hb=>by
  have e:b=it:=by simpa using hb
  rw[e];exact hf
 have MP:=I1.pinned (fp:=[it]) FU pn;show Xh _ X.A.in1 (tryCatch (Xt [v]<|call (.ref fa) [v]) _ >>= _) _ _ _;refine Xa<|uy<|Jx<|Xk (h_ 0 _ v _ _ H _ (Qc hn) rT MP kp) (λr s2 ⟨t,H2,er,uG,eZ⟩=>?_) λ_ _ e=>e;subst er;have I2:=uG.br;have p_:s2.heap.IsListIter it l (0+1):=bH.at λo e=>(uG.pin (it,o)<|Qs _<|Qs _<|Z8 (Qm.mpr rfl) e).1
 have AW:H2 it=none:=by
  obtain⟨o,e,_⟩:=id bH;exact(uG.pin (it,o)<|Qs _<|Qs _<|Z8 (Qm.mpr rfl) e).2.1
 have vy:=eZ _ _ eS;obtain⟨_,hV,n3,rv3,ln3,lh⟩:=I2.bF vy;show Xh _ X.A.in1 (updateSeq S (λ_=>#[v,.int (val 0) t]) >>= _) _ _ _;refine Xa ?_
 refine zV lh rfl ?_
 rw[fY];have I3:=IG (vs:=[v,.int (val 0) t]) (zs:=[xs[0],.int<|val 0]) I2 vy (.cons rT<|.cons ⟨t,rfl⟩ .nil) (by show 2<=Xj;decide);exact wpAny_pure ⟨uD ZU _,Qin hl sx h_ hc hR _ 0 _ _ xs[0] rfl hn I3 ⟨by rw[QH<|ir nS];exact AW,f1,f2,f3,f4,f5⟩ (p_.at λo e=>(Zh _ _ nS).trans e) (λb o hb e=>by rw[QH hb];exact eZ _ _<|kp b o hb e) QC<|Qc hn⟩
def Qim(hl:H0 l=some (.lst []))(sx:l≠S)(hc:X.calm=true){d:Xc}{kn:Str}{s:Xe}{H:Hp}(I:Inv X XI σ H s)(hf:aR X XI H it)(st:s.heap.IsListIter it l 0)(kp:kJ S H0 H)(eS:H S=some (.lst []))(hR:∀s',Inv X XI σ H s'->R (.ok<|.ret d) s') :
  Xs (Xg X.prog X.w) X.A (.builtin "min.loop" ⟨[.ref it,.ref fa,.ref S],[(kn,d)]⟩) R s:=by
 obtain⟨_,its,n,rv,ln,ho⟩:=I.bF eS;cases rv;obtain⟨hz,its,n2,rl,ll,ot⟩:=I.bF<|kp _ _ sx hl;cases rl;obtain⟨f0,f1,f2,f3,f4,f5⟩:=id hf;refine Yf CO ?_
 rw[ZW ZU _];show Xh _ X.A.in1 (seqItems? (.ref S) >>= _) _ _ s;refine Xa<|Cn ho rfl ?_;show Xh _ X.A.in1 (tryCatch (pyNext<|.ref it) _ >>= _) _ _ s;refine Xa (uy<|Lx (I.ok.hd hc) st ⟨_,ot,rfl,_,rfl⟩ (by simp) λh' eb=>?_);have I1:Inv X XI σ H { s with heap:=h' }:=I.turned (t':=s.toks) (λb o hb e=>eb b o hb e) f0 f1 f3 f4 f5;show Xh _ X.A.in1 (rule _ >>= _) _ _ _;exact Xa<|wpAny_rule<|wpAny_pure<|hR _ I1
end
section
variable{prog:QB}{w:Jf}{A:JF}{E:Xc->Xe->Prop}{s:Xe}
def QiB{id:String}{b:j7}{args:List Xc}{kw:List (Str×Xc)}{Q:Xc->Xe->Prop}(hk:builtinKind id=none)(hp:plainId id=true)
  (hb:entryFor table id=some b)(ha:argsOk id ⟨args,kw⟩)
  (hc:Xh (Xg prog w) A.in1 (b ⟨args,kw⟩) (λfin s'=>match fin with
   |.done f=>(match (Except.ok f:wX) with | .ok (.ret v)=>Q v s' | .ok _=>False | .error e=>E e s')
   |.again c'=>c'.quiet=true/\Xs (Xg prog w) A c' (λr s'=>match r with | .ok (.ret v)=>Q v s' | .ok _=>False | .error e=>E e s') s') E s) :
  Xh (Xg prog w) A (call (.builtin id) args kw) Q E s:=by
 refine rq<|LD hp hb ?_;simp only[checkBuiltinCall,hk];cases FE:Manifest.signature? id with
 |none=>exact wpAny_pure hc
 |some sig=>
  have F4:Bind.checkArgs id sig ⟨args,kw⟩=pure ():=by simpa only[argsOk,FE] using ha
  simp only[F4];exact wpAny_pure hc
end
def Ql6(a f:Xc):argsOk "min" ⟨[a],[("key",f)]⟩:=by unfold argsOk;kernel_rfl
def QjV(a f d:Xc):argsOk "min" ⟨[a],[("key",f),("default",d)]⟩:=by unfold argsOk;kernel_rfl
section
variable{X:Cx}{XI:List (Xb×Xp)}{σ:St}{l fa:Xb}{xs:List V}{val:Nat->Int}
def QiD{dv:Option (V×Xc)}{H:Hp}{s:Xe}{Q:VK}{E:Xc->Xe->Prop}(hc:X.calm=true)(I:Inv X XI σ H s)(hl:H l=some (.lst xs))(hd:∀p,dv=some p->RelV p.1 p.2)(h_:∀S,H S=none->B9 X σ S fa xs val H)
  (h0:xs=[]->∃p,dv=some p/\∀H',ag H H'->Q p.1 H')(h1:∀x,xs[cL val<|xs.length - 1]? = some x->∀H',ag H H'->Q x H') :
  Xh (Xg X.prog X.w) X.A (call (.builtin "min") [.ref l] (("key",.ref fa)::dv.toList.map λp=>("default",p.2))) (EP X XI σ Q) E s:=by
 have fY:(toString "min" ++ toString ".loop" : String) = "min.loop" := by decide
 refine QiB F.kind_min F.plain_min F.entry_min (by cases dv with | none=>exact Ql6 _ _ | some p=>exact QjV _ _ _) ?_
 show Xh _ X.A.in1 (Qdk "min" ["key", "default"] 0 ⟨[],("key",.ref fa)::dv.toList.map λp=>("default",p.2)⟩ >>= _) _ _ s;refine Xa (ZM (show Qdk "min" ["key", "default"] 0 ⟨[],("key",.ref fa)::dv.toList.map λp=>("default",p.2)⟩=pure [some<|.ref fa,dv.map (·.2)] by cases dv<;>rfl) ?_);refine Xa<|wpAny_pure ?_;obtain⟨hz,its,n,rl,ll,ot⟩:=I.bF hl;refine Xa<|C_ (l:=l) ⟨_,ot,rfl,_,rfl⟩ ?_;have I1:Inv X XI σ H { s with heap:=s.heap.push { cls:=.type "list_iterator",data:=.fields #[.ref l,.int 0 0] } }:=I.kept (t':=s.toks) λb o e=>Qe _ e
 have hf:aR X XI H s.heap.objs.size:=I.ib (Qf _)<|I.au.fresh<|Qf _;generalize NV:({ s with heap:=s.heap.push { cls:=.type "list_iterator",data:=.fields #[.ref l,.int 0 0] } }:Xe)=s1 at I1;have u9:s1.heap.IsListIter s.heap.objs.size l 0:=by rw[<- NV];exact⟨_,Qo _ rfl,rfl,rfl⟩
 have z1:s1.heap.objs.size=s.heap.objs.size+1:=by rw[<- NV];exact Ym ..
 refine Xa<|Jt ?_;have I2:=I1.jP (t':=s1.toks) (ys:=[]) (its:=[]) .nil<|Q6 _;have fS:H s1.heap.objs.size=none:=I1.au.fresh<|Qf _;have nl:l≠s1.heap.objs.size:=λz=>by rw[z,fS] at hl;cases hl
 have AK:s.heap.objs.size≠s1.heap.objs.size:=by rw[z1];exact Qy<|Dd _
 have kp:kJ s1.heap.objs.size H (upd H s1.heap.objs.size<|.lst []):=λb o hb e=>by rw[QH hb];exact e
 obtain⟨f0,f1,f2,f3,f4,f5⟩:=hf;have jS:aR X XI (upd H s1.heap.objs.size<|.lst []) s.heap.objs.size:=⟨by rw[QH AK];exact f0,f1,f2,f3,f4,f5⟩;have eY:(s1.heap.push { cls:=.type "list",data:=.seq ([]:List Xc).toArray }).IsListIter s.heap.objs.size l 0:=u9.at λo e=>Qe _ e
 have sm:∀{H':Hp},kJ s1.heap.objs.size H H'->ag H H':=λk b o e=>k b o (λz=>by rw[z,fS] at e;cases e) e
 rw[fY];refine wpAny_pure ⟨uD ZU _,?_⟩;cases xs with
 |nil=>
  obtain⟨p,ep,hq⟩:=h0 rfl;subst ep;exact Qim (R:=λr s'=>match r with | .ok (.ret v)=>EP X XI σ Q v s' | .ok _=>False | .error e=>E e s') hl nl hc I2 jS eY kp QC λs' I'=>⟨p.1,_,I',hd p rfl,hq _<|sm kp⟩
 |cons x0 xr=>
  exact Qg7 (R:=λr s'=>match r with | .ok (.ret v)=>EP X XI σ Q v s' | .ok _=>False | .error e=>E e s') hl nl (h_ _ fS) hc (by show 0<xr.length+1;omega) (λu s' H' x hx r I' k=>⟨x,H',I',r,h1 x hx H'<|sm k⟩) I2 jS eY kp QC
end
end L2

namespace L2
open PySem.Calls _root_.Rd _root_.Rk
section
variable{X:Cx}{k:Nat}{fa:Xb}{fd:Zs}{mI:List Str}{sp:Sp}{E0:XK}
def QsC{σ:St}{S:Xb}{xs:List V}{val:Nat->Int}{H0:Hp}(F:aI X.prog X.w X.K X.mg X.base aq k fa fd mI sp)(hr:ao (k+1) X.A)(hb:Binds X.K fd mI [])
  (h:∀(i:Nat)(x:V),xs[i]? = some x->∀H,kJ S H0 H->sp [x] H (λv H'=>v=.int (val i)/\ag H H') E0):B9 X σ S fa xs val H0:=by
 intro i x u g_ s H E hx rx I kb;refine rq<|YN (F.run X.A.in1 X.stack s H ⟨[u],[]⟩ [u] [x] _ E0 hr.in1 I.lD.in1 (hb s [u] I.bP<|F.len _ _ _ _<|h i x hx H kb) (.cons rx .nil)<|h i x hx H kb) λr s' hq=>?_;cases r with
 |error e=>exact Q9 hq
 |ok fl=>
  cases fl with
  |ret u'=>
   obtain⟨v,H',I',rv,rfl,sm⟩:=I.after hq;obtain⟨t,rfl⟩:∃t,u'=.int (val i) t:=by
    first
    |exact rv
    |(cases rv;exact⟨_,rfl⟩)
   exact⟨t,H',rfl,I',sm⟩
  |next=>exact Q9 hq
  |brk=>exact Q9 hq
  |cont=>exact Q9 hq
def QCC(sp:Sp)(E0:XK)(t:TE):TE:=λσ H Q=>t σ H λv H1=>∃(l:Xb)(xs:List V)(val:Nat->Int),v=.ref l/\H1 l=some (.lst xs)/\xs≠[] /\
 (∀(S:Xb)(i:Nat)(x:V),H1 S=none->xs[i]? = some x->∀H,kJ S H1 H->sp [x] H (λv H'=>v=.int (val i)/\ag H H') E0)/\∀x,xs[cL val<|xs.length - 1]? = some x->∀H',ag H1 H'->Q x H'
def QvZ{e:JO}{t:TE}{y:Str}{p fp kp pos:Pos}(F:aI X.prog X.w X.K X.mg X.base aq k fa fd mI sp)(hr:ao (k+1) X.A)(hg:Gl X "min")(hm:X.mg "min" = none)(yg:Gl X y)(yb:X.mg y=some (.ref fa))(hb:Binds X.K fd mI [])(hc:X.calm=true)(h:PE X e t)
  (bE:(y == ("__debug__" : Str))=false:=by decide)(he:Xi [e] X.env=(false,eval e X.env)::Xi [] X.env:=by rfl):PE X (.Call (.Name "min" p) [e] [⟨some "key",.Name y fp,kp⟩] pos) (QCC sp E0 t):=by
 intro XI s σ H Q I hh;refine ZD (ph I hg hm (by rfl) ?_ (by decide)<|by decide);have hh:dX t fj σ H (λvs H1=>match vs with
   |[v]=>∃(l:Xb)(xs:List V)(val:Nat->Int),v=.ref l/\H1 l=some (.lst xs)/\xs≠[]/\(∀(S:Xb)(i:Nat)(x:V),H1 S=none->xs[i]? = some x->∀H,kJ S H1 H->sp [x] H (λv H'=>v=.int (val i)/\ag H H') E0)/\∀x,xs[cL val<|xs.length - 1]? = some x->∀H',ag H1 H'->Q x H'
   |_=>False):=hh
 refine PyProof.Rows.callWith_kw (ax ((Qj h Qp he) pos XI s σ H _ I hh) λus s1 ⟨vs,H1,I1,r1,q1⟩=>?_) ?_ ?_ ?_ ?_
 ·dsimp only at q1
  split at q1
  ·obtain⟨l,xs,val,rfl,hl,cO,hk,hQ⟩:=q1;obtain⟨u,rfl,ru⟩:=vals1 r1;cases ru;refine kws_cons<|uo I1 yg yb (kws_nil ?_) bE;show Xh (Xg X.prog X.w) X.A (call (.builtin "min") [.ref l] [("key",.ref fa)]) _ _ s1;exact QiD (dv:=none) hc I1 hl (λp hp=>nomatch hp) (λS hS=>QsC F hr hb λi x hx H2 kb=>hk S i x hS hx H2 kb) (λe=>X5 e cO) λx hx H' sm=>hQ x hx H' sm
  ·exact q1.elim
 ·rw[he];rfl
 ·rw[he];rfl
 ·rfl
 ·rfl
end
end L2

namespace Dl
open L2 _root_.Rd Rk
section
variable{X:Cx}{E:XK}
def IU{A:Xb->Prop}{H:Hp}:∀{xs:List V}{ds:List Xd},aG A H xs ds->∀(i:Nat)(x:V),xs[i]? = some x->∃d,ds[i]? = some d/\DA A H x d
 |_,_,.nil,i,x,h=>nomatch h
 |_,_,.cons a b,0,x,h=>by cases h;exact⟨_,rfl,a⟩
 |_,_,.cons a b,i+1,x,h=>IU b i x h
def VR{A:Xb->Prop}{H:Hp}:∀{xs:List V}{ds:List Xd},aG A H xs ds->xs.length=ds.length
 |_,_,.nil=>rfl
 |_,_,.cons _ b=>by rw[Qw,Qw,VR b]
@[irreducible] def yN(fD:DF):Xd->(Xd->Prop)->Prop
 |.list ds,Q=>∃val:Nat->Int,ds≠[]/\(∀(i:Nat) d,ds[i]? = some d->fD [.v d] (λr=>r=.int (val i)) XF)/\∀d,ds[cL val<|ds.length - 1]? = some d->Q d
 |_,_=>False
def Qxe{fD:DF}{ds:List Xd}{Q:Xd->Prop}(val:Nat->Int)(h0:ds≠[])(h1:∀(i:Nat) d,ds[i]? = some d->fD [.v d] (λr=>r=.int (val i)) XF)(h:∀d,ds[cL val<|ds.length - 1]? = some d->Q d):yN fD (.list ds) Q:=by
 unfold yN;exact⟨val,h0,h1,h⟩
def QA8(fD:DF)(w:DE):DE:=λδ Q EX=>w δ (λd=>yN fD d Q) EX
def Qwo{k:Nat}{fa:Xb}{fd:Zs}{mI:List Str}{y:Str}{fr:Bool}{fD:DF}{e:JO}{w:DE}{p fp kp pos:Pos}(G:aI X.prog X.w X.K X.mg X.base aq k fa fd mI<|Zz fr fD)(hr:ao (k+1) X.A)(hg:Gl X "min")(hm:X.mg "min" = none)(yg:Gl X y)(yb:X.mg y=some (.ref fa))(hb:Binds X.K fd mI [])(hc:X.calm=true)
  (h:PE X e<|tX .P X.K E w)(bE:(y == ("__debug__" : Str))=false:=by decide)(hs:notStar e=true:=by rfl):PE X (.Call (.Name "min" p) [e] [⟨some "key",.Name y fp,kp⟩] pos) (tX .D X.K E<|QA8 fD w):=by
 refine PE.imp (QvZ (E0:=λ_ _ _=>False) G hr hg hm yg yb hb hc h bE<|nN hs) λσ H Q ⟨F,δ,R,EX,rel,hw,k,o⟩=>?_
 refine⟨F,δ,_,EX,rel,hw,λd hd v H1 aC bO vk=>?_,o⟩;have hd:yN fD d _:=hd;unfold yN at hd;split at hd
 ·rename_i ds
  obtain⟨val,cO,hf,hQ⟩:=hd;obtain⟨l,xs,rfl,e,q⟩:=DP.list vk;have ln:=VR q;refine⟨l,xs,val,rfl,e,λz=>cO (by rw[z] at ln;exact Mh ln.symm),λS i x hS hx H2 kb=>?_,λx hx H' sm=>?_⟩
  ·obtain⟨d,hd,da⟩:=IU q i x hx;refine⟨Av F σ δ,λ_=>False,[.v d],_,XF,λa ha=>?_,λp hp=>hp.elim,.cons ?_ .nil,hf i d hd,λd' e' v H' kq da' _=>?_,λC hC=>hC.elim⟩
   ·obtain⟨ys,hy⟩:=aC.fc ha;exact⟨ys,kb a _ (λz=>by rw[z,hS] at hy;cases hy) hy⟩
   ·exact da.mv (λa o na ha=>kb a o (λz=>by rw[z,hS] at ha;cases ha) ha) λa ha=>.inl ha
   ·subst e';cases da';exact⟨rfl,λb o hb=>kq.1 b o (λz=>z) hb⟩
  ·rw[ln] at hx;obtain⟨d,hd,da⟩:=IU q _ x hx;exact k d (hQ d hd) x H' (aC.same sm) (bO.trans<|Kp.same aC sm)<|da.same sm
 ·exact hd.elim
def Qzx{k:Nat}{fa:Xb}{fd:Zs}{mI:List Str}{y:Str}{fr:Bool}{fD:DF}{e:JO}{w:DE}{p fp kp pos:Pos}(G:aI X.prog X.w X.K X.mg X.base aq k fa fd mI<|Zz fr fD)(hr:ao (k+1) X.A)(hg:Gl X "min")(hm:X.mg "min" = none)(yg:Gl X y)(yb:X.mg y=some (.ref fa))(hb:Binds X.K fd mI [])
  (h:QE .P X E e w)(hc:X.calm=true:=by rfl)(bE:(y == ("__debug__" : Str))=false:=by decide)(hs:notStar e=true:=by rfl):QE .D X E (.Call (.Name "min" p) [e] [⟨some "key",.Name y fp,kp⟩] pos) (QA8 fD w):=⟨Qwo G hr hg hm yg yb hb hc h.h bE hs⟩
end
end Dl

namespace Rk
open L2 _root_.Rd Dl Rt
def Qs6(p q:Int×Int):m_ (pairD p) (pairD q)=if cu p q then .lt else if p=q then .eq else .gt:=by
 obtain⟨a,b⟩:=p;obtain⟨c,d⟩:=q;show ax (tj a c) (ax (tj b d) .eq)=_;unfold tj;by_cases h1:a<c
 ·rw[XZ h1,XZ<|show cu (a,b) (c,d) from QJ h1];rfl
 ·rw[XY h1];by_cases h2:a=c
  ·subst h2;rw[XZ rfl];by_cases h3:b<d
   ·rw[XZ h3,XZ<|show cu (a,b) (a,d) from QU ⟨rfl,h3⟩];rfl
   ·have hn:¬cu (a,b) (a,d):=λz=>by
     have z:a<a∨(a=a/\b<d):=z;omega
    rw[XY h3,XY hn];by_cases h4:b=d
    ·subst h4;rw[XZ rfl,XZ rfl];rfl
    ·rw[XY h4,XY λe=>h4 (ZG e).2];rfl
  ·have hn:¬cu (a,b) (c,d):=λz=>by
    have z:a<c∨(a=c/\b<d):=z;omega
   rw[XY h2,XY hn,XY λe=>h2 (ZG e).1];rfl
def Io:∀L M:List (Int×Int),vf (eX L) (eX M)=true↔gb L M
 |[],[]=>by
  constructor
  ·intro h;cases h
  ·intro h;exact h.elim
 |[],_::_=>⟨λ_=>trivial,λ_=>rfl⟩
 |_::_,[]=>by
  constructor
  ·intro h;cases h
  ·intro h;exact h.elim
 |p::L,q::M=>by
  have ih:=Io L M;show xV (ax (m_ (pairD p)<|pairD q)<|o3 (L.map pairD)<|M.map pairD)=true↔_;have ih:xV (o3 (L.map pairD)<|M.map pairD)=true↔gb L M:=ih;rw[Qs6];by_cases z:cu p q
  ·rw[XZ z];exact⟨λ_=>.inl z,λ_=>rfl⟩
  ·rw[XY z];by_cases y:p=q
   ·rw[XZ y];show xV (o3 (L.map pairD)<|M.map pairD)=true↔_;rw[ih];exact⟨λh=>.inr ⟨y,h⟩,λh=>h.elim (λe=>X5 e z) λe=>e.2⟩
   ·rw[XY y];constructor
    ·intro h;cases h
    ·rintro(h | h)
     ·exact X5 h z
     ·exact X5 h.1 y
def QsA{L M:List (Int×Int)}(h1:gb L M)(h2:gb M L):False:=by
 have a:=(Io L M).mpr h1;have b:=(Io M L).mpr h2;rw[Qsy _ _ a] at b;cases b
end Rk

namespace L2
def Its(x:Str):It:=⟨λi _=>i<x.cps.size,λi H v H'=>H'=H/\∃c,x.cps[i]? = some c/\v=.str ⟨#[c]⟩,λi _=>i=x.cps.size⟩
def WV{prog:QB}{w:Jf}{A:JF}(hh:A.handled=none)(I:Xb)(x:Str)(t:Tok):Walks prog w A I [I] [I] x.cps.size (SignAt x) (λi h=>h.IsStrIter I (strIterType x) x t i):=by
 unfold strIterType;cases ha:x.cps.all (· < 128)
 ·simp only[zZ,if_false];exact Walks.strWide hh I x t
 ·simp only[if_true];exact Walks.strAscii hh I x t
def V_{prog:QB}{w:Jf}{A:JF}(hh:A.handled=none)(it:Xb)(x:Str)(t:Tok):Draws prog w A it [it] x.cps.size (λi v=>∃c u,x.cps[i]? = some c/\v=.str ⟨#[c]⟩ u) (λi h=>h.IsStrIter it (strIterType x) x t i):=by
 unfold strIterType;cases ha:x.cps.all (· < 128)
 ·simp only[zZ,if_false];exact Draws.strWide hh it x t
 ·simp only[if_true];exact Draws.strAscii hh it x t
def QfY{prog:QB}{w:Jf}{A:JF}{E:Xc->Xe->Prop}{s:Xe}{it:Xb}{x:Str}{t:Tok}{i:Nat}{Q:Xc->Xe->Prop}(hit:s.heap.IsStrIter it (strIterType x) x t i)(h:Q (.ref it) s):Xh (Xg prog w) A (pyIter<|.ref it) Q E s:=by
 unfold strIterType at hit;cases ha:x.cps.all (· < 128)
 ·rw[ha] at hit;exact wpAny_pyIter_striter_wide hit h
 ·rw[ha] at hit;exact wpAny_pyIter_striter_ascii hit h
def QjE(x:Str):["enumerate", "zip", "dict_itemiterator", "dict_reverseitemiterator", "odict_iterator", "itertools.zip_longest", "itertools.pairwise"].contains (strIterType x)=false:=by
 unfold strIterType;split<;>decide
def Qp3{P:QB}{w:Jf}{K:Qa}{tg:JO}(it:Xb)(x:Str)(t:Tok):Turn P w K tg (Its x) [it] it (λi h=>h.IsStrIter it (strIterType x) x t i) where
 mem:=by simp
 obj:=λi h st b hb=>by
  have e:b=it:=by simpa using hb
  subst e;obtain⟨o,e,c,d⟩:=st;exact⟨o,e,λv z=>by rw[d] at z;cases z⟩
 keep:=λi h h' st k=>by
  obtain⟨o,e,r⟩:=st;exact⟨o,k it (by simp) o e,r⟩
 item:=by
  intro X hP hw hK hc i XI s σ H E I hf st hg;subst hP hw hK;obtain⟨f0,f1,f2,f3,f4,f5⟩:=hf it (by simp);refine(WV (I.ok.hd hc) it x t).item i s _ _ hg st λv h' tk hv bH kk=>?_
  obtain⟨c,u,hx,rfl⟩:=hv;have I1:Inv X XI σ H { s with heap:=h',toks:=tk }:=I.turned (λb o hb e=>kk b o (by simpa using hb) e) f0 f1 f3 f4 f5;obtain⟨o,e,cc,d⟩:=id bH;exact⟨_,rfl,yM (s:={ s with heap:=h',toks:=tk }) e cc d (QjE x) ⟨.str ⟨#[c]⟩,H,I1,⟨u,rfl⟩,⟨rfl,c,hx,rfl⟩,bH,λb hb=>(hf b hb).1⟩⟩
 done:=by
  intro X hP hw hK hc i XI s σ H E I hf st hg;subst hP hw hK;have hg:i=x.cps.size:=hg;subst hg;obtain⟨f0,f1,f2,f3,f4,f5⟩:=hf it (by simp);exact(WV (I.ok.hd hc) it x t).done s _ _ st λh' tk kk=>⟨rfl,I.turned (λb o hb e=>kk b o (by simpa using hb) e) f0 f1 f3 f4 f5⟩
 self:=λ_ _ _ _ _ st h=>QfY st h
def QE1(tl:TE):TI:=λσ H R=>tl σ H λv H1=>∃x,v=.str x/\R (Its x) H1
def Ies(x:Str):It:=⟨λi _=>i<x.cps.size,λi H v H'=>∃p c,H p=none/\x.cps[i]? = some c/\v=.ref p/\H'=upd H p (.tup [.int (i:Nat),.str ⟨#[c]⟩]),λi _=>i=x.cps.size⟩
def Qly{P:QB}{w:Jf}{K:Qa}{elts:List JO}{x1}{cV:Pos}{e it:Xb}{x:Str}{t:Tok}(cO:e≠it) :
  Turn P w K (.Tuple elts x1 cV) (Ies x) [e,it] e (λi h=>(∃old,IsEnum h e it (i:Nat) old)/\h.IsStrIter it (strIterType x) x t i) where
 mem:=by simp
 obj:=λi h st b hb=>by
  obtain⟨⟨old,a1⟩,⟨o2,a2,_,d2⟩⟩:=st;simp only[Qv,Jo,or_false] at hb;rcases hb with rfl | rfl
  ·exact⟨_,a1,λv q=>nomatch q⟩
  ·exact⟨_,a2,λv q=>by rw[d2] at q;cases q⟩
 keep:=λi h h' st k=>by
  obtain⟨⟨old,a1⟩,⟨o2,a2,c2⟩⟩:=st;exact⟨⟨old,k e (by simp) _ a1⟩,o2,k it (by simp) _ a2,c2⟩
 item:=by
  intro X hP hw hK hc i XI s σ H E I hf st hg;subst hP hw hK;obtain⟨⟨old,a1⟩,a2⟩:=st;refine wpAny_pyNext_enum_itemD (V_ (A:=X.A.in1) (I.ok.hd hc) it x t) a1 a2 hg cO (by simp[cO]) λy h' tk hy o' l' tp sz kp=>?_
  obtain⟨c,u,hx,rfl⟩:=hy;have fr:H s.heap.objs.size=none:=I.au.fresh<|Qf _;have n1:e≠s.heap.objs.size:=Qy<|Ql a1;have n2:it≠s.heap.objs.size:=by
   obtain⟨o2,a2,_⟩:=a2;exact Qy<|Ql a2
  refine⟨_,rfl,Vb o' λh2 e2 s2=>?_⟩;have I1:Inv X XI σ (upd H s.heap.objs.size<|.tup [.int (i:Nat),.str ⟨#[c]⟩]) { s with heap:=h2,toks:=tk+1 }:=by
   refine I.fU (ch:=[e,it]) hf (λb v hb q=>?_) (Qf _) ⟨by show 2<=Xj;decide,[.int (i:Nat) tk,.str ⟨#[c]⟩ u],.cons ⟨_,rfl⟩<|.cons ⟨_,rfl⟩ .nil,?_⟩
   ·simp only[Qv,Jo,or_false,not_or] at hb;exact s2.extBut _ _ hb.1<|kp b v hb.1 hb.2 q
   ·exact⟨_,s2.extBut _ _ n1.symm tp,rfl,rfl,0,rfl⟩
  refine⟨.ref s.heap.objs.size,_,I1,rfl,⟨_,c,fr,hx,rfl,rfl⟩,⟨⟨_,e2⟩,?_⟩,λb hb=>?_⟩
  ·exact l'.extBut s2.extBut cO.symm
  ·simp only[Qv,Jo,or_false] at hb;rcases hb with rfl | rfl
   ·rw[QH n1];exact(hf _<|by simp).1
   ·rw[QH n2];exact(hf _<|by simp).1
 done:=by
  intro X hP hw hK hc i XI s σ H E I hf st hg;subst hP hw hK;have hg:i=x.cps.size:=hg;subst hg;obtain⟨⟨old,a1⟩,a2⟩:=st;refine wpAny_pyNext_enum_endD (V_ (A:=X.A.in1) (I.ok.hd hc) it x t) a1 a2 λh' kp=>⟨rfl,I.fV (t':=s.toks) (ch:=[e,it]) hf λb v hb q=>?_⟩
  simp only[Qv,Jo,or_false,not_or] at hb;exact kp b v hb.2 q
 self:=λ_ _ _ _ _ st h=>by
  obtain⟨⟨old,a1⟩,_⟩:=st;exact C9 a1 h
def PH(ta:TA):TI:=λσ H R=>ta σ H λvs H1=>∃x,vs=[.str x]/\R (Ies x) H1
section
variable{X:Cx}
def QzC{tg l:JO}{tl:TE}(hl:PE X l tl):PI X tg l (QE1 tl):=by
 intro XI s σ H R I h;refine ax (hl XI s σ H _ I h) λv s1 ⟨x,H1,I1,r1,z,e,q⟩=>?_
 subst e;obtain⟨t,rfl⟩:=r1;refine wpAny_pyIter_strU ?_
 refine⟨s1.heap.objs.size,[s1.heap.objs.size],_,_,H1,rfl,I1.kept (t':=s1.toks) λb o e=>Qe _ e,Qp3 _ z t,⟨_,Qo _ rfl,rfl,rfl⟩,λb hb=>?_,q⟩;have e:b=s1.heap.objs.size:=by simpa using hb
 subst e;exact I1.ib (Qf _)<|I1.au.fresh<|Qf _
def Qrw{a:JO}{elts:List JO}{x1}{cV:Pos}{ta:TA}{p pos:Pos}(hg:Gl X "enumerate")(hm:X.mg "enumerate" = none)(ha:PA X [a] ta)(hs:Xi [a] X.env=[(false,eval a X.env)]:=by rfl) :
  PI X (.Tuple elts x1 cV) (.Call (.Name "enumerate" p) [a] [] pos) (PH ta):=by
 intro XI s σ H R I h;refine Call_<|ph I hg hm WC<|J4 (ax (ha pos XI s σ H _ I h) λus s1 ⟨vs,H1,I1,r1,q1⟩=>?_) hs rfl;obtain⟨x,e,q⟩:=q1;subst e;obtain⟨u,rfl,ru⟩:=vals1 r1;obtain⟨t,rfl⟩:=ru;refine call_enumerate_str λh' e1 i1 sz kp=>?_
 refine C9 (s:={ s1 with heap:=h' }) e1 ?_
 refine⟨s1.heap.objs.size+1,_,_,_,H1,rfl,I1.kept (t':=s1.toks) kp,Qly (by show ¬(s1.heap.objs.size+1=s1.heap.objs.size);omega),⟨⟨_,e1⟩,i1⟩,λb hb=>?_,q⟩;have dP:s1.heap.objs.size<=b:=by
  simp only[Qv,Jo,or_false] at hb;rcases hb with rfl | rfl<;>omega
 exact I1.ib dP<|I1.au.fresh dP
end
end L2

namespace Rk
open L2 _root_.Rd
def QAa(c d:Nat):((⟨#[c]⟩:Str)=⟨#[d]⟩)↔c=d:=by
 constructor
 ·intro h;have:=X6 Str.cps h
  simpa using this
 ·rintro rfl;rfl
def QxJ(c d:Nat):decide (V.str ⟨#[c]⟩=V.str ⟨#[d]⟩)=decide (c=d):=by
 by_cases h:c=d
 ·subst h;simp
 ·rw[X0 h];refine X0 λz=>h<|(QAa c d).mp ?_
  injection z
end Rk

namespace Rx
open PySem.Calls L2
section
variable{X:Cx}{k:Nat}{f C:Xb}{fd:Zs}{ps:List Str}{sp:Sp}{m:Str}{apos pos:Pos}{o e:JO}{es:List JO}{ta:TE}{t:TA}
def zN{pl:Sem Bool}(he:PE X.jm o ta)(c:iM X.K C)(hm:iw X.K C m f)(F:aI X.prog X.w X.K X.mg X.base (aQ X.prog X.w) k f fd ps sp)(hr:ao k X.A)(hb:Binds X.K fd ps [])(hex:X.ex=[])
  (ht:eval (.Call (.Attribute o m apos) [] [] pos) X.env=(do
   let ov <- eval o X.env
   Xu apos.atName
   let (f,first) <- Xt [ov] (XB ov m pl)
   XC pos f first (Xq pos<|Xi [] X.env) (Xz pos<|Xy [] X.env)):=by rfl) :
  wY X (.Call (.Attribute o m apos) [] [] pos) (RN C m sp ta fj):=by
 intro XI s σ H Q Ex I h;refine Du (pl:=pl) (Xk (he XI s σ H _ (I.cQ _) h) (λu s1 ⟨x,H1,J1,rx,a,dx,fs,ex,ea,l,q⟩=>?_) λ_ _ z=>Q9 z) ht;subst ex;obtain rfl:u=JM a:=rx;have I1:Inv X XI σ H1 s1:=J1.a7;refine C5 I1 ea c hm l ?_
 exact LJ (first:=[.ref a]) I1.bP hm.kp<|ON (us:=[.ref a]) (vs:=[.ref a]) F hr hb hex I1 (.cons rfl .nil) q
end
end Rx

namespace Rk
open L2 _root_.Rd Dl Rt
def QrW{cs:List (Int×Int)}{S T:List (List (Int×Int))}(hs:∀L∈S,l_ cs L)(ht:∀L∈T,l_ cs L)(cS:∀y∈cs,∃L∈S,y∈L)(cT:∀y∈cs,∃L∈T,y∈L)(oS:S.Pairwise gb)(oT:T.Pairwise gb):S=T:=by
 have nd:∀{S:List (List (Int×Int))},S.Pairwise gb->S.Nodup:=λ{S} h=>WZ (R:=gb) (S:=λa b=>a≠b) (λ{S T} z (e:S=T)=>I_ S (by rw[<- e] at z;exact z)) h
 have sub:∀{S T:List (List (Int×Int))},(∀L∈S,l_ cs L)->(∀L∈T,l_ cs L)->(∀y∈cs,∃L∈T,y∈L)->∀L∈S,L∈T:=λ{S T} hs ht cT L hL=>by
  obtain⟨a,ha,hh⟩:=(hs L hL).has;obtain⟨M,hM,am⟩:=cT a ha;rw[(hs L hL).same (ht M hM) ((hh a).mpr<|.refl ha) am];exact hM
 have p:S.Perm T:=(Zg (nd oS)<|nd oT).mpr λL=>⟨sub hs ht cT L,sub ht hs cS L⟩
 exact ZQ (le:=gb) (λa b _ _ h1 h2=>(QsA h1 h2).elim) oS oT p
end Rk

namespace L2
open PySem.Calls _root_.Rd _root_.Rk Dl
def QiP(a b:JO)(p:Pos)(args:List JO)(NM:List tz)(pos:Pos)(env:Env):eval (.Call (.Subscript a b p) args NM pos) env=(do
  XC pos (<- eval (.Subscript a b p) env) [] (Xq pos<|Xi args env) (Xz pos<|Xy NM env)):=rfl
end L2


namespace Rk
open L2 _root_.Rd
open Dl
open Rt
abbrev Sj:Ze:=top 65
abbrev OO:Ze:=top 66
abbrev OQ:Ze:=top 67
def YB{X:Cx}{st:Ze}:PS X st (λ_ _ _=>False):=λ_ _ _ _ _ _ h=>h.elim
def PB:Sp:=λvs H Q _=>∃(L:List (Int×Int))(w r:Nat),vs=[.str<|gU L w r]/\w<=6/\∀H',ag H H'->Q (.bl true) H'
def Pz:Sp:=λvs H Q _=>∃(l:Xb)(L:List (Int×Int))(h w:Nat),vs=[.ref l]/\H l=some (.lst<|(YL (h+1) w L).map V.str)/\h<6/\1<=w/\w<=6/\∀H',ag H H'->Q (.bl true) H'
def SE:Sp:=λvs H Q _=>∃(k:Bo),vs=[.str<|jG k.h k.w<|af k.h k.w k.f]/\k.ok/\∀v H',ag H H'->DA N0 H' v k.d->Q v H'
def Vh{L:List (Int×Int)}{w r i c:Nat}(h:(gU L w r).cps[i]? = some c):c=if((r:Int),(i:Int))∈L then 35 else 46:=by
 have e:(gU L w r).cps.toList[i]? = some c:=by rw[Dz];exact h
 rw[CD,Qt] at e;obtain⟨j,hj,e⟩:=Jk.mp e;obtain⟨hi,e2⟩:=QX.mp hj;rw[Tc] at e2;rw[<- e,<- e2]
def KC(L:List (Int×Int))(w r:Nat):(gU L w r).cps.size=w:=rp L w r
def wA{L:List (Int×Int)}{h w i:Nat}(hi:i<h):((YL h w L).map V.str)[i]? = some (.str<|gU L w i):=by
 unfold YL;rw[Q4,Qt,JN hi];rfl
def QDf:(["sign"]:List Str).Nodup:=by decide
def QDe:(["signs", "wide"]:List Str).Nodup:=by decide
def Cg:(["row", "signs", "column", "sign"]:List Str).Nodup:=by decide
section
variable{P:QB}{w:Jf}{K:Qa}{mg:Str->Option Xc}{base:Xl}
def QAk(F:az P w K mg base "has_board_signs" OQ)(T:aB mg){uC uO:_}(mC:mg "CELL" = some (.str jV uC))(mO:mg "OTHER" = some (.str mQ uO)) :
  ar P w K mg base aq 1 "has_board_signs" PB:=by
 refine fG ["signs"] 1 F λaj A outer s H vs Q E nD hr h=>?_
 obtain⟨L,w',r,rfl,h6,k⟩:=h;refine⟨_,QP<|JV<|Zc Km (by rfl) T.all HH<|Qj (YC (M:=["sign"]) (cap:=[none]) (g:=Yu 0) (tc:=YF) (te:=ji (xy K false) (bV 0)<|BA<|dX (tC<|.str jV)<|dX (tC<|.str mQ) fj) rfl (by rfl)
   (QzC<|pv 0) (λcl ex s3 H3 C=>⟨ZC (i:=0) QDf rfl (QJ rfl)<|QU rfl,j8,pA Wn (pv 0) (Y1<|a_ (Za (v:=.str jV) (by rfl) mC ⟨uC,rfl⟩)<|a_ (Za (v:=.str mQ) (by rfl) mO ⟨uO,rfl⟩) Qp)<|by rfl⟩)) Qp,?_⟩
 have sz:=KC L w' r;refine⟨_,rfl,_,rfl,λpl hpl=>?_⟩;refine Y5 w' (Zv<|by omega) (λi=>some<|.bl true) hpl (λi H2 hi s2=>?_) (λH2 s2=>by show w'=_;rw[sz]) λH2 s2 e2=>?_
 ·refine⟨by show i<_;rw[sz];exact hi,λv H3 ⟨eH,c,hc,ev⟩ kn kv h1 h2=>?_⟩;subst eH ev;have ec:=Vh hc;refine⟨trivial,?_⟩;refine(bI (B:=kn H3) ?_:if true=true then _ else kn H3);refine⟨_,rfl,by show 2<=1000;decide,λt H4 s4 n4 e4=>?_⟩;refine⟨t,_,rfl,.inr<|aP.of e4,rfl,rfl,?_⟩;have e5:qd (.str ⟨#[c]⟩) [.str jV,.str mQ]=true:=by
   rw[ec];split<;>decide
  show kv (.bl<|qd (.str ⟨#[c]⟩) [.str jV,.str mQ]) _;rw[e5];exact h2 _ rfl H4 s4
 ·rw[lB] at e2;have e3:H2 pl=some (.lst<|((QD w').map λ_=>true).map V.bl):=by rw[e2,Q4];rfl
  refine⟨pl,_,rfl,aA.of e3,rfl,?_⟩;rw[show((QD w').map λ_=>true).all id=true by rw[Cj];exact JZ.mpr λ_ _=>rfl];exact k H2 s2
def QAm(F:az P w K mg base "are_rows" OO)(T:aB mg){tk:_}(NY:mg "MOST_LINES" = some (.int 6 tk))
   (c1:ar P w K mg base aq 1 "has_board_signs" PB) :
  ar P w K mg base aq 2 "are_rows" Pz:=by
 refine fG ["rows", "wide"] 1 F λaj A outer s H vs Q E nD hr h=>?_
 obtain⟨l,L,h,w',rfl,hl,h6,w1,w6,k⟩:=h;refine⟨_,Qu (ip 1 nD<|Zc LV (by rfl) T.len iK<|Qj (fm Yn (pv 0) Jj λ_ _=>rfl) Qp)
   (Qu (d_ (PW.pt<|nv (JK yQ (Zc Zx (by rfl) T.len iK<|Qj (pv 0) Qp) (Za (v:=.int 6) (by rfl) NY ⟨tk,rfl⟩)<|JE _)<|nv (JK yR (pv 1) Jj<|JE _)<|ua<|JK yQ (pv 1) (Za (v:=.int 6) (by rfl) NY ⟨tk,rfl⟩)<|JE _) (QP YB) Zu)
   (QP<|JV<|Zc Km (by rfl) T.all HH<|Qj (YC (M:=["signs", "wide"]) (cap:=[none,some 1]) (g:=Yu 0) (tc:=YF) rfl (by rfl)
    (wD<|pv 0) (λcl ex s3 H3 C=>⟨ZC (i:=0) QDe rfl (QJ rfl)<|QU rfl,j8,BV (pA iI (Zc LV (by rfl) T.len iK<|Qj (pv 0) Qp) (pv 1)<|JE _)<|BW<|Zr c1 hr<|Qj (pv 0) Qp⟩)) Qp)),?_⟩
 have ll:((YL (h+1) w' L).map V.str).length=h+1:=by rw[Qd,zK]
 have rl:∀r,((gU L w' r).length:Int)=w':=λr=>by rw[rp]
 refine⟨_,rfl,l,_,0,_,rfl,rfl,aA.of hl,Jc (j:=0)<|wA<|Cq h,_,rfl,by rw[rp];exact Ja<|pC<|by omega,?_⟩;refine⟨_,rfl,l,_,rfl,.inl<|aA.of hl,_,_,rfl,rfl,_,rfl,?_⟩;rw[ll,rl,X0<|show ¬(6:Int)<((h+1:Nat):Int) by omega];refine a9 ⟨_,rfl,_,_,rfl,rfl,_,rfl,?_⟩;rw[X0<|show ¬(w':Int)<1 by omega];refine a9 ⟨_,rfl,_,_,rfl,rfl,_,rfl,?_⟩;rw[X0<|show ¬(6:Int)<(w':Int) by omega];refine a9 ?_
 refine⟨_,rfl,l,rfl,⟨_,aA.of hl⟩,λpl hpl=>?_⟩;refine Y5 (h+1) (Zv<|by omega) (λi=>some<|.bl true) hpl (λi H2 hi s2=>?_) (λH2 s2=>?_) λH2 s2 e2=>?_
 ·refine⟨⟨_,_,aA.of<|s2 _ _ hl,wA hi⟩,λv H3 ⟨eH,ev⟩ kn kv h1 h2=>?_⟩;subst eH;have ev:=ev _<|aA.of<|s2 _ _ hl;rw[wA hi] at ev;cases ev;refine⟨⟨rfl,trivial⟩,?_⟩;refine(bI (B:=kn H3) ?_:if true=true then _ else kn H3);refine⟨_,rfl,_,rfl,by rw[rp];exact Ja<|pC<|by omega,_,rfl,rfl,_,rfl,?_⟩;rw[rl,X1 rfl];refine bI ⟨_,rfl,L,w',i,rfl,w6,λH4 s4=>h2 _ rfl H4 s4⟩
 ·exact⟨_,aA.of<|s2 _ _ hl,by rw[ll];exact Qf _⟩
 ·rw[lB] at e2;have e3:H2 pl=some (.lst<|((QD<|h+1).map λ_=>true).map V.bl):=by rw[e2,Q4];rfl
  refine⟨pl,_,rfl,aA.of e3,rfl,?_⟩;rw[show((QD<|h+1).map λ_=>true).all id=true by rw[Cj];exact JZ.mpr λ_ _=>rfl];exact k H2 s2
end
end Rk


namespace Rk
open L2 _root_.Rd
open Dl
open Rt
def Qh0(f:Nat->Nat->Bool)(h w:Nat):nL (λi j=>if f i j=true then some ((i:Int),(j:Int)) else none) w h=af h w f:=by
 have:∀(i:Nat)(l:List Nat),l.filterMap (λj=>if f i j=true then some ((i:Int),(j:Int)) else none)=(l.filter<|f i).map λ(c:Nat)=>((i:Int),(c:Int)):=λi l=>by
  induction l with
  |nil=>rfl
  |cons a l ih=>rw[Y8,List.filter_cons,ih];cases f i a<;>rfl
 unfold nL af gG
 congr 1
 funext i
 exact this i _
def Rh{p:Xb}{H:Hp}:∀{ys:List V}{L:List (Int×Int)},Cs p H ys L->aG N0 H ys (L.map pairD)
 |_,_,.nil=>.nil
 |_,_,.cons ⟨_,_,e,h⟩ r=>by subst e;exact .cons (.tup (λz=>z) h<|.cons (.int _)<|.cons (.int _) .nil)<|Rh r
def TF{L:List (Int×Int)}{h w:Nat}{u:Str}(hu:u∈YL h w L):∃r,u=gU L w r:=by
 unfold YL at hu;obtain⟨r,_,rfl⟩:=Qq.mp hu;exact⟨r,rfl⟩
def Qp0{L:List (Int×Int)}{h w:Nat}(h6:h<=6)(w6:w<=6):(jG h w L).length<=50:=by
 show(jG h w L).cps.toList.length<=50;unfold jG;rw[zB];have ll:=zK h w L;have lw:∀u∈YL h w L,u.length=w:=λu hu=>by obtain⟨r,rfl⟩:=TF hu;exact rp L w r
 cases e:YL h w L with
 |nil=>decide
 |cons a ts=>
  rw[e] at ll lw;rw[nQ,Qg];have h1:a.cps.toList.length=w:=lw a<|.head _;have h2:=Cv (k:=w+1) (f:=λu:Str=>mS.cps.toList++u.cps.toList) (xs:=ts) λx hx=>by rw[Qg,show x.cps.toList.length=w from lw x<|.tail _ hx];show 1+w<=_;omega
  rw[Qw] at ll;have:ts.length*(w+1)<=5*7:=YW (by omega) (by omega);omega
section
variable{P:QB}{w:Jf}{K:Qa}{mg:Str->Option Xc}{base:Xl}
def QwP(F:az P w K mg base "read" Sj)(T:aB mg){uB uC:_}(mB:mg "BETWEEN" = some (.str mS uB))(mC:mg "CELL" = some (.str jV uC))
   (c1:ar P w K mg base aq 2 "are_rows" Pz) :
  ar P w K mg base aq 3 "read" SE:=by
 refine fG ["text", "rows", "cells"] 1 F λaj A outer s H vs Q E nD hr h=>?_
 obtain⟨⟨h,w',f⟩,rfl,o,k⟩:=h;obtain⟨h1,h6,w1,w6⟩:=o;obtain⟨m,rfl⟩:∃m,h=m+1:=⟨h - 1,by have:1<=h:=h1;omega⟩
 have h6:m+1<=6:=h6;have w1:1<=w':=w1;have w6:w'<=6:=w6;refine⟨_,Qu (d_ (QT.h (E:=E0)<|o_<|pe<|JC<|zd .str (by rfl) T.isinstance (qp 0) (by rfl) T.str kD) (QP YB) Zu)
   (Qu (ip 1 nD<|i6 JG Ww Wx VA (pv 0)<|Qj (Za (v:=.str mS) (by rfl) mB ⟨_,rfl⟩) Qp)
   (Qu (d_ (o8<|tZ<|Zr c1 hr<|Qj (pv 1) Qp) (QP YB) Zu)
   (Qu (W' (i:=2) (M:=["row", "signs", "column", "sign"]) (cap:=[none,none,none,none])
    (g:=qE K 2<|jH (Yu 0)<|jH (Yu 1) qD) (tc:=YF) (wi2:=PH<|dX (bV 1) fj) (g2:=qE K 2<|jH (Yu 2)<|jH (Yu 3) qD)
    (tc2:=Hc<|ji EG (bV 3)<|tC<|.str jV) (te:=BA<|dX (bV 0)<|dX (bV 2) fj) nD rfl rfl rfl (by rfl)
    (Ur (by rfl) T.enumerate<|Qj (pv 1) Qp)
    (λcl ex s3 H3 C=>⟨lV rfl<|J3 (ZC (i:=0) Cg rfl (QJ rfl)<|QU rfl)<|J3 (ZC (i:=1) Cg rfl (QJ rfl)<|QU rfl) l9,j8,
     Qrw (by rfl) T.enumerate (Qj (pv 1) Qp),lV rfl<|J3 (ZC (i:=2) Cg rfl (QJ rfl)<|QU rfl)<|J3 (ZC (i:=3) Cg rfl (QJ rfl)<|QU rfl) l9,
     IF (JK iI (pv 3) (Za (v:=.str jV) (by rfl) mC ⟨_,rfl⟩)<|JE _),Y1<|a_ (pv 0)<|a_ (pv 2) Qp⟩))
   (QP<|JV<|Y1<|a_ (Zc Zx (by rfl) T.len iK<|Qj (pv 1) Qp)<|a_ (Zc LV (by rfl) T.len iK<|Qj (fm Yn (pv 1) Jj λ_ _=>rfl) Qp)<|a_ (Zq L8 (by rfl) T.tuple rg<|Qj (pv 2) Qp) Qp)))),?_⟩
 have el:YL (m+1) w' (af (m+1) w' f)=gU (af (m+1) w' f) w' 0::(YL (m+1) w'<|af (m+1) w' f).tail:=by
  unfold YL;rw[List.range_succ_eq_map];rfl
 generalize hL:af (m+1) w' f=L at el;refine AQ [.v<|.str<|jG (m+1) w' L,.no,.no] (.cons ⟨_,rfl,.str _<|Qvg L<|Cq m⟩<|.cons Jn<|.cons Jn .nil) ?_
 refine λH0 s0=>?_
 show if(false:Bool)=true then _ else _
 refine a9 ?_
 have wl:=Qp0 (L:=L) h6 w6;refine⟨_,rfl,rfl,jG (m+1) w' L,mS,rfl,rfl,rfl,by omega,λl H1 s1 n1 e1=>?_⟩;have es:Z5 (jG (m+1) w' L) mS=YL (m+1) w' L:=by
  unfold jG;rw[el];refine Qga λp hp z=>?_
  rw[<- el] at hp;obtain⟨r,rfl⟩:=TF hp;rw[CD] at z;obtain⟨c,_,e⟩:=Qq.mp z;split at e<;>cases e
 rw[es] at e1;refine⟨_,rfl,l,L,m,w',rfl,e1,by omega,w1,w6,λH2 s2=>⟨_,rfl,?_⟩⟩;refine a9 ?_
 have e2:=s2 _ _ e1;refine⟨_,rfl,l,_,rfl,e2,λpl hpl=>?_⟩;refine Qs0 (m+1) w' (QQ (YW h6 w6)<|by decide) (by omega) (λi j=>if f i j=true then some ((i:Int),(j:Int)) else none) hpl (λi H3 hi s3 _=>?_) (λH3 s3=>?_) λH3 ys s3 ey cy=>?_
 ·refine⟨⟨_,_,s3 _ _ e2,wA hi⟩,λv H4 ⟨a,x',ha,hx,ev,eH⟩ kk2 kk hk=>?_⟩;have ex:=hx _<|s3 _ _ e2;rw[wA hi] at ex;cases ex;subst ev eH;refine⟨a,[.int (i:Nat),.str<|gU L w' i],rfl,aP.of QC,rfl,.int (i:Nat),[.str<|gU L w' i],rfl,.str<|gU L w' i,[],rfl,rfl,⟨trivial,bI ?_⟩⟩;refine⟨_,rfl,_,rfl,hk _ _ _ (Jl ha) ⟨λj H6 hj s6 ⟨zs,ez⟩=>⟨?_,λy H7 ⟨b,c,dP,hc,ev2,eH2⟩ Fv kv h1 h2=>?_⟩,λH6 s6=>?_⟩⟩
  ·show j<_;rw[KC];exact hj
  ·subst ev2 eH2;have ec:=Vh hc;refine⟨b,[.int (j:Nat),.str ⟨#[c]⟩],rfl,aP.of QC,rfl,.int (j:Nat),[.str ⟨#[c]⟩],rfl,.str ⟨#[c]⟩,[],rfl,rfl,⟨⟨rfl,rfl,trivial⟩,?_⟩⟩;refine⟨_,rfl,rfl,_,rfl,?_⟩;have em:((i:Int),(j:Int))∈L↔f i j=true:=by
    rw[<- hL,JY];constructor
    ·rintro⟨r,c,_,_,hf,e⟩;have e1:=X6 Prod.fst e;have e2:=X6 Prod.snd e;have e1:(i:Int)=r:=e1;have e2:(j:Int)=c:=e2;rw[Po.mp e1,Po.mp e2];exact hf
    ·exact λhf=>⟨i,j,hi,hj,hf,rfl⟩
   rw[QxJ];by_cases hm:f i j=true
   ·rw[XZ<|em.mpr hm] at ec;rw[X1 ec];refine bI ⟨_,rfl,_,rfl,by show 2<=1000;decide,λt2 H9 s9 n9 e9=>?_⟩;exact h2 ((i:Int),(j:Int)) t2 H9 (XZ hm) ((Jl dP).trans s9) (QDh (Jl dP _ _ ez) n9) e9
   ·rw[XY λz=>hm<|em.mp z] at ec;rw[X0<|show ¬c=35 by omega];exact a9<|h1 (XY hm) _<|Jl dP
  ·show _=_;exact(KC L w' i).symm
 ·exact⟨_,s3 _ _ e2,by rw[Qd,zK];exact Qf _⟩
 ·rw[Qh0,hL] at cy;refine⟨_,rfl,l,_,rfl,.inl<|aA.of<|s3 _ _ e2,_,rfl,l,_,0,_,rfl,rfl,aA.of<|s3 _ _ e2,Jc (j:=0)<|wA<|Cq m,_,rfl,?_,_,rfl,pl,ys,rfl,.inl ⟨aA.of ey,λl2 xH=>QCt xH λH4 s4 e4=>⟨by show 3<=1000;decide,λt5 H5 s5 n5 e5=>?_⟩⟩⟩
  ·rw[rp];exact Ja (Zv<|by omega)
  ·refine k (.ref t5) H5 (((((s0.trans s1).trans s2).trans s3).trans s4).trans s5) ?_
   rw[Qd,zK,rp] at e5;show DA N0 H5 (.ref t5)<|.tuple [.int ((m+1:Nat):Int),.int (w':Int),.tuple<|(af (m+1) w' f).map pairD];rw[hL];exact .tup (λz=>z) e5<|.cons (.int _)<|.cons (.int _)<|.cons (.tup (λz=>z) (s5 _ _ e4)<|(Rh cy).same<|s4.trans s5) .nil
end
end Rk


namespace Rk
open L2 _root_.Rd
open Dl
open Rt
abbrev OR:Ze:=top 49
abbrev Sq:Ze:=top 50
abbrev OP:Ze:=top 52
abbrev Sf:Ze:=top 53
abbrev xq:Ze:=top 54
def Fq(rows:List Int)(ms:List Nat):Xd:=.tuple [tN rows,.tuple<|ms.map λ(x:Nat)=>Qr x]
def NJ:DF:=λargs R _=>∃(h w:Int)(cs:List (Int×Int))(rows:List Int),args=[.v<|cX h w cs,.v<|tN rows]/\(∀p∈cs,0<=p.2/\p.2<6)/\∀ms:List Nat,ms.length<=6->R (Fq rows ms)
def QEi:DF:=λargs R _=>∃(rows:List Int)(ms:List Nat),args=[.v<|Fq rows ms]/\R (.int<|(rows.length:Int)+(ms.length:Int))
def QAv:DF:=λargs R _=>∃h:Nat,args=[.v<|.int h]/\h<=6/\∀ds:List Xd,0<ds.length->ds.length<=64->(∀d∈ds,∃r:List Int,d=tN r/\r.length<=6)->R (.list ds)
def QEk:DF:=λargs R _=>∃(h w:Nat)(cs:List (Int×Int)),args=[.v<|cX h w cs]/\GB h w cs/\∀ln,R ln
def pY:DF:=λargs R _=>∃(k:Bo),args=[.v k.d]/\k.ok/\∀(m:Nat)(L:List (Int×Int)) ln,lU (af k.h k.w k.f) k.h k.w m->(fB (af k.h k.w k.f) m)[0]? = some L->R (.tuple [eX L,ln])
def QBf{items:List Xd}{wg:DG}{we:DE}{δ:aU}{Q:Xd->Prop}(G:Xd->Prop)
  (h:∀d∈items,∀(k2:Xd->Prop),(∀e,G e->k2 e)->wg d δ λδ4=>we δ4 k2 XF)(q:∀ds,ds.length=items.length->(∀e∈ds,G e)->Q (.list ds)) :
  oZ items wg DN we δ Q:=by
 unfold oZ;refine⟨λi acc=>acc.length=i/\∀e∈acc,G e,⟨rfl,λ_ z=>nomatch z⟩,λi acc d hd ⟨e,a⟩=>?_,λacc ⟨e,a⟩=>q acc e a⟩;refine h d (Je hd) _ λx gx=>⟨by rw[Qg,e];rfl,λy hy=>?_⟩
 rcases QV.mp hy with hy | hy
 ·exact a y hy
 ·rw[Qm.mp hy];exact gx
def tq{A:Xb->Prop}{H:Hp}{v:V}{ds:List Xd}(h:DA A H v<|.tuple ds):∃t xs,v=.ref t/\¬A t/\H t=some (.tup xs)/\aG A H xs ds:=by
 cases h with | tup n e q=>exact⟨_,_,rfl,n,e,q⟩
def PV:(["row", "column", "rows"]:List Str).Nodup:=by decide
def Qsr:(["rows", "row"]:List Str).Nodup:=by decide
def Qxb:(["rows", "board"]:List Str).Nodup:=by decide
def VB{A:Xb->Prop}{H:Hp}:∀ms:List Nat,aG A H (ms.map λ(n:Nat)=>V.int (n:Int)) (ms.map λ(x:Nat)=>Qr x)
 |[]=>.nil
 |m::ms=>.cons (.int m)<|VB ms
def QlZ(ns:List Int):(ns.map V.int).all o5=true:=JZ.mpr λv hv=>by obtain⟨n,_,rfl⟩:=Qq.mp hv;rfl
section
variable{P:QB}{w:Jf}{K:Qa}{mg:Str->Option Xc}{base:Xl}
def QDc(F:az P w K mg base "lines_with" xq)(T:aB mg) :
  ar P w K mg base aq 1 "lines_with" (Zz false NJ):=by
 refine fG ["board", "rows", "columns"] 2 F (λaj A outer s H vs Q E nD hr h=>?_) (len:=?_)
 ·obtain⟨AA,pt,args,R,EX,dm,hp,q,⟨h1,w1,cs,rows,rfl,hc,hR⟩,k,_⟩:=h;have un:=hr.units;refine⟨_,Qu (Qnz (i:=2) (M:=["row", "column", "rows"]) (cap:=[none,none,some 1]) (g:=(qE K 2<|jH (Yu 0)<|jH (Yu 1) qD)) (tc:=(Hc<|ji (xy K true) (bV 0)<|bV 2)) (te:=(bV 1)) nD rfl rfl rfl (by rfl) (BX<|fm tP (pv 0) Jj λ_ _=>rfl) λcl ex s3 H3 C=>⟨(lV rfl<|J3 (ZC (i:=0) PV rfl (QJ rfl)<|QU rfl)<|J3 (ZC (i:=1) PV rfl (QJ rfl)<|QU rfl) l9),(IF<|JK Qie (pv 0) (pv 2)<|by rfl),(pv 1)⟩)
   (QP<|JV<|Y1<|a_ (pv 1)<|a_ (Zq L8 (by rfl) T.tuple rg<|Qj (Zc (Ql4 rfl) (by rfl) T.sorted L2.boot_sorted<|Qj (pv 2) Qp) Qp) Qp),?_⟩
  cases q with
  |cons d1 q=>
  cases q with
  |cons d2 q=>
  cases q;have d1:DA AA H _ (cX h1 w1 cs):=d1;have d2:DA AA H _ (tN rows):=d2;obtain⟨a,xs,rfl,_,ea,qa⟩:=tq d1;cases qa with
  |cons qa1 qa=>
  cases qa with
  |cons qa2 qa=>
  cases qa with
  |cons qa3 qa=>
  cases qa;cases qa1;cases qa2;obtain⟨ca,ys,rfl,_,ec,qc⟩:=tq qa3;obtain⟨b,rs,rfl,nb,eb,qb⟩:=tq d2;rw[wH qb] at eb;refine⟨_,rfl,a,_,_,_,rfl,rfl,aP.of ea,rfl,?_⟩;refine⟨ca,rfl,⟨_,aP.of ec⟩,λp np=>?_⟩;have pa:ca≠p:=λz=>by rw[z,np] at ec;cases ec
  have pb:b≠p:=λz=>by rw[z,np] at eb;cases eb
  have ly:ys.length=cs.length:=by have:=qc.length;rwa [Qd] at this
  refine q_ ys.length (λi H3=>∃m,m<64/\H3 p=some (.ext<|kh p m<|Zt.aN w)/\(∀b o,b≠p->H b=some o->H3 b=some o)) ⟨0,by decide,QC,λb o nb e=>by rw[QH nb];exact e⟩ (λi H3 hi ⟨m,hm,eP,kp⟩=>?_) λH3 ⟨m,hm,eP,kp⟩=>⟨⟨ys,aP.of<|kp _ _ pa ec,Qf _⟩,?_⟩
  ·have e3:=kp _ _ pa ec;obtain⟨q,hq⟩:∃q,cs[i]? = some q:=⟨_,Qc<|by omega⟩
   obtain⟨x,hx,dx⟩:=qc.get i (pairD q) (by rw[Qt,hq];rfl);refine⟨⟨ys,x,aP.of e3,hx⟩,λy H4 ⟨eH,ey⟩ kk hk=>?_⟩;subst eH;have ey:=ey ys<|aP.of e3;rw[hx] at ey;cases ey;obtain⟨qa,qs,rfl,_,eq,qq⟩:=tq dx;cases qq with
   |cons q1 qq=>
   cases qq with
   |cons q2 qq=>
   cases qq;cases q1;cases q2;have e4:=kp _ _ (λz=>by rw[z,np] at eq;cases eq) eq;refine⟨qa,_,rfl,aP.of e4,rfl,?_⟩;refine⟨_,_,rfl,_,_,rfl,rfl,by exact⟨rfl,trivial⟩,?_⟩;refine⟨_,rfl,_,rfl,b,_,rfl,.inr<|aP.of<|kp _ _ pb eb,rfl,QlZ rows,_,rfl,?_⟩;cases(!qd (V.int q.1) (rows.map V.int)) with
   |false=>exact a9<|hk _ ⟨m,hm,eP,kp⟩
   |true=>
    obtain⟨c0,c6⟩:=hc q<|Je hq;obtain⟨c,ec'⟩:∃c:Nat,q.2=(c:Int):=⟨q.2.toNat,by omega⟩
    have N7:c<6:=by omega
    exact bI ⟨_,rfl,c,m,by rw[ec'],N7,hm,eP,hk _ ⟨m ||| 2^c,Zt.QD0 ⟨m,hm⟩ ⟨c,N7⟩,QC,λb o nb e=>by rw[QH nb];exact kp b o nb e⟩⟩
  ·refine⟨_,rfl,_,rfl,p,m,rfl,hm,eP,λt H5 s5 nt et=>⟨t,_,rfl,.inl ⟨aA.of et,λl nl=>⟨by show 2<=1000;decide,λt2 H6 s6 n6 e6=>?_⟩⟩⟩⟩;have sm:ag H H6:=λc o e=>by
    have h5:=s5 _ _ (kp c o (λz=>by rw[z,np] at e;cases e) e);exact s6 _ _ (by rw[QH (λz=>by rw[z,nl] at h5;cases h5)];exact h5)
   have el:H6 l=some (.tup<|(Zt.Sm m).map λ(n:Nat)=>V.int (n:Int)):=s6 _ _ QC;have no:∀{a:Xb}{xs:List V},H6 a=some (.tup xs)->¬AA a:=λe z=>by
    obtain⟨ys,e2⟩:=dm _ z;rw[sm _ _ e2] at e;cases e
   refine k _ (hR (Zt.Sm m)<|Zt.tJ ⟨m,hm⟩) (.ref t2) H6 ⟨λb o _ e=>sm _ _ e,λp pp=>?_⟩ (.tup (no e6) e6<|.cons (.tup (no<|sm _ _ eb) (sm _ _ eb)<|K0 rows)<|.cons (.tup (no el) el<|VB _) .nil) λz=>nomatch z;obtain⟨_,n,e⟩:=hp p pp;exact⟨n,sm _ _ e⟩
 ·intro vs H Q E h;obtain⟨AA,pt,args,R,EX,dm,hp,q,⟨h1,w1,cs,rows,rfl,hc,hR⟩,k,_⟩:=h;cases q with | cons d1 q=>cases q with | cons d2 q=>cases q;rfl
end
end Rk


namespace Rk
open L2 _root_.Rd
open Dl
open Rt
section
variable{P:QB}{w:Jf}{K:Qa}{mg:Str->Option Xc}{base:Xl}
def QAj(F:az P w K mg base "how_many_lines" OR)(T:aB mg) :
  ar P w K mg base aq 1 "how_many_lines" (Zz false QEi):=by
 refine eA ["lines"] 1 false F λaj A outer s H E nD hr hU hI=>?_
 refine⟨_,Ji<|j9<|YH YI ja (JC<|l7 CZ BJ (by rfl) T.len iK<|gc (Jg<|bJ J6 ZX (qp 0) (Jg JI) λ_ _=>rfl) Js)<|JC<|l7 CZ BJ (by rfl) T.len iK<|gc (Jg<|bJ J6 ZX (qp 0) (Jg JI) λ_ _=>rfl) Js,λargs R EX h=>?_⟩;obtain⟨rows,ms,rfl,hR⟩:=h;refine⟨_,Jc (j:=0) rfl,_,Jc (j:=1) rfl,?_⟩;show R<|.int<|((rows.map Qr).length:Int)+((ms.map λ(x:Nat)=>Qr x).length:Int);rw[Qd,Qd];exact hR
def Qr6(F:az P w K mg base "lots_of_rows" Sf)(T:aB mg) :
  ar P w K mg base aq 1 "lots_of_rows" (Zz false QAv):=by
 refine eA ["high", "lots", "row"] 1 false F λaj A outer s H E nD hr hU hI=>?_
 refine⟨_,QZ (Z7 1 (Zo<|kB<|Yi (Zo<|ef Js) Js) nD)
  (QZ (ze JQ rfl (zk (by rfl) T.range<|qp 0) (YG 2 nD rfl<|by first | exact QJ rfl | exact QU rfl)
   (Ji<|Z7 1 (Zo<|YH YI ja (qp 1)<|JC<|j6 ["rows", "row"] [none,some 2] (wq<|qp 1) λcl ex s3 H3 C=>⟨(YG 0 Qsr rfl (QJ rfl)<|QU rfl),pB,(Zo<|YH YI ja (qp 0)<|JC<|ef<|Yi (qv 1) Js)⟩) nD))
  (Ji<|o9<|qv 1)),λargs R EX h=>?_⟩
 obtain⟨h,rfl,h6,hR⟩:=h;refine⟨⟨by omega,by omega⟩,Qxz (λi δ=>∃ds x2,δ=[.v<|.int h,.v<|.list ds,x2]/\0<ds.length/\ds.length<=2^i/\∀d∈ds,∃r:List Int,d=tN r/\r.length<=i) ⟨[tN []],_,rfl,by decide,by decide,λd hd=>⟨[],Qm.mp hd,Qf _⟩⟩ ?_ ?_⟩
 ·rintro i δ hi ⟨ds,x2,rfl,l0,l1,al⟩;rw[QY] at hi;have l2:2^i<=2^6:=ZB (by decide) (by omega);have l2:2^i<=64:=l2;refine QBf (λd=>∃r:List Int,d=tN r/\r.length<=i+1) (λd hd k2 hk=>?_) λes le ae=>?_
  ·obtain⟨r,rfl,lr⟩:=al d hd;refine⟨by rw[Qd];show _+1<=_;omega,?_⟩;rw[show r.map Qr++[Qr<|0+(i:Int)]=(r++[(0+(i:Int))]).map Qr by rw[JA];rfl];exact hk _ ⟨_,rfl,by rw[Qg];show _+1<=_;omega⟩
  ·refine⟨by omega,ds++es,.v<|.int<|0+(i:Int),rfl,by rw[Qg];omega,by rw[Qg,Nat.pow_succ];omega,λd hd=>?_⟩;rcases QV.mp hd with hd | hd
   ·obtain⟨r,e,lr⟩:=al d hd;exact⟨r,e,by omega⟩
   ·exact ae d hd
 ·rintro δ ⟨ds,x2,rfl,l0,l1,al⟩;rw[QY] at l1 al;have l2:2^h<=2^6:=ZB (by decide) h6;have l2:2^h<=64:=l2;exact hR ds l0 (by omega) λd hd=>by obtain⟨r,e,lr⟩:=al d hd;exact⟨r,e,by omega⟩
def szQ:Xd->Int
 |.tuple [.tuple a,.tuple b]=>(a.length:Int)+(b.length:Int)
 |_=>0
def Qn5(F:az P w K mg base "fewest_lines" OP)(T:aB mg)
  (c1:ar P w K mg base aq 1 "lines_with"<|Zz false NJ)
  (c2:ar P w K mg base aq 1 "lots_of_rows"<|Zz false QAv)
  (c3:ar P w K mg base aq 1 "how_many_lines"<|Zz false QEi) :
  ar P w K mg base aq 3 "fewest_lines" (Zz false QEk):=by
 obtain⟨f3,fd3,ps3,m3,G3,b3,_⟩:=c3.ex;refine eA ["board"] 1 false F λaj A outer s H E nD hr hU hI=>?_
 refine⟨_,Ji<|o9<|Qzx G3 (hr.mono<|by decide) (by rfl) T.min (by rfl) m3 b3<|JC<|j6 ["rows", "board"] [none,some 0] (wq<|Jg<|eT c2 hr<|Ys (bJ J6 ZX (qp 0) (Jg JI) λ_ _=>rfl) Zf) λcl ex s3 H3 C=>⟨(YG 0 Qxb rfl (QJ rfl)<|QU rfl),pB,(eT c1 hr<|Ys (qv 1)<|Ys (qv 0) Zf)⟩,λargs R EX h=>?_⟩;obtain⟨h,w,cs,rfl,g,hR⟩:=h;refine⟨_,Jc (j:=0) rfl,h,rfl,g.fM.1,λds l0 l1 al=>?_⟩;refine QBf (λd=>∃(r:List Int)(ms:List Nat),d=Fq r ms) (λd hd k2 hk=>?_) λes le ae=>?_
 ·obtain⟨r,rfl,lr⟩:=al d hd;exact⟨_,_,_,r,rfl,λp hp=>⟨(g.fM.2.2 p hp).2.2.1,by have:=g.fM.2.1;have:=(g.fM.2.2 p hp).2.2.2;omega⟩,λms _=>hk _ ⟨r,ms,rfl⟩⟩
 ·refine Qxe (λi=>szQ<|es.getD i .none) (λz=>by rw[z] at le;exact X5 le (by show ¬ 0=_;omega)) (λi d hd=>?_) λd _=>hR d
  rw[Qi,hd];obtain⟨r,ms,rfl⟩:=ae d<|Je hd;refine⟨r,ms,rfl,?_⟩;show Qr _=Qr (((r.map Qr).length:Int)+((ms.map λ(x:Nat)=>Qr x).length:Int));rw[Qd,Qd]
def QwL(F:az P w K mg base "showing" Sq)(T:aB mg)
  (c1:ar P w K mg base aq 4 "stand_at"<|Zz false CH)
  (c2:ar P w K mg base aq 4 "greatest_size"<|Zz false HA)
  (c3:ar P w K mg base aq 3 "fewest_lines"<|Zz false QEk) :
  ar P w K mg base aq 5 "showing" (Zz false pY):=by
 refine eA ["board"] 1 false F λaj A outer s H E nD hr hU hI=>?_
 refine⟨_,Ji<|j9<|ef<|Yi (eT c1 hr<|Ys (qv 0)<|Ys (eT c2 hr<|Ys (qv 0) Zf)<|Ys JI Zf)<|Yi (eT c3 hr<|Ys (qv 0) Zf) Js,λargs R EX h=>?_⟩;obtain⟨k,rfl,o,hR⟩:=h;have g:=yL o;refine⟨_,_,_,rfl,g.fM,λm gm=>?_⟩;obtain⟨L,eL⟩:=Ku o gm;exact⟨_,_,_,m,0,L,rfl,g,gm.1,eL,_,_,_,rfl,g,λln=>hR m L ln gm eL⟩
end
end Rk


namespace Rk
open L2 _root_.Rd
open Dl
open Rt
abbrev PL:Ze:=top 98
def mZ:Option Str->Str×Str
 |some wd=>("refused",wd)
 |none=>("told", "ok")
def Sy(C:Xb):Sp:=λvs H Q _=>∃(b l:Xb)(es:List Bo)(k:Bo)(d:bq)(x:V),vs=[.ref b,.str d.wd,x]/\ba C H b l es k/\k.ok/\es.length<=900/\DA N0 H x (.list d.xf)/\∀t H',K2 b l H H'->ba C H' b l (fP d es k).1 (fP d es k).2->Res t (mZ<|cM d es k).1 (mZ<|cM d es k).2 H'->Q (.ref t) H'
def VQ{H:Hp}{x:V}{a b:Xd}(q:DA N0 H x<|.list [a,b]):∃t u v,x=.ref t/\H t=some (.lst [u,v])/\DA N0 H u a/\DA N0 H v b:=by
 cases q with
 |lst n e q=>cases q with
  |cons q1 q=>cases q with
   |cons q2 q=>cases q;exact⟨_,_,_,rfl,e,q1,q2⟩
section
variable{P:QB}{w:Jf}{K:Qa}{mg:Str->Option Xc}{base:Xl}
def QwX{C:Xb}{xc:Str->Xb}(F:az P w K mg base "_law_done" PL)(T:dn K C)
  (A1:aD P w K mg base (Rx.aQ P w) 5 C "put"<|vH C xc .put)
  (A2:aD P w K mg base (Rx.aQ P w) 6 C "take"<|vH C xc .take)
  (A3:aD P w K mg base (Rx.aQ P w) 3 C "row"<|iJ C xc .row)
  (A4:aD P w K mg base (Rx.aQ P w) 3 C "column"<|iJ C xc .col)
  (A5:aD P w K mg base (Rx.aQ P w) 3 C "turn"<|iJ C xc .turn)
  (A6:aD P w K mg base (Rx.aQ P w) 2 C "rest"<|iJ C xc .rest)
  (A7:aD P w K mg base (Rx.aQ P w) 1 C "undo"<|iJ C xc .aT)
  {fK R:Xb} {cs:List Xb} {yw:Zs} (mK:mg "_law_kind_of" = some (.ref fK)) (GK:Rx.w5 P w K mg base 1 fK yw ["_law_e"]<|qZ K cs) (bK:Binds K yw ["_law_e"] []) (kK:Q7 K (.ref fK)=true) (mR:mg "RookError" = some (.ref R)) (Fb:∀wd:Str,wd = "row" ∨ wd = "place" ∨ wd = "double" ∨ wd = "cell" ∨ wd = "many" ∨ wd = "deed" -> md K cs R (xc wd) wd) :
  ar P w K mg base aq 7 "_law_done" (Sy C):=by
 obtain⟨g1,gd1,ps1,n1,D1,c1⟩:=A1.ex;obtain⟨g2,gd2,Nr,n2,D2,c2⟩:=A2.ex;obtain⟨g3,gd3,ps3,n3,D3,c3⟩:=A3.ex;obtain⟨g4,gd4,ps4,n4,D4,c4⟩:=A4.ex;obtain⟨g5,gd5,ps5,n5,D5,c5⟩:=A5.ex;obtain⟨g6,gd6,ps6,n6,D6,c6⟩:=A6.ex;obtain⟨g7,gd7,ps7,n7,D7,c7⟩:=A7.ex;refine fG ["_law_bench", "_law_word", "_law_told", "_law_e"] 3 F λaj A outer s H vs Q E nD hr h=>?_
 obtain⟨b,l,es,k,d,x,rfl,B,o,hl,hx,k0⟩:=h;refine⟨_,Qu (Rx.T7 (i:=3) rfl rfl (Rx.Ye<|Rx.vV (JK iI (pv 1) JR<|JE _) (Rx.Ye<|Rx.uw<|Rx.K7 (pv 0) T.cl n1 D1 (hr.mono<|by decide) c1 rfl<|Qj (fm Yn (pv 2) Jj λ_ _=>rfl)<|Qj (fm Yn (pv 2) Jj λ_ _=>rfl) Qp)
    (Rx.Ye<|Rx.vV (JK iI (pv 1) JR<|JE _) (Rx.Ye<|Rx.uw<|Rx.K7 (pv 0) T.cl n2 D2 (hr.mono<|by decide) c2 rfl<|Qj (fm Yn (pv 2) Jj λ_ _=>rfl)<|Qj (fm Yn (pv 2) Jj λ_ _=>rfl) Qp)
    (Rx.Ye<|Rx.vV (JK iI (pv 1) JR<|JE _) (Rx.Ye<|Rx.uw<|Rx.zN (pv 0) T.cl n3 D3 (hr.mono<|by decide) c3 rfl)
    (Rx.Ye<|Rx.vV (JK iI (pv 1) JR<|JE _) (Rx.Ye<|Rx.uw<|Rx.zN (pv 0) T.cl n4 D4 (hr.mono<|by decide) c4 rfl)
    (Rx.Ye<|Rx.vV (JK iI (pv 1) JR<|JE _) (Rx.Ye<|Rx.uw<|Rx.zN (pv 0) T.cl n5 D5 (hr.mono<|by decide) c5 rfl)
    (Rx.Ye<|Rx.vV (JK iI (pv 1) JR<|JE _) (Rx.Ye<|Rx.uw<|Rx.zN (pv 0) T.cl n6 D6 (hr.mono<|by decide) c6 rfl)
    (Rx.Ye<|Rx.uw<|Rx.zN (pv 0) T.cl n7 D7 (hr.mono<|by decide) c7 rfl)))))))
   nD rfl rfl (by rfl) mR (λe=>Y1<|a_ JR<|a_ (Rx.VH GK (Rx.ao.m (hr.mono<|by decide) e) (by rfl) mK kK bK<|Qj (pv 3) Qp) Qp))
  (QP<|JV<|Y1<|a_ JR<|a_ JR Qp),?_⟩
 have h3:(3:Nat)<4:=by decide
 let N:List (Option V):=[some<|.ref b,some<|.str d.wd,some x,none]
 have fin:∀d',d'=d->Mq C xc H (λ_ H2=>2<=1000/\∀t H',ag H2 H'->H2 t=none->H' t=some (.tup [.str "told",.str "ok"])->Q (.ref t) H') (λcv _ H2=>∃D,cv=.ref D/\(Rx.u0 K D R/\∀a,H2 a=none->(dX (bV 3) fj) (N.set 3<|some<|.ref a) (upd H2 a<|Rx.oC a D) λvs H3=>qZ K cs vs H3 (λv H3=>(2<=1000/\∀t H',ag H3 H'->H3 t=none->H' t=some (.tup [.str "refused",v])->Q (.ref t) H')) E0)) b l es k d':=by
  rintro d' rfl;refine⟨λwd FC H1 s1=>⟨_,rfl,handled (Q:=λv H3=>(2<=1000/\∀t H',ag H3 H'->H3 t=none->H' t=some (.tup [.str "refused",v])->Q (.ref t) H')) (Fb wd<|.inr<|Kc FC) h3 λH2 s2=>⟨by decide,λt H' s' _ e=>?_⟩⟩,λhn H1 k1 B1=>⟨by decide,λt H' s' _ e=>?_⟩⟩
  ·refine k0 t H' (K2.of<|(s1.trans s2).trans s') (by rw[wM FC];exact B.same<|(s1.trans s2).trans s') ?_
   rw[FC];exact e
  ·refine k0 t H' (k1.trans<|K2.of s') (by rw[zL hn];exact B1.same s') ?_
   rw[hn];exact e
 obtain⟨dx,kv,xs,e1,e2,d1,d2⟩:=B.at_;cases d with
 |put u v=>
  obtain⟨t,x1,x2,rfl,et,q1,q2⟩:=VQ hx;exact⟨_,rfl,rfl,_,rfl,bI ⟨_,rfl,b,dx,_,rfl,e1,Zb _ _ (by decide)<|by decide,_,rfl,t,_,_,x1,rfl,rfl,aA.of et,Jc (j:=0) rfl,_,rfl,t,_,_,x2,rfl,rfl,aA.of et,Jc (j:=1) rfl,b,l,es,k,x1,x2,u,v,rfl,B,o,by omega,q1,q2,fin _ rfl⟩⟩
 |take u v=>
  obtain⟨t,x1,x2,rfl,et,q1,q2⟩:=VQ hx;exact⟨_,rfl,rfl,_,rfl,a9 ⟨_,rfl,rfl,_,rfl,bI ⟨_,rfl,b,dx,_,rfl,e1,Zb _ _ (by decide)<|by decide,_,rfl,t,_,_,x1,rfl,rfl,aA.of et,Jc (j:=0) rfl,_,rfl,t,_,_,x2,rfl,rfl,aA.of et,Jc (j:=1) rfl,b,l,es,k,x1,x2,u,v,rfl,B,o,by omega,q1,q2,fin _ rfl⟩⟩⟩
 |row=>
  exact⟨_,rfl,rfl,_,rfl,a9 ⟨_,rfl,rfl,_,rfl,a9 ⟨_,rfl,rfl,_,rfl,bI ⟨_,rfl,b,dx,_,rfl,e1,Zb _ _ (by decide)<|by decide,b,l,es,k,rfl,B,o,by omega,fin _ rfl⟩⟩⟩⟩
 |col=>
  exact⟨_,rfl,rfl,_,rfl,a9 ⟨_,rfl,rfl,_,rfl,a9 ⟨_,rfl,rfl,_,rfl,a9 ⟨_,rfl,rfl,_,rfl,bI ⟨_,rfl,b,dx,_,rfl,e1,Zb _ _ (by decide)<|by decide,b,l,es,k,rfl,B,o,by omega,fin _ rfl⟩⟩⟩⟩⟩
 |turn=>
  exact⟨_,rfl,rfl,_,rfl,a9 ⟨_,rfl,rfl,_,rfl,a9 ⟨_,rfl,rfl,_,rfl,a9 ⟨_,rfl,rfl,_,rfl,a9 ⟨_,rfl,rfl,_,rfl,bI ⟨_,rfl,b,dx,_,rfl,e1,Zb _ _ (by decide)<|by decide,b,l,es,k,rfl,B,o,by omega,fin _ rfl⟩⟩⟩⟩⟩⟩
 |rest=>
  exact⟨_,rfl,rfl,_,rfl,a9 ⟨_,rfl,rfl,_,rfl,a9 ⟨_,rfl,rfl,_,rfl,a9 ⟨_,rfl,rfl,_,rfl,a9 ⟨_,rfl,rfl,_,rfl,a9 ⟨_,rfl,rfl,_,rfl,bI ⟨_,rfl,b,dx,_,rfl,e1,Zb _ _ (by decide)<|by decide,b,l,es,k,rfl,B,o,by omega,fin _ rfl⟩⟩⟩⟩⟩⟩⟩
 |aT=>
  exact⟨_,rfl,rfl,_,rfl,a9 ⟨_,rfl,rfl,_,rfl,a9 ⟨_,rfl,rfl,_,rfl,a9 ⟨_,rfl,rfl,_,rfl,a9 ⟨_,rfl,rfl,_,rfl,a9 ⟨_,rfl,rfl,_,rfl,a9 ⟨_,rfl,b,dx,_,rfl,e1,Zb _ _ (by decide)<|by decide,b,l,es,k,rfl,B,o,by omega,fin _ rfl⟩⟩⟩⟩⟩⟩⟩
end
end Rk


namespace Rk
open L2 _root_.Rd
open Dl
open Rt
def QCP:R2:=λx y H Q=>∃(z:Str)(b:Bool),x=.str z/\y=.int (if b then 1 else 0)/\Q (.str<|if b then z else Yl) H
def Qwv{X:Cx}:aK X (Xr .Mult) QCP:=by
 intro XI s σ H x y v u Q I rx ry h;obtain⟨z,b,rfl,rfl,q⟩:=h;obtain⟨t,rfl⟩:=rx;obtain⟨t',rfl⟩:=ry;cases b with
 |false=>exact PySem.P.mul_str_none (by decide) (by decide) ⟨.str Yl,H,I.tok _,⟨_,rfl⟩,q⟩
 |true=>exact PySem.P.mul_str (by decide) (λ_ e=>by cases e) (λ_ e=>by cases e) ⟨.str z,H,I.tok _,⟨_,rfl⟩,q⟩
def Qri{D C:Xb}{xc:Str->Xb}{H:Hp}{Q:VK}{E:XK}{s b l:Xb}{es:List Bo}{k:Bo}{z:Str}{i:Nat}{R:Bo->Str->Prop}(hr:gF (.str z)=some (.alone i))(hs:(iQ C xc)[i]? = some (kH C R))
  (lz:Jb (.str z)=true)(sz:z.length<=3000)(dk:dh D C H s b l es k)(o:k.ok)(q:∀t H',R k t->ag H H'->Q (.str t) H'):vK D C xc [.ref s,.str z] H Q E:=by
 refine⟨s,b,.str z,.str z,rfl,dk.dk,.str _ lz,λt e=>by cases e;exact sz,?_⟩;unfold Bg;rw[hr];intro H' sp s1 e;rw[hs] at e;cases e;exact⟨b,l,es,k,rfl,dk.bn.same s1,o,λt H2 hR s2=>q t H2 hR<|s1.trans s2⟩
def Vi:gF (.str<|Qb "board")=some (.alone 5):=by kernel_rfl
def Qni:gF (.str<|Qb "counts")=some (.alone 6):=by kernel_rfl
def QvC:gF (.str<|Qb "most")=some (.alone 7):=by kernel_rfl
def Qrj:gF (.str<|Qb "stand")=some (.alone 8):=by kernel_rfl
def Qnh:gF (.str<|Qb "pieces")=some (.alone 9):=by kernel_rfl
def Wr:∀L:List (Int×Int),wV (L.map pairD) (L.map pairD)=true
 |[]=>rfl
 |p::L=>by
  show(Q3 (pairD p) (pairD p)&&wV (L.map pairD) (L.map pairD))=true;rw[Wr L,J'];show(decide (p.1=p.1)&&(decide (p.2=p.2)&&true))=true;rw[X1 rfl,X1 rfl];rfl
def y3(h w:Int)(cs:List (Int×Int)):Q3 (cX h w cs) (cX h w cs)=true:=by
 show(decide (h=h)&&(decide (w=w)&&(wV (cs.map pairD) (cs.map pairD)&&true)))=true;rw[Wr,X1 rfl,X1 rfl];rfl
def Wp:∀L:List (Int×Int),ZZ (L.map pairD)<=3
 |[]=>Q6 _
 |p::L=>by
  have:=Wp L;show max (pairD p).depth (ZZ<|L.map pairD)<=3;have:(pairD p).depth<=3:=by show(YT [.int p.1,.int p.2]).depth<=3;simp[YV,ZZ]
  omega
def yZ(h w:Int)(cs:List (Int×Int)):(cX h w cs).depth<=9:=by
 have:=Wp cs;show(YT [.int h,.int w,.tuple<|cs.map pairD]).depth<=9;simp[YV,ZZ];omega
def nF{H:Hp}{v:V}{k:Bo}(h:DA N0 H v k.d):Dat H v k.d:=HF _ _ (QDj _ _ _) h
def Vu:∀ns:List Int,ZZ (ns.map Qr)<=3
 |[]=>Q6 _
 |n::ns=>by
  have:=Vu ns;show max (Qr n).depth (ZZ<|ns.map Qr)<=3;have:(Qr n).depth<=3:=by simp[YV]
  omega
def TM{H:Hp}{t:Xb}{ns:List Int}(e:H t=some (.lst<|ns.map V.int)):Dat H (.ref t) (.list<|ns.map Qr):=
 HF (A:=N0) _ _ (by show iS (ns.map Qr)=true;exact Iq.mpr λd hd=>by obtain⟨n,_,rfl⟩:=Qq.mp hd;rfl) (.lst (λz=>z) e<|K0 ns)
end Rk


namespace Rk
open L2 _root_.Rd
open Dl
open Rt
abbrev Bz:TE:=pX (λxs H Q=>∃i:Int,xs=[.int i]/\i.natAbs.log2<1920/\Q (.str<|toString i) H)<|dX (bV 0) fj
def DL(k:Bo):List Str:=(cg k.f k.h k.w).map λn=>Qb<|toString n
def Qs3{K:Qa}{k:Bo}(o:k.ok){t p:Xb}{H:Hp}{Qn:Hp->Prop}(a1:H t=some (.lst<|(cg k.f k.h k.w).map V.int))(hp:H p=none)
  (hq:∀H2,ag H H2->H2 p=some (.lst<|(DL k).map V.str)->Qn H2):kC (Eh K t) (ku [none] (Yu 0) YF<|oR p Bz) Qn (upd H p<|.lst []):=by
 have lc:(cg k.f k.h k.w).length=min k.h k.w+1:=by unfold cg;rw[Qd,QR]
 have h6:=o.h6;have nn:=HI (f:=k.f) o.h6 o.w6;have at_:∀i,i<(cg k.f k.h k.w).length->((cg k.f k.h k.w).map V.int)[i]? = some (.int<|(cg k.f k.h k.w).getD i 0):=λi hi=>by
  rw[Qt,Qi,Qc hi];rfl
 have gm:∀i,i<(cg k.f k.h k.w).length->(cg k.f k.h k.w).getD i 0∈cg k.f k.h k.w:=λi hi=>by
  rw[Qi,Qc hi];exact Jz _
 refine Y5 (cg k.f k.h k.w).length (Zv<|by omega) (λi=>some<|.str<|Qb<|toString<|(cg k.f k.h k.w).getD i 0) hp (λi H2 hi s2=>?_) (λH2 s2=>?_) λH2 s2 e3=>?_
 ·refine⟨⟨_,_,aA.of<|s2 _ _ a1,at_ i hi⟩,λx H3 ⟨eH,ev⟩ kn kv h1 h2=>?_⟩;subst eH;have ex:=ev _<|aA.of<|s2 _ _ a1;rw[at_ i hi] at ex;cases ex;refine⟨trivial,?_⟩;refine(bI ?_:if true=true then _ else kn H3);have nb:=nn _<|gm i hi;exact⟨_,rfl,_,rfl,TH nb.1 nb.2,h2 _ rfl H3 λ_ _ z=>z⟩
 ·exact⟨_,aA.of<|s2 _ _ a1,by rw[Qd];exact Qf _⟩
 ·rw[lB] at e3;refine hq H2 s2 ?_
  rw[e3];unfold DL;rw[Q4];exact X6 (λz=>some<|HO.lst z)<|vQ (λn=>V.str<|Qb<|toString n) 0<|cg k.f k.h k.w
def cnt_join{k:Bo}(o:k.ok):tx (Qb " ") (DL k)=true:=by
 have lc:(cg k.f k.h k.w).length=min k.h k.w+1:=by unfold cg;rw[Qd,QR]
 have h6:=o.h6;refine ui (B:=34) (λy hy=>?_) ?_
 ·obtain⟨n,hn,rfl⟩:=Qq.mp hy;have nb:=HI (f:=k.f) o.h6 o.w6 n hn;exact nM nb.1 (by omega)
 ·unfold DL;rw[Qd,lc];show _*34+_*1<=_;omega
def Qrd{K:Qa}{L:List (Int×Int)}(bL:∀p∈L,0<=p.1/\p.1<6/\0<=p.2/\p.2<6)(lL:L.length<=6){a p:Xb}{ps:List V}{H:Hp}{Qn:Hp->Prop}(ea:H a=some (.tup ps))(dp:aG N0 H ps<|L.map pairD)(hp:H p=none)
  (hq:∀H2,ag H H2->H2 p=some (.lst<|(L.map dY).map V.str)->Qn H2) :
  kC (Eg K a) (ku [none,none] (qE K 2<|jH (Yu 0)<|jH (Yu 1) qD) YF<|oR p<|ji yP (ji yP Bz<|tC<|.str<|Qb "-")<|pX (λxs H Q=>∃i:Int,xs=[.int i]/\i.natAbs.log2<1920/\Q (.str<|toString i) H)<|dX (bV 1) fj) Qn (upd H p<|.lst []):=by
 have lp:ps.length=L.length:=by rw[dp.length,Qd]
 have Gj:∀i,i<L.length->∃c,ps[i]? = some (.ref c)/\H c=some (.tup [.int (L.getD i (0,0)).1,.int (L.getD i (0,0)).2]):=λi hi=>by
  obtain⟨x,hx,Gc⟩:=dp.get i (pairD<|L.getD i (0,0)) (by rw[Qt,Qi,Qc hi];rfl);cases Gc with
  |tup _ e qq=>cases qq with
   |cons qa qq=>cases qq with
    |cons qb qq=>cases qq;cases qa;cases qb;exact⟨_,hx,e⟩
 have gL:∀i,i<L.length->L.getD i (0,0)∈L:=λi hi=>by
  rw[Qi,Qc hi];exact Jz _
 have ll:∀x y:Str,(x++y).length=x.length+y.length:=λx y=>by
  show(x++y).cps.size=_;rw[zU,LA];rfl
 refine Y5 L.length (Zv<|by omega) (λi=>some<|.str<|dY<|L.getD i (0,0)) hp (λi H3 hi s3=>?_) (λH3 s3=>?_) λH3 s3 e3=>?_
 ·obtain⟨c,hc,ec⟩:=Gj i hi;refine⟨⟨_,_,aP.of<|s3 _ _ ea,hc⟩,λx H4 ⟨eH,ev⟩ kn kv h1 h2=>?_⟩;subst eH;have ex:=ev _<|aP.of<|s3 _ _ ea;rw[hc] at ex;cases ex;have bd:=bL _<|gL i hi;have n1:=nM (n:=(L.getD i (0,0)).1) bd.1 (by omega);have n2:=nM (n:=(L.getD i (0,0)).2) bd.2.2.1 (by omega);have h2:=h2 _ rfl H4 λ_ _ z=>z
  rw[QxX] at h2;have l1:(Qb "-").length=1:=by decide
  refine⟨c,_,rfl,aP.of<|s3 _ _ ec,rfl,_,_,rfl,_,_,rfl,rfl,trivial,?_⟩;refine(bI (B:=kn H4) ?_:if true=true then _ else kn H4);exact⟨_,rfl,_,rfl,Y3 bd.1<|by omega,_,_,rfl,rfl,Ja<|Zv<|by omega,_,rfl,_,rfl,Y3 bd.2.2.1<|by omega,_,_,rfl,rfl,Ja<|Zv (by rw[ll];omega),h2⟩
 ·exact⟨_,aP.of<|s3 _ _ ea,by omega⟩
 ·rw[lB] at e3;refine hq H3 s3 ?_
  rw[e3,Q4];exact X6 (λz=>some<|HO.lst z)<|vQ (λn=>V.str<|dY n) (0,0) L
def Qre{L:List (Int×Int)}(bL:∀p∈L,0<=p.1/\p.1<6/\0<=p.2/\p.2<6)(lL:L.length<=6):tx (Qb " ") (L.map dY)=true:=by
 refine ui (B:=70) (λy hy=>?_) ?_
 ·obtain⟨n,hn,rfl⟩:=Qq.mp hy;exact Cu<|bL n hn
 ·rw[Qd];show _*70+_*1<=_;omega
end Rk


namespace Rk
open L2 _root_.Rd
open Dl
open Rt
abbrev I0:Ze:=top 99
def U1(D C:Xb):Sp:=λvs H Q _=>∃(s b l b2 l2:Xb)(es qu:List Bo)(k:Bo),vs=[.ref s,.ref b2]/\dh D C H s b l es k/\ba C H b2 l2 qu k/\k.ok/\∀H',ag H H'->Q (.bl true) H'
def TJ:(["_law_row", "_law_column"]:List Str).Nodup:=by decide
def Qw8:(["_law_number"]:List Str).Nodup:=by decide
def yS(a:Str){A B:Prop}(h:B):if(!decide (V.str a=V.str a))=true then A else B:=by
 rw[X1 rfl];exact h
def tK{d:Xd}(e:Q3 d d=true){A B:Prop}(h:B):if(!Q3 d d)=true then A else B:=by
 rw[e];exact h
def QDr{a c:Int}(h:a=c){A B:Prop}(z:B):if(!decide (V.int a=V.int c))=true then A else B:=by
 rw[X1<|by rw[h]];exact z
def Qrf{L:List (Int×Int)}(bL:∀p∈L,0<=p.1/\p.1<6/\0<=p.2/\p.2<6)(lL:L.length<=6):(ZF (Qb " ")<|L.map dY).length<=1000:=by
 show(ZF (Qb " ")<|L.map dY).cps.toList.length<=1000;rw[zB];cases L with
 |nil=>decide
 |cons p L=>
  show(kI (Qb " ") (dY p::L.map dY)).cps.toList.length<=1000;rw[nQ,Qg];have h1:(dY p).cps.toList.length<=70:=Cu<|bL p<|.head _;have h2:=Cv (k:=71) (f:=λu:Str=>(Qb " ").cps.toList++u.cps.toList) (xs:=L.map dY) λx hx=>by
   obtain⟨c,hc,rfl⟩:=Qq.mp hx;have:(dY c).cps.toList.length<=70:=Cu<|bL c<|.tail _ hc;rw[Qg];show 1+_<=_;omega
  rw[Qd] at h2;rw[Qw] at lL;omega
section
variable{P:QB}{w:Jf}{K:Qa}{mg:Str->Option Xc}{base:Xl}
def Qsj{D C:Xb}{xc:Str->Xb}(F:az P w K mg base "_law_alike" I0)(Tg:aB mg)(Td:w8 K D)(T:dn K C)
  (DS:aD P w K mg base (Rx.aQ P w) 9 D "say"<|vK D C xc)(DB:aD P w K mg base aq 1 C "board"<|wx C)(DC:aD P w K mg base aq 4 C "counts"<|KH C)(DM:aD P w K mg base aq 5 C "most"<|BP C)
  (cR:ar P w K mg base aq 3 "read" SE)(cW:ar P w K mg base aq 2 "written" G_)(cC:ar P w K mg base aq 3 "counts_stands"<|Zz true Cb)(cSt:ar P w K mg base aq 4 "stand_at"<|Zz false CH)
  (cSh:ar P w K mg base aq 5 "showing"<|Zz false pY)(cP:ar P w K mg base aq 3 "pieces"<|Zz true K8) :
  ar P w K mg base aq 10 "_law_alike" (U1 D C):=by
 refine fG ["_law_desk", "_law_bench", "_law_board", "_law_most", "_law_stand"] 2 F λ{f_} aj A outer s_ H vs Q E nD hr h=>?_
 obtain⟨s,b,l,b2,l2,es,qu,k,rfl,dk,bn,o,q⟩:=h;have hU:=ao.rK hr;refine' ⟨_,Qu (ip 2 nD<|JP (pv 1) T.cl DB hr dZ) ?p1,?rd⟩
 case p1=>
  show aV _ _ _;refine' Qu (d_ (PW.pt<|nv (JK tV (Zr cR hr<|Qj (Z1 (pv 0) Td.cl DS hr Rx.qR<|Qj JR Qp) Qp) (pv 2)<|JE _)<|nv (JK qQ (Z1 (pv 0) Td.cl DS hr Rx.qR<|Qj JR Qp) (Zr cW hr<|Qj (pv 2) Qp)<|JE _)<|ua<|JK tV (JP (pv 1) T.cl DC hr dZ) (Zr cC hr<|Qj (pv 2) Qp)<|JE _) (QP YB) Zu) ?_
  show aV _ _ _;refine' Qu (ip 3 nD<|JP (pv 1) T.cl DM hr dZ) ?_
  show aV _ _ _;refine' Qu (ip 4 nD<|i6 JG Zm Zl ur JR<|Qj (YC (M:=["_law_row", "_law_column"]) (cap:=[none,none]) (g:=qE K 2<|jH (Yu 0)<|jH (Yu 1) qD) (tc:=YF) (te:=ji yP (ji yP Bz<|tC<|.str<|Qb "-")<|pX (λxs H Q=>∃i:Int,xs=[.int i]/\i.natAbs.log2<1920/\Q (.str<|toString i) H)<|dX (bV 1) fj) rfl (by rfl) (BX<|Zr cSt hr<|Qj (pv 2)<|Qj (pv 3)<|Qj Jj Qp) λcl ex s3 H3 C=>⟨lV rfl<|J3 (ZC (i:=0) TJ rfl (QJ rfl)<|QU rfl)<|J3 (ZC (i:=1) TJ rfl (QJ rfl)<|QU rfl) l9,j8,YQ Iu (YQ Iu (Zq Zw (by rfl) Tg.str kD<|Qj (pv 0) Qp) JR)<|Zq Zw (by rfl) Tg.str kD<|Qj (pv 1) Qp⟩) Qp) ?_
  show aV _ _ _;refine' Qu (d_ (PW.pt<|nv (JK qQ (pv 3) (Zc Zx (by rfl) Tg.len iK<|Qj (fm tP (Zr cSh hr<|Qj (pv 2) Qp) Jj λ_ _=>rfl) Qp)<|JE _)<|ua<|JK qQ (Z1 (pv 0) Td.cl DS hr Rx.qR<|Qj JR Qp) (Zq Zw (by rfl) Tg.str kD<|Qj (pv 3) Qp)<|JE _) (QP YB) Zu) ?_
  show aV _ _ _;refine' Qu (d_ (JK qQ (Z1 (pv 0) Td.cl DS hr Rx.qR<|Qj JR Qp) (YQ Iu (pv 4)<|YQ Qwv JR<|Zq Qo6 (by rfl) Tg.int BI<|Qj (pA iI (pv 3) Jj<|JE _) Qp)<|JE _) (QP YB) Zu) ?_
  show aV _ _ _;refine' Qu (d_ (JK qQ (Z1 (pv 0) Td.cl DS hr Rx.qR<|Qj JR Qp) (i6 JG Zm Zl ur JR<|Qj (YC (M:=["_law_number"]) (cap:=[none]) (g:=Yu 0) (tc:=YF) (te:=Bz) rfl (by rfl) (wD<|JP (pv 1) T.cl DC hr dZ) λcl ex s3 H3 C=>⟨ZC (i:=0) Qw8 rfl (QJ rfl)<|QU rfl,j8,(Zq Zw (by rfl) Tg.str kD<|Qj (pv 0) Qp)⟩) Qp)<|JE _) (QP YB) Zu) ?_
  show aV _ _ _;exact QP (JV<|pA iI (Z1 (pv 0) Td.cl DS hr Rx.qR<|Qj JR Qp) (Zq Zw (by rfl) Tg.str kD<|Qj (Zc Zx (by rfl) Tg.len iK<|Qj (Zr cP hr<|Qj (pv 2) Qp) Qp) Qp)<|JE _)
 case rd=>
  obtain⟨dx,kv,xs,e1,e2,d1,d2⟩:=id bn.at_;have Fh:∀{H'},ag H H'->H' b2=some (.ins C dx<|jz kv l2):=λs=>s _ _ e1
  have hd:∀{H'},ag H H'->∃fZ,H' s=some (.ins D fZ<|qz b):=λs'=>by obtain⟨fZ,e⟩:=dk.dk;exact⟨fZ,s' _ _ e⟩
  have say:∀{H':Hp}{z:Str}{i:Nat}{R:Bo->Str->Prop}{Q':VK},ag H H'->gF (.str z)=some (.alone i)->(iQ C xc)[i]? = some (kH C R)->Jb (.str z)=true->z.length<=3000->(∀t H2,R k t->ag H H2->Q' (.str t) H2)->vK D C xc [.ref s,.str z] H' Q' E0:=λs' hr hs lz sz q=>Qri hr hs lz sz (dk.same s') o λt H2 hR s2=>q t H2 hR<|s'.trans s2
  have gp:∀a c:Xd,a.depth<=9->(A.deeper<|envOfC (Qb "_law_alike") (QL I0) s_.heap.objs.size f_ aj).units+min a.depth c.depth<cLine:=λa c h=>by
   have:=hU;have:min a.depth c.depth<=9:=QQ (CK _ _) h;omega
  refine gf (λN=>∀v,DA N0 H v k.d->N [some<|.ref s,some<|.ref b2,some v,none,none] H) (λN kN=>⟨_,rfl,b2,dx,_,rfl,e1,Zb _ _ (by decide)<|by decide,b2,l2,qu,k,rfl,bn,λv hv=>kN v hv⟩) ?_
  intro v hv;refine gf (λN=>∀H',ag H H'->N [some<|.ref s,some<|.ref b2,some v,none,none] H') (λN kN=>?_) ?_
  ·obtain⟨fZ,ed⟩:=hd<|ag.refl H;refine⟨_,rfl,s,fZ,_,rfl,ed,qW _<|by decide,say (ag.refl H) Vi rfl (by decide) (by decide) λt H1 ht s1=>?_⟩;have ht:t=_:=ht;subst ht;refine⟨k,rfl,o,λv2 H2 s2 hv2=>?_⟩;have pZ:=s1.trans s2;refine⟨_,rfl,_,_,nF hv2,nF<|hv.same pZ,gp _ _<|yZ _ _ _,_,rfl,tK (y3 _ _ _) ?_⟩;obtain⟨fZ,ed⟩:=hd pZ;refine⟨_,rfl,s,fZ,_,rfl,ed,qW _<|by decide,say pZ Vi rfl (by decide) (by decide) λt H3 ht s3=>?_⟩;have ht:t=_:=ht;subst ht;refine⟨_,rfl,v,k,rfl,hv.same s3,o,λH4 s4=>⟨rfl,_,rfl,yS _ ?_⟩⟩;have AF:=s3.trans s4;refine⟨_,rfl,b2,dx,_,rfl,Fh AF,Zb _ _ (by decide)<|by decide,b2,l2,qu,k,rfl,bn.same AF,o,λt5 H5 s5 n5 e5=>?_⟩;refine⟨_,rfl,gZ (fr:=true) (args:=[.v k.d]) (λd=>d=.list ((cg k.f k.h k.w).map Qr)) XF (.cons ((hv.same AF).same s5) .nil) ⟨k.h,k.w,_,rfl,o.h6,o.w6,(Bo.fM o).col,by unfold ky cg;rw[Q4];rfl⟩ (λd hd v3 H6 s6 jU _=>?_) λ_ z=>z.elim⟩;subst hd;cases jU with
   |@lst t6 ys _ _ e6 qq=>
    rw[wH qq] at e6;refine⟨_,_,TM<|s6 _ _ e5,TM e6,gp _ _ (by have:=Vu<|cg k.f k.h k.w;show(Yr _).depth<=9;simp only[YV];omega),_,rfl,tK (QsQ _) ?_⟩;exact kN _<|(AF.trans s5).trans s6
  intro H1 s1;refine gf (λN=>∀(m:Nat) H',lU (af k.h k.w k.f) k.h k.w m->ag H H'->N [some<|.ref s,some<|.ref b2,some v,some<|.int m,none] H') (λN kN=>⟨_,rfl,b2,dx,_,rfl,Fh s1,Zb _ _ (by decide)<|by decide,b2,l2,qu,k,rfl,bn.same s1,o,λm H2 gm s2=>kN m H2 gm<|s1.trans s2⟩) ?_
  intro m H2 gm s2;clear s1 H1;obtain⟨L,eL⟩:=Ku o gm;obtain⟨lL,bL⟩:=QAR o eL;have l6:L.length<=6:=by have:=gm.1;have:=o.h6;omega
  refine gf (λN=>∀H',ag H H'->N [some<|.ref s,some<|.ref b2,some v,some<|.int m,some<|.str<|ZF (Qb " ")<|L.map dY] H') (λN kN=>?_) ?_
  ·refine⟨rfl,_,rfl,_,rfl,gZ (args:=[.v k.d,.v<|.int m,.v<|.int 0]) (λd=>d=eX L) XF (.cons (hv.same s2)<|.cons (.int _)<|.cons (.int _) .nil) ⟨k.h,k.w,_,m,0,L,rfl,yL o,gm.1,eL,rfl⟩ (λd hd v' H3 s3 dv _=>?_) λ_ z=>z.elim⟩;subst hd;obtain⟨a,ps,rfl,_,ea,dp⟩:=tq dv;refine⟨a,rfl,⟨_,aP.of ea⟩,λp hp=>Qrd bL l6 ea dp hp λH4 s4 e4=>?_⟩;exact⟨_,p,_,rfl,rfl,aA.of e4,Qre bL l6,kN _<|(s2.trans s3).trans s4⟩
  clear s2 H2;intro H2 s2;refine gf (λN=>∀H',ag H H'->N [some<|.ref s,some<|.ref b2,some v,some<|.int m,some<|.str<|ZF (Qb " ")<|L.map dY] H') (λN kN=>?_) ?_
  ·refine⟨_,rfl,_,rfl,gZ (args:=[.v k.d]) (λd=>∃(m':Nat)(L':List (Int×Int))(ln:Xd),lU (af k.h k.w k.f) k.h k.w m'/\(fB (af k.h k.w k.f) m')[0]? = some L'/\d=.tuple [eX L',ln]) XF (.cons (hv.same s2) .nil) ⟨k,rfl,o,λm' L' ln g e=>⟨m',L',ln,g,e,rfl⟩⟩ (λd hd v' H3 s3 dv _=>?_) λ_ z=>z.elim⟩;obtain⟨m',L',ln,g',Om,rfl⟩:=hd;have em:=LP g' gm;subst em;rw[eL] at Om;cases Om;obtain⟨a,ps,rfl,_,ea,dp⟩:=tq dv;cases dp with
   |@cons x1 _ xs1 _ q1 q2=>
   obtain⟨a2,Nr,rfl,_,AY,dp2⟩:=tq q1;have l2:Nr.length=m':=by rw[dp2.length,Qd,lL]
   refine⟨a,_,0,_,rfl,rfl,aP.of ea,Jc (j:=0) rfl,_,_,rfl,.inr<|aP.of AY,rfl,_,rfl,QDr (by rw[l2]) ?_⟩;have Nh:=s2.trans s3;obtain⟨fZ,ed⟩:=hd Nh;refine⟨_,rfl,s,fZ,_,rfl,ed,qW _<|by decide,say Nh QvC rfl (by decide) (by decide) λt H4 ht s4=>?_⟩;obtain⟨m2,g2,rfl⟩:=ht;have em:=LP g2 gm;subst em;refine⟨_,rfl,_,rfl,Y3 (by omega) (by have:=gm.1;have:=o.h6;omega),rfl,_,rfl,yS _<|kN _ s4⟩
  clear s2 H2;intro H2 s2;have mz:decide (V.int (m:Int)=V.int 0)=L.isEmpty:=by
   cases L with
   |nil=>rw[show m=0 from lL.symm];rfl
   |cons p L=>exact X0 λz=>by have:=V.int.inj z;rw[Qw] at lL;omega
  have ae:∀x:Str,x++Yl=x:=λx=>by
   obtain⟨c⟩:=x;show vG (c++#[])=vG c;rw[Array.append_empty]
  have ee:∀x:Str,Yl++x=x:=λx=>by
   obtain⟨c⟩:=x;show vG (#[]++c)=vG c;rw[To]
  refine gf (λN=>∀H',ag H H'->N [some<|.ref s,some<|.ref b2,some v,some<|.int m,some<|.str<|ZF (Qb " ")<|L.map dY] H') (λN kN=>?_) ?_
  ·obtain⟨fZ,ed⟩:=hd s2;refine⟨_,rfl,s,fZ,_,rfl,ed,qW _<|by decide,say s2 Qrj rfl (by decide) (by decide) λt H4 ht s4=>?_⟩;obtain⟨m2,L2,g2,Ol,rfl⟩:=ht;have em:=LP g2 gm;subst em;rw[eL] at Ol;cases Ol;refine⟨_,rfl,_,rfl,rfl,.inr ⟨_,rfl,?_⟩⟩;refine⟨_,_,rfl,rfl,_,_,rfl,rfl,?_,rfl,_,rfl,?_⟩
   ·rw[mz];have jl:=Qrf bL l6;have:∀b:Bool,(if b=true then Qb "none" else Yl).length<=4:=by decide
    have:=this L.isEmpty;exact Ja (pC<|by omega)
   ·rw[mz];have e:(if L.isEmpty=true then Qb "none" else ZF (Qb " ")<|L.map dY)=ZF (Qb " ") (L.map dY)++(if L.isEmpty=true then Qb "none" else Yl):=by
     cases L with
     |nil=>exact(ee _).symm
     |cons p L=>exact(ae _).symm
    rw[e];exact yS _<|kN _ s4
  clear s2 H2;intro H2 s2;refine gf (λN=>∀H',ag H H'->N [some<|.ref s,some<|.ref b2,some v,some<|.int m,some<|.str<|ZF (Qb " ")<|L.map dY] H') (λN kN=>?_) ?_
  ·obtain⟨fZ,ed⟩:=hd s2;refine⟨_,rfl,s,fZ,_,rfl,ed,qW _<|by decide,say s2 Qni rfl (by decide) (by decide) λt H4 ht s4=>?_⟩;have ht:t=_:=ht;subst ht;refine⟨rfl,_,rfl,b2,dx,_,rfl,Fh s4,Zb _ _ (by decide)<|by decide,b2,l2,qu,k,rfl,bn.same s4,o,λt5 H5 s5 n5 e5=>⟨t5,rfl,⟨_,aA.of e5⟩,λp hp=>Qs3 o e5 hp λH6 s6 e6=>?_⟩⟩;exact⟨_,p,_,rfl,rfl,aA.of e6,cnt_join o,rfl,_,rfl,yS _<|kN _<|(s4.trans s5).trans s6⟩
  clear s2 H2;intro H2 s2;obtain⟨fZ,ed⟩:=hd s2;refine⟨_,rfl,s,fZ,_,rfl,ed,qW _<|by decide,say s2 Qnh rfl (by decide) (by decide) λt H4 ht s4=>?_⟩;obtain⟨Tt,h1,h2,h3,rfl⟩:=ht;refine⟨_,rfl,gZ (fr:=true) (args:=[.v k.d]) (λd=>d=.list (Tt.map eX)/\Tt.length<=36) XF (.cons (hv.same s4) .nil) ⟨_,_,_,rfl,Bi o,λT' a1 a2 a3 a4=>by have:=(Bi o).2.1;rw[QrW a1 h1 a2 h2 a3 h3] at a4 ⊢;exact⟨rfl,by omega⟩⟩ (λd hd v3 H6 s6 jU _=>?_) λ_ z=>z.elim⟩;obtain⟨rfl,lT⟩:=hd;cases jU with
  |@lst t6 ys _ _ e6 qq=>
   have ly:ys.length=Tt.length:=by rw[qq.length,Qd]
   refine⟨_,_,rfl,.inl<|aA.of e6,_,rfl,Y3 (by omega)<|by omega,rfl,?_⟩;rw[ly,X1 rfl];exact q _<|s4.trans s6
end
end Rk


namespace L2
open PySem.Calls _root_.Rd _root_.Rk Dl
section
variable{X:Cx}
def QyW(M:Xb->Sp->Prop)(tf:TE)(t:TA):TE:=λσ H Q=>tf σ H λv H1=>∃f sp,v=.ref f/\M f sp/\t σ H1 λvs H2=>sp vs H2 Q E0
def QrC{M:Xb->Sp->Prop}{a b e:JO}{es:List JO}{p pos:Pos}{tf:TE}{t:TA}(hM:∀f sp,M f sp->∃k fd ps,aI X.prog X.w X.K X.mg X.base aq k f fd ps sp/\ao k X.A/\Q7 X.K (.ref f)=true/\Binds X.K fd ps [])(hf:PE X (.Subscript a b p) tf)(ha:PA X (e::es) t)
  (he:Xi (e::es) X.env=(false,eval e X.env)::Xi es X.env:=by rfl)(hpl:(Xq pos<|Xi es X.env).any (·.1)=false:=by rfl):PE X (.Call (.Subscript a b p) (e::es) [] pos) (QyW M tf t):=by
 intro XI s σ H Q I h;rw[QiP];refine Xa<|ax (hf XI s σ H _ I h) λv s1 ⟨y,H1,I1,r1,f,sp,ey,mf,q1⟩=>?_;subst ey;cases(r1);obtain⟨k,fd,ps,F,hr,hk,hb⟩:=hM f sp mf;refine Yj I1.ok.mod.mM hk (ax (ha pos XI s1 σ H1 _ I1 q1) λus s2 ⟨vs,H2,I2,r,q⟩=>⟨I2.bP,?_⟩) he hpl;exact y_ F hr hb .nil dZ I2 r (by rw[JW];exact q)
end
end L2
namespace Rk
open L2 _root_.Rd
open Dl
open Rt
structure Dw (H0:Hp) (p sd b l b2 l2 r:Xb):Prop where
 pl:p≠l
 Nu:p≠l2
 pr:p≠r
 NK:l≠l2
 lr:l≠r
 NL:l2≠r
 OB:b≠b2
 sb2:sd≠b2
 sb:sd≠b
 nb:H0 b=none
 nl:H0 l=none
 nb2:H0 b2=none
 xH:H0 l2=none
 nr:H0 r=none
abbrev mX:=List Bo×Bo
structure Wo (D C p sd b l b2 l2 r:Xb) (H0 H:Hp) (SD SB SR:mX):Prop where
 cZ:∃m:Int,H p=some (.lst [.int m])
 dk:dh D C H sd b l SD.1 SD.2
 bn:ba C H b2 l2 SB.1 SB.2
 rw:fN H r SR.1 SR.2
 sm:K1 p H0 H
section
variable{D C p sd b l b2 l2 r:Xb}{H0 H H':Hp}{SD SB SR:mX}
def Wo.same(x:Wo D C p sd b l b2 l2 r H0 H SD SB SR)(z:ag H H'):Wo D C p sd b l b2 l2 r H0 H' SD SB SR:=by
 obtain⟨m,e⟩:=x.cZ;exact⟨⟨m,z _ _ e⟩,x.dk.same z,x.bn.same z,x.rw.same z,λa o h e=>z _ _<|x.sm a o h e⟩
def Wo.xB(x:Wo D C p sd b l b2 l2 r H0 H SD SB SR)(w:Dw H0 p sd b l b2 l2 r)(kp:K1 p H H')(hp:∃m:Int,H' p=some (.lst [.int m])):Wo D C p sd b l b2 l2 r H0 H' SD SB SR:=by
 obtain⟨m,e⟩:=x.cZ;obtain⟨dx,ed⟩:=x.dk.dk;obtain⟨_,_,_,e1,e2,_,_⟩:=x.dk.bn.at_;obtain⟨_,_,_,e3,e4,_,_⟩:=x.bn.at_;have kj:∀a o,¬a=p->H a=some o->H' a=some o:=kp
 have nt:∀a ys,H a=some (.tup ys)->¬a=p:=λa ys h=>ZL h e nofun
 exact⟨hp,x.dk.keep (λa=>a=p) kj (ZL ed e nofun) (ZL e1 e nofun) w.pl.symm nt,x.bn.keep (λa=>a=p) kj (ZL e3 e nofun) w.Nu.symm nt,x.rw.keep (λa=>a=p) kj w.pr.symm nt,λa o h e=>kp a o h<|x.sm a o h e⟩
def Wo.lM{S:mX}(x:Wo D C p sd b l b2 l2 r H0 H SD SB SR)(w:Dw H0 p sd b l b2 l2 r)(kp:K2 b2 l2 H H')(bn:ba C H' b2 l2 S.1 S.2):Wo D C p sd b l b2 l2 r H0 H' SD S SR:=by
 obtain⟨m,e⟩:=x.cZ;obtain⟨dx,ed⟩:=x.dk.dk;obtain⟨_,_,_,e1,e2,_,_⟩:=x.dk.bn.at_;obtain⟨_,_,_,e3,e4,_,_⟩:=x.bn.at_;obtain⟨_,_,e5,_,_⟩:=x.rw.at_;have kj:∀a o,¬(a=b2∨a=l2)->H a=some o->H' a=some o:=λa o h e=>kp a o (λz=>h<|.inl z) (λz=>h<|.inr z) e
 have nt:∀a ys,H a=some (.tup ys)->¬(a=b2∨a=l2):=λa ys h z=>z.elim (ZL h e3 nofun)<|ZL h e4 nofun
 exact⟨⟨m,kp _ _ (ZL e e3 nofun) w.Nu e⟩,x.dk.keep _ kj (λz=>z.elim w.sb2<|ZL ed e4 nofun) (λz=>z.elim w.OB<|ZL e1 e4 nofun) (λz=>z.elim (ZL e2 e3 nofun) w.NK) nt,bn,
  x.rw.keep _ kj (λz=>z.elim (ZL e5 e3 nofun) w.NL.symm) nt,λa o h e=>kp a o (QK e w.nb2) (QK e w.xH)<|x.sm a o h e⟩
def Wo.sJ{S:mX}(x:Wo D C p sd b l b2 l2 r H0 H SD SB SR)(w:Dw H0 p sd b l b2 l2 r)(kp:K2 b l H H')(dk:dh D C H' sd b l S.1 S.2):Wo D C p sd b l b2 l2 r H0 H' S SB SR:=by
 obtain⟨m,e⟩:=x.cZ;obtain⟨_,_,_,e1,e2,_,_⟩:=x.dk.bn.at_;obtain⟨_,_,_,e3,e4,_,_⟩:=x.bn.at_;obtain⟨_,_,e5,_,_⟩:=x.rw.at_;have kj:∀a o,¬(a=b∨a=l)->H a=some o->H' a=some o:=λa o h e=>kp a o (λz=>h<|.inl z) (λz=>h<|.inr z) e
 have nt:∀a ys,H a=some (.tup ys)->¬(a=b∨a=l):=λa ys h z=>z.elim (ZL h e1 nofun)<|ZL h e2 nofun
 exact⟨⟨m,kp _ _ (ZL e e1 nofun) w.pl e⟩,dk,x.bn.keep _ kj (λz=>z.elim w.OB.symm<|ZL e3 e2 nofun) (λz=>z.elim (ZL e4 e1 nofun) w.NK.symm) nt,
  x.rw.keep _ kj (λz=>z.elim (ZL e5 e1 nofun) w.lr.symm) nt,λa o h e=>kp a o (QK e w.nb) (QK e w.nl)<|x.sm a o h e⟩
def Wo.rows{S:mX}(x:Wo D C p sd b l b2 l2 r H0 H SD SB SR)(w:Dw H0 p sd b l b2 l2 r)(kp:K1 r H H')(rw:fN H' r S.1 S.2):Wo D C p sd b l b2 l2 r H0 H' SD SB S:=by
 obtain⟨m,e⟩:=x.cZ;obtain⟨dx,ed⟩:=x.dk.dk;obtain⟨_,_,_,e1,e2,_,_⟩:=x.dk.bn.at_;obtain⟨_,_,_,e3,e4,_,_⟩:=x.bn.at_;obtain⟨_,_,e5,_,_⟩:=x.rw.at_;have kj:∀a o,¬a=r->H a=some o->H' a=some o:=kp
 have nt:∀a ys,H a=some (.tup ys)->¬a=r:=λa ys h=>ZL h e5 nofun
 exact⟨⟨m,kp _ _ w.pr e⟩,x.dk.keep (λa=>a=r) kj (ZL ed e5 nofun) (ZL e1 e5 nofun) w.lr nt,x.bn.keep (λa=>a=r) kj (ZL e3 e5 nofun) w.NL nt,rw,λa o h e=>kp a o (QK e w.nr)<|x.sm a o h e⟩
end
def Um{D C:Xb}{d:Xd}{H:Hp}{Q:VK}{s b l:Xb}{es:List Bo}{k:Bo}{r:Rw}{dd:bq}(hr:gF d=some r)(hd:tM r=some dd)(sb:s≠b)(dk:dh D C H s b l es k)
  (q:∀t H',K2 b l H H'->dh D C H' s b l (fP dd es k).1 (fP dd es k).2->Res t (mZ<|cM dd es k).1 (mZ<|cM dd es k).2 H'->Q (.ref t) H'):P' D C d H Q s b l es k:=by
 refine⟨λh=>?_,λr' d' MU h fA hw t6 H6 s6 e6=>?_,λr' d' h fA hn t6 H6 k6 B6 e6=>?_,λr' R u h hR=>?_⟩
 ·rw[hr] at h;cases h
 ·rw[hr] at h;cases h;rw[hd] at fA;cases fA;exact q t6 H6 (K2.of s6) (by rw[wM hw];exact dk.same s6) (by rw[hw];exact e6)
 ·rw[hr] at h;cases h;rw[hd] at fA;cases fA;obtain⟨dx,ed⟩:=dk.dk;obtain⟨_,_,_,_,e2,_,_⟩:=dk.bn.at_;exact q t6 H6 k6 (by rw[zL hn];exact⟨⟨dx,k6 _ _ sb (ZL ed e2 nofun) ed⟩,B6⟩) (by rw[hn];exact e6)
 ·rw[hr] at h;cases h;rw[Qw4 hd] at hR;cases hR
def Ct{dd:bq}{es:List Bo}{k:Bo}:Jb (.str (mZ<|cM dd es k).1)=true/\Jb (.str (mZ<|cM dd es k).2)=true:=by
 cases hd:cM dd es k with
 |none=>exact(by decide:Jb (.str "told")=true/\Jb (.str "ok")=true)
 |some MU=>rcases Kc hd with rfl | rfl | rfl | rfl | rfl<;>(show Jb (.str "refused")=true/\Jb (.str _)=true;decide)
/-- rO last yB away,one more yB -/
def Sb{H:Hp}{r:Xb}{es:List Bo}{k e0:Bo}{xs:List V}{v:V}(er:H r=some (.lst<|xs++[v]))(d2:aG N0 H xs<|(es++[e0]).map Bo.d):fN (upd H r<|.lst xs) r es e0:=by
 obtain⟨xp,xl,rfl⟩:∃xp xl,xs=xp++[xl]:=by
  have lx:=d2.length;rw[Qd,Qg] at lx;have h0:xs≠[]:=λz=>by rw[z] at lx;cases lx
  exact⟨xs.dropLast,xs.getLast h0,(Jh _).symm⟩
 obtain⟨q1,q2⟩:=QsU d2;have tp:∀a ys,H a=some (.tup ys)->(upd H r<|.lst<|xp++[xl]) a=some (.tup ys):=λa ys e=>by rw[QH<|ZL e er nofun];exact e
 exact⟨xp,xl,QC,tL tp q1,jZ tp q2⟩
def QvB{H:Hp}{r:Xb}{es:List Bo}{k k':Bo}{xs:List V}{v v2:V}(er:H r=some (.lst<|xs++[v]))(d2:aG N0 H xs<|es.map Bo.d)(d1:DA N0 H v k.d)(q2:DA N0 H v2 k'.d):fN (upd H r<|.lst<|xs++[v]++[v2]) r (es++[k]) k':=by
 have tp:∀a ys,H a=some (.tup ys)->(upd H r<|.lst<|xs++[v]++[v2]) a=some (.tup ys):=λa ys e=>by rw[QH<|ZL e er nofun];exact e
 refine⟨xs++[v],v2,QC,?_,jZ tp q2⟩;rw[JA];exact(tL tp d2).app<|.cons (jZ tp d1) .nil
def nj(fT fR:Xb):List (Key×V):=[(.inr<|Qb "turn",.ref fT),(.inr<|Qb "rest",.ref fR)]
def zg{H:Hp}{pd fT fR:Xb}(e:H pd=some (.dK<|nj fT fR))(x:Str){o:Option V}(h:il (nj fT fR) (.inr x)=o):fQ H pd (.str x) o:=by subst h;exact fQ.k (k:=.inr x) e
def QsR{fT fR:Xb}{x:Str}(h1:Qb "turn" ≠ x)(h2:Qb "rest" ≠ x):il (nj fT fR) (.inr x)=none:=by
 unfold il nj;rw[Ds<|by simpa using h1,Ds<|by simpa using h2];rfl
def VT{fT fR:Xb}:il (nj fT fR) (.inr<|Qb "turn")=some (.ref fT):=by
 unfold il nj;rw[LX<|by simp];rfl
def VS{fT fR:Xb}:il (nj fT fR) (.inr<|Qb "rest")=some (.ref fR):=by
 unfold il nj;have h:¬Qb "turn" = Qb "rest" := by decide
 rw[Ds<|by simpa using h,LX<|by simp];rfl
end Rk


namespace Rk
open L2 _root_.Rd
open Dl
open Rt
abbrev wI:Ze:=top 100
def Vo:Sp:=λvs H Q _=>∃(p:Xb),vs=[.ref p]/\(∃m:Int,H p=some (.lst [.int m]))/\∀H',K1 p H H'->Q (.bl true) H'
def MF(fT fR:Xb):Xb->Sp->Prop:=λf sp=>(f=fT/\sp=Zz false BC)∨(f=fR/\sp=Zz false BK)
section
variable{P:QB}{w:Jf}{K:Qa}{mg:Str->Option Xc}{base:Xl}
def Qn2{D C:Xb}{xc:Str->Xb}(F:az P w K mg base "_law_right" wI)(Tg:aB mg)(Td:w8 K D)(T:dn K C)
  (GD:mh P w K mg base 3 D "Desk"<|U2 D C)(GI:mh P w K mg base 1 C "Bench"<|Ic C)
  (DS:aD P w K mg base (Rx.aQ P w) 9 D "say"<|vK D C xc)(DB:aD P w K mg base aq 1 C "board"<|wx C)(DU:aD P w K mg base (Rx.aQ P w) 1 C "undo"<|iJ C xc .aT)
  (cTk:ar P w K mg base aq 1 "_law_take" CG)(cGd:ar P w K mg base aq 3 "_law_good_deed" Sz)(Oz:ar P w K mg base aq 7 "_law_done"<|Sy C)(Oy:ar P w K mg base aq 10 "_law_said"<|SF D C)
  (cRo:ar P w K mg base aq 1 "_law_row_of" U3)(OA:ar P w K mg base aq 10 "_law_alike"<|U1 D C)(cT:ar P w K mg base aq 2 "turned"<|Zz false BC)(cRb:ar P w K mg base aq 1 "rest_boards"<|Zz false BK) :
  ar P w K mg base aq 11 "_law_right" Vo:=by
 obtain⟨fT,fdT,psT,mT,GT,bT,kT⟩:=cT.ex;obtain⟨fR,fdR,psR,mR,GR,bR,kR⟩:=cRb.ex;refine fG ["_law_pot_here", "_law_desk", "_law_bench", "_law_boards", "_law_turn", "_law_before", "_law_word", "_law_told", "_law_found", "_law_due"] 1 F λ{f_} aj A outer s_ H vs Q E nD hr h=>?_
 obtain⟨p,rfl,hp,q⟩:=h;have hU:=ao.rK hr;have hM:∀f sp,MF fT fR f sp->∃k fd ps,aI P w K mg base aq k f fd ps sp/\ao k (A.deeper<|envOfC (Qb "_law_right") (QL wI) s_.heap.objs.size f_ aj)/\Q7 K (.ref f)=true/\L2.Binds K fd ps []:=by
  rintro f sp (⟨rfl,rfl⟩ | ⟨rfl,rfl⟩)
  ·exact⟨_,_,_,GT,hr.mono<|by decide,kT,bT⟩
  ·exact⟨_,_,_,GR,hr.mono<|by decide,kR,bR⟩
 refine' ⟨_,Qu (SO (i:=1) (j:=2) rfl nD rfl rfl (by decide) rfl rfl (a_ (HP GD hr)<|a_ (HP GI hr) Qp) rfl) ?p1,?rd⟩
 case p1=>
  show aV _ _ _;refine' Qu (ip 3 nD<|Y2<|a_ (JP (pv 2) T.cl DB hr dZ) Qp) ?_
  show aV _ _ _;refine' Qu (BZ JQ rfl (uE (by rfl) Tg.range<|Qj (YQ tU Jj<|Zr cTk hr<|Qj (pv 0)<|Qj Jj Qp) Qp) (i7 4 nD) ?body) ?_
  case body=>
   show aV _ _ _;refine' Qu (ip 5 nD<|JP (pv 2) T.cl DB hr dZ) ?_
   show aV _ _ _;refine' Qu (pj (Zr cGd hr<|Qj (pv 0)<|Qj (pv 5) Qp)<|lV rfl<|J3 (i7 6 nD)<|J3 (i7 7 nD) l9) ?_
   show aV _ _ _;refine' Qu (ip 8 nD<|Zr Oz hr<|Qj (pv 2)<|Qj (pv 6)<|Qj (pv 7) Qp) ?_
   show aV _ _ _;refine' Qu (d_ (PW.pt<|nv (JK tV (Zr Oy hr<|Qj (pv 1)<|Qj (Zr cRo hr<|Qj (pv 6)<|Qj (pv 7) Qp) Qp) (pv 8)<|JE _)<|ua<|o8<|tZ<|Zr OA hr<|Qj (pv 1)<|Qj (pv 2) Qp) (QP YB) Zu) ?_
   show aV _ _ _;refine' Qu (d_ (PW.pt<|vX (JK iI (fm tP (pv 8) Jj λ_ _=>rfl) JR<|JE _)<|wG<|JK iI (pv 6) JR<|JE _) (QP<|Zp<|HN JD LY LZ HD<|pv 3)<|QP<|d_ (JK iI (fm tP (pv 8) Jj λ_ _=>rfl) JR<|JE _) (Qu (Zp<|i6 JD L_ Mb C3 (pv 3)<|Qj (JP (pv 2) T.cl DB hr dZ) Qp)<|Qu (ip 9 nD<|Qv2 (VM JR (Za (v:=.ref fT) (by rfl) mT rfl)<|VM JR (Za (v:=.ref fR) (by rfl) mR rfl) QvV) rfl rfl (by decide)<|by decide)<|QP<|d_ (PW.pt<|vX (QzA (QzW (QAL hr) (pv 6)<|pv 9)<|by rfl)<|wG<|JK tV (JP (pv 2) T.cl DB hr dZ) (QrC (M:=MF fT fR) hM (Qv3 (QAL hr) (pv 9) (pv 6) λ_ _=>rfl)<|Qj (pv 5) Qp)<|JE _) (QP YB) Zu) Zu) ?_
   show aV _ _ _;exact QP<|d_ (JK tV (JP (pv 2) T.cl DB hr dZ) (fm Yn (pv 3) (Hf H_ Jj) λ_ _=>rfl)<|JE _) (QP YB) Zu
  show aV _ _ _;refine' Qu (VN JQ (JK yQ (Zc Zx (by rfl) Tg.len iK<|Qj (pv 3) Qp) Jj<|JE _) ?wb) ?_
  case wb=>
   show aV _ _ _;refine' Qu (Zp<|HN JD LY LZ HD<|pv 3) ?_
   show aV _ _ _;refine' Qu (Zp<|JP (pv 2) T.cl DU hr Rx.qR) ?_
   show aV _ _ _;exact QP<|d_ (PW.pt<|nv (JK tV (JP (pv 2) T.cl DB hr dZ) (fm Yn (pv 3) (Hf H_ Jj) λ_ _=>rfl)<|JE _)<|nv (JK qQ (Z1 (pv 1) Td.cl DS hr Rx.qR<|Qj JR Qp) JR<|JE _)<|ua<|o8<|tZ<|Zr OA hr<|Qj (pv 1)<|Qj (pv 2) Qp) (QP YB) Zu
  show aV _ _ _;exact QP<|JV<|BV (pA HR (Zr Oz hr<|Qj (pv 2)<|Qj JR<|Qj (Y2 Qp) Qp) (Y1<|a_ JR<|a_ JR Qp)<|JE _)<|BW<|pA HR (Zr Oy hr<|Qj (pv 1)<|Qj JR Qp) (Y1<|a_ JR<|a_ JR Qp)<|JE _
 case rd=>
  refine BL (λN=>∀sd b l b2 l2 r H3,Dw H p sd b l b2 l2 r->Wo D C p sd b l b2 l2 r H H3 ([],B0) ([],B0) ([],B0)->N [some<|.ref p,some<|.ref sd,some<|.ref b2,some<|.ref r,none,none,none,none,none,none] H3) (λN kN=>?_) ?_
  ·obtain⟨m0,ep⟩:=hp;intro sd sI NB r8 ne0;refine⟨sd,sI,rfl,QC,λb l H1 nb nl bO MR=>⟨rfl,?_⟩⟩;have u_:ag H (upd (upd H sI<|.own sd) sd<|.ins D sI []):=λa u e=>by rw[QH<|QK e NB,QH<|QK e r8];exact e
   have rR:ag H H1:=λa u e=>bO a u (QK e NB)<|u_ a u e
   have up:∀{x:Xb}{G G':Hp},ag G G'->G' x=none->G x=none:=λ{x G G'} s' h=>by
    cases z:G x with
    |none=>rfl
    |some u=>rw[s' _ _ z] at h;cases h
   intro b2 Gb xD Fl ne1;refine⟨b2,Gb,rfl,QC,λl2 H2 xH bB BN=>⟨rfl,?_⟩⟩;have Nj:ag H1 (upd (upd H1 Gb<|.own b2) b2<|.ins C Gb []):=λa u e=>by rw[QH<|QK e xD,QH<|QK e Fl];exact e
   have eZ:ag H1 H2:=λa u e=>bB a u (QK e xD)<|Nj a u e
   obtain⟨fZ,es⟩:=id MR.dk;obtain⟨_,_,_,e1,e2,_,_⟩:=id MR.bn.at_;obtain⟨dx,kv,xs,e3,e4,d1,d2⟩:=id BN.at_;refine⟨_,_,rfl,_,rfl,b2,dx,_,rfl,e3,Zb _ _ (by decide)<|by decide,b2,l2,[],B0,rfl,BN,λv hv=>⟨by show 1<=1000;decide,λr H3 s3 n3 e5=>?_⟩⟩;have pZ:=rR.trans eZ;have vp:=up Nj xH;have hb:=up u_ nb;have hl:=up u_ nl;refine kN sd b l b2 l2 r H3 ⟨QK ep hl,QK (rR _ _ ep) vp,QK (pZ _ _ ep) n3,QK e2 vp,QK (eZ _ _ e2) n3,QK e4 n3,QK e1 xD,QK es xD,QK QC nb,hb,hl,up rR xD,up rR vp,up pZ n3⟩
    ⟨⟨m0,s3 _ _<|pZ _ _ ep⟩,(MR.same eZ).same s3,BN.same s3,⟨[],v,e5,.nil,hv.same s3⟩,λa o _ e=>s3 _ _<|pZ _ _ e⟩
  intro sd b l b2 l2 r H3 dw W0;refine gf (λN=>∀H' (S:mX) x4 x5 x6 x7 x8 x9,Wo D C p sd b l b2 l2 r H H' S S S->(∀k∈S.1++[S.2],k.ok)->S.1.length<=20->N [some<|.ref p,some<|.ref sd,some<|.ref b2,some<|.ref r,x4,x5,x6,x7,x8,x9] H') (λN kN=>?_) ?_
  ·obtain⟨m,em⟩:=W0.cZ;refine⟨_,rfl,p,m,12,rfl,em,by decide,by decide,λt m' t0 t1=>?_⟩;have k4:K1 p H3 (upd H3 p<|.lst [.int m']):=λa o h e=>by rw[QH h];exact e
   refine⟨_,_,rfl,rfl,_,rfl,by omega,by omega,?_⟩;refine La (λi σ H'=>∃(S:mX)(x4 x5 x6 x7 x8 x9:Option V),σ=[some<|.ref p,some<|.ref sd,some<|.ref b2,some<|.ref r,x4,x5,x6,x7,x8,x9]/\Wo D C p sd b l b2 l2 r H H' S S S/\(∀k∈S.1++[S.2],k.ok)/\S.1.length<=i) ⟨([],B0),_,_,_,_,_,_,rfl,W0.xB dw k4 ⟨m',QC⟩,λk hk=>by rw[Qm.mp hk];exact QDY,Qf _⟩ ?_ ?_
   ·rintro i σ H' hi ⟨S,x4,x5,x6,x7,x8,x9,rfl,Wq,ok,ln⟩;have hi:i<20:=by omega
    clear W0 k4 em;have mL:S.2.ok:=ok _ (by simp);refine QAU (λN=>∀(S:mX)(x5 x6 x7 x8 x9:Option V) H',Wo D C p sd b l b2 l2 r H H' S S S->(∀k∈S.1++[S.2],k.ok)->S.1.length<=i+1->N [some<|.ref p,some<|.ref sd,some<|.ref b2,some<|.ref r,some<|.int<|0+(i:Int),x5,x6,x7,x8,x9] H') (λE kE=>?_) λS x5 x6 x7 x8 x9 H' Wq ok ln=>⟨S,_,x5,x6,x7,x8,x9,rfl,Wq,ok,ln⟩;refine gf (λN=>∀v,DA N0 H' v S.2.d->N [some<|.ref p,some<|.ref sd,some<|.ref b2,some<|.ref r,some<|.int<|0+(i:Int),some v,x6,x7,x8,x9] H') (λN kN=>?_) ?_
    ·obtain⟨dx,kv,xs,e1,e2,d1,d2⟩:=id Wq.bn.at_;exact⟨_,rfl,b2,dx,_,rfl,e1,Zb _ _ (by decide)<|by decide,b2,l2,S.1,S.2,rfl,Wq.bn,λv hv=>kN v hv⟩
    intro v hv;refine gf (λN=>∀H2 wd ns l1,Wo D C p sd b l b2 l2 r H H2 S S S->oB wd ns->(∀n∈ns,0<=n/\n<100)->H2 l1=some (.lst<|ns.map V.int)->l1≠l2->DA N0 H2 v S.2.d->N [some<|.ref p,some<|.ref sd,some<|.ref b2,some<|.ref r,some<|.int<|0+(i:Int),some v,some<|.str wd,some<|.ref l1,x8,x9] H2) (λN kN=>?_) ?_
    ·obtain⟨m,em⟩:=Wq.cZ;obtain⟨_,_,_,_,e2,_,_⟩:=id Wq.bn.at_;refine⟨_,rfl,_,rfl,p,m,v,S.2,rfl,em,hv,mL,λt l1 wd ns H2 G=>?_⟩;refine⟨t,_,rfl,aP.of G.ht,rfl,_,_,rfl,_,_,rfl,rfl,kN H2 wd ns l1 (Wq.xB dw G.k1 G.hp) G.gd G.nb G.hl (QK e2 G.nw).symm ?_⟩;exact jZ (λa ys e=>G.k1 a _ (ZL e em nofun) e) hv
    clear hv Wq;intro H2 wd ns l1 Wq g nb e1 n1 hv;obtain⟨dd,rr,ew,et,erw,ed,t20,ta⟩:=QAM g nb;refine gf (λN=>∀H3 t9,Wo D C p sd b l b2 l2 r H H3 S (fP dd S.1 S.2) S->Res t9 (mZ<|cM dd S.1 S.2).1 (mZ<|cM dd S.1 S.2).2 H3->H3 l1=some (.lst<|ns.map V.int)->DA N0 H3 v S.2.d->N [some<|.ref p,some<|.ref sd,some<|.ref b2,some<|.ref r,some<|.int<|0+(i:Int),some v,some<|.str wd,some<|.ref l1,some<|.ref t9,x9] H3) (λN kN=>?_) ?_
    ·obtain⟨_,_,_,f1,f2,_,_⟩:=id Wq.bn.at_;refine⟨_,rfl,_,rfl,_,rfl,b2,l2,S.1,S.2,dd,.ref l1,by rw[ew];rfl,Wq.bn,mL,by omega,by rw[et];exact .lst (λz=>z) e1<|TR _,λt9 H3 k3 B3 R3=>?_⟩;exact kN H3 t9 (Wq.lM dw k3 B3) R3 (k3 _ _ (ZL e1 f1 nofun) n1 e1)<|jZ (λa ys e=>k3 a _ (ZL e f1 nofun) (ZL e f2 nofun) e) hv
    clear hv Wq e1 n1 H2;intro H2 t9 Wq R9 e1 hv;have NA:=QAp (d:=dd) ok;have E_:(fP dd S.1 S.2).2.ok:=NA _ (by simp);have ln':=Qw6 (d:=dd) (k:=S.2) ln;refine gf (λN=>∀H4,Wo D C p sd b l b2 l2 r H H4 (fP dd S.1 S.2) (fP dd S.1 S.2) S->Res t9 (mZ<|cM dd S.1 S.2).1 (mZ<|cM dd S.1 S.2).2 H4->DA N0 H4 v S.2.d->N [some<|.ref p,some<|.ref sd,some<|.ref b2,some<|.ref r,some<|.int<|0+(i:Int),some v,some<|.str wd,some<|.ref l1,some<|.ref t9,x9] H4) (λN kN=>?_) ?_
    ·refine⟨_,rfl,_,rfl,_,rfl,wd,l1,ns,rfl,e1,nb,(PF g).2,(PF g).1,λH5 s5=>?_⟩;refine⟨sd,b,l,S.1,S.2,.str<|oX wd ns,.str<|oX wd ns,rfl,Wq.dk.same s5,mL,by omega,.str _<|Qx7 ta,λt e=>by cases e;omega,Um erw ed dw.sb (Wq.dk.same s5) λt6 H6 k6 D6 e6=>?_⟩;have W6:=(Wq.same s5).sJ dw k6 D6;obtain⟨_,_,_,f1,f2,_,_⟩:=id (Wq.same s5).dk.bn.at_;have e9:=k6 _ _ (ZL (s5 _ _ R9) f1 nofun) (ZL (s5 _ _ R9) f2 nofun)<|s5 _ _ R9;refine⟨_,rfl,_,_,wF e6 Ct.1 Ct.2,wF e9 Ct.1 Ct.2,IC hU,_,rfl,tK ID ?_⟩;have hv6:DA N0 H6 v S.2.d:=jZ (λa ys e=>k6 a _ (ZL e f1 nofun) (ZL e f2 nofun) e)<|hv.same s5;exact⟨_,rfl,_,rfl,sd,b,l,b2,l2,_,_,_,rfl,W6.dk,W6.bn,E_,λH7 s7=>⟨true,rfl,kN H7 (W6.same s7) (s7 _ _ e9)<|hv6.same s7⟩⟩
    clear hv Wq e1 R9 H2;intro H2 Wq R9 hv;refine gf (λN=>∀H4 x9,Wo D C p sd b l b2 l2 r H H4 (fP dd S.1 S.2) (fP dd S.1 S.2) (fP dd S.1 S.2)->N [some<|.ref p,some<|.ref sd,some<|.ref b2,some<|.ref r,some<|.int<|0+(i:Int),some v,some<|.str wd,some<|.ref l1,some<|.ref t9,x9] H4) (λN kN=>?_) ?_
    ·have cO:decide (V.str (Qb "refused")=V.str (Qb "told"))=false:=by decide
     obtain⟨xs,v3,er,d2,d1⟩:=Wq.rw.at_;have lx:xs.length=S.1.length:=by rw[d2.length,Qd]
     refine⟨_,rfl,t9,_,0,_,rfl,rfl,aP.of R9,Jc (j:=0) rfl,rfl,_,rfl,?_⟩;cases fJ:cM dd S.1 S.2 with
     |some MU=>
      rw[wM fJ] at Wq kN;rw[fJ] at R9;show if decide (V.str (Qb "refused")=V.str (Qb "told"))=true then _ else _
      rw[cO];refine a9<|a9 ⟨_,rfl,t9,_,0,_,rfl,rfl,aP.of R9,Jc (j:=0) rfl,rfl,_,rfl,?_⟩;show if decide (V.str (Qb "refused")=V.str (Qb "told"))=true then _ else _
      rw[cO];exact a9<|kN _ _ Wq
     |none=>
      rw[zL fJ] at Wq kN;rw[fJ] at R9;show if decide (V.str (Qb "told")=V.str (Qb "told"))=true then _ else _
      rw[X1 rfl];refine bI ⟨_,rfl,rfl,_,rfl,?_⟩;by_cases hw:wd=Qb "undo"
      ·rw[X1<|by rw[hw]];refine bI ?_
       have ed2:=ew.trans hw;have eu:dd=.aT:=Kd ed2;subst eu;obtain⟨ep,kl,ee⟩:∃ep kl,S.1=ep++[kl]:=by
        cases hs:S.1 with
        |nil=>rw[hs] at fJ;cases fJ
        |cons a as=>exact⟨(a::as).dropLast,(a::as).getLast<|by simp,(Jh _).symm⟩
       have st:jF .aT S.1 S.2=(ep,kl):=by
        show(S.1.dropLast,S.1.getLastD S.2)=_;rw[ee];simp
       rw[ee] at d2;refine⟨_,rfl,.inl ⟨rfl,_,aA.of er⟩,r,xs++[v3],v3,rfl,rfl,er,by simp,?_⟩;rw[Dk];exact kN _ _ (Wq.rows dw (λa o h e=>by rw[QH h];exact e) (by rw[st];exact Sb (k:=kl) er d2))
      ·rw[X0 λz=>hw<|V.str.inj z];refine a9 ⟨_,rfl,t9,_,0,_,rfl,rfl,aP.of R9,Jc (j:=0) rfl,rfl,_,rfl,?_⟩;show if decide (V.str (Qb "told")=V.str (Qb "told"))=true then _ else _
       rw[X1 rfl];refine bI ?_
       have hu:dd.wd ≠ "undo" := λz=>hw<|ew.symm.trans z
       have st:jF dd S.1 S.2=(S.1++[S.2],fF dd S.2):=KL hu;have ndu:DR dd S.2=none:=by rw[<- T1 hu];exact fJ
       rw[st] at Wq kN;refine BL (λN=>∀H4 pd,Wo D C p sd b l b2 l2 r H H4 (S.1++[S.2],fF dd S.2) (S.1++[S.2],fF dd S.2) (S.1++[S.2],fF dd S.2)->DA N0 H4 v S.2.d->H4 pd=some (.dK<|nj fT fR)->N [some<|.ref p,some<|.ref sd,some<|.ref b2,some<|.ref r,some<|.int<|0+(i:Int),some v,some<|.str wd,some<|.ref l1,some<|.ref t9,some<|.ref pd] H4) (λN kN=>?_) ?_
       ·obtain⟨dx,kv,ys,e1,e2,d3,d4⟩:=id Wq.bn.at_;refine⟨_,rfl,.inl ⟨rfl,_,aA.of er⟩,_,rfl,b2,dx,_,rfl,e1,Zb _ _ (by decide)<|by decide,b2,l2,_,_,rfl,Wq.bn,λv4 oi=>?_⟩;have lx1:(xs++[v3]).length<=1000:=by rw[Qg,lx];show _+1<=_;omega
        refine⟨r,xs++[v3],v4,rfl,rfl,er,WN lx1,λpd AJ=>?_⟩;have W4:=Wq.rows (S:=(S.1++[S.2],fF dd S.2)) dw (λa o h e=>by rw[QH h];exact e)<|QvB er d2 d1 oi;have hv5:DA N0 (upd H2 r<|.lst<|xs++[v3]++[v4]) v S.2.d:=jZ (λa ys e=>by rw[QH<|ZL e er nofun];exact e) hv;refine⟨QC,nj fT fR,rfl,by show 2<=15;decide,?_⟩;refine kN _ pd (W4.same λa o e=>?_) (hv5.same λa o e=>?_) QC
        ·rw[QH<|QK e AJ,QH<|QK e AJ];exact e
        ·rw[QH<|QK e AJ,QH<|QK e AJ];exact e
       ·intro H4 pd Wq hv ep;obtain⟨dx,kv,ys,e1,e2,d3,d4⟩:=id Wq.bn.at_;have tn:¬Qb "turn" = wd->¬Qb "rest" = wd->fQ H4 pd (.str wd) none:=λa c=>zg ep wd<|QsR a c
        have gp:∀a c:Xd,a.depth<=9->(A.deeper<|envOfC (Qb "_law_right") (QL wI) s_.heap.objs.size f_ aj).units+min a.depth c.depth<cLine:=λa c h=>by
         have:=hU;have:min a.depth c.depth<=9:=QQ (CK _ _) h;omega
        subst ew;cases dd with
        |turn=>
         refine⟨_,rfl,_,rfl,pd,some<|.ref fT,rfl,zg ep _ VT,_,rfl,bI ?_⟩;refine⟨_,rfl,b2,dx,_,rfl,e1,Zb _ _ (by decide)<|by decide,b2,l2,_,_,rfl,Wq.bn,λv4 oi=>?_⟩;refine⟨_,rfl,_,rfl,pd,.ref fT,rfl,zg ep _ VT,fT,_,rfl,.inl ⟨rfl,rfl⟩,_,rfl,?_⟩;refine gZ (args:=[.v S.2.d]) (λd=>d=(fF .turn S.2).d) XF (.cons hv .nil) ⟨S.2.h,S.2.w,S.2.f,rfl,mL.h6,mL.w6,rfl⟩ (λd hd v5 H5 s5 Gd _=>?_) λ_ z=>z.elim
         subst hd;exact⟨_,_,nF<|oi.same s5,nF Gd,gp _ _<|yZ _ _ _,_,rfl,tK (y3 _ _ _)<|kN _ _<|Wq.same s5⟩
        |rest=>
         refine⟨_,rfl,_,rfl,pd,some<|.ref fR,rfl,zg ep _ VS,_,rfl,bI ?_⟩;refine⟨_,rfl,b2,dx,_,rfl,e1,Zb _ _ (by decide)<|by decide,b2,l2,_,_,rfl,Wq.bn,λv4 oi=>?_⟩;refine⟨_,rfl,_,rfl,pd,.ref fR,rfl,zg ep _ VS,fR,_,rfl,.inr ⟨rfl,rfl⟩,_,rfl,?_⟩;refine gZ (args:=[.v S.2.d]) (λd=>d=(fF .rest S.2).d) XF (.cons hv .nil) ⟨S.2.h,S.2.w,S.2.f,rfl,mL.h6,mL.w6,rfl⟩ (λd hd v5 H5 s5 Gd _=>?_) λ_ z=>z.elim
         subst hd;exact⟨_,_,nF<|oi.same s5,nF Gd,gp _ _<|yZ _ _ _,_,rfl,tK (y3 _ _ _)<|kN _ _<|Wq.same s5⟩
        |aT=>exact X5 rfl hu
        |put x y=>exact⟨_,rfl,_,rfl,pd,none,rfl,tn (by show ¬Qb "turn" = Qb "put";decide) (by show ¬Qb "rest" = Qb "put";decide),_,rfl,a9<|kN _ _ Wq⟩
        |take x y=>exact⟨_,rfl,_,rfl,pd,none,rfl,tn (by show ¬Qb "turn" = Qb "take";decide) (by show ¬Qb "rest" = Qb "take";decide),_,rfl,a9<|kN _ _ Wq⟩
        |row=>exact⟨_,rfl,_,rfl,pd,none,rfl,tn (by show ¬Qb "turn" = Qb "row";decide) (by show ¬Qb "rest" = Qb "row";decide),_,rfl,a9<|kN _ _ Wq⟩
        |col=>exact⟨_,rfl,_,rfl,pd,none,rfl,tn (by show ¬Qb "turn" = Qb "column";decide) (by show ¬Qb "rest" = Qb "column";decide),_,rfl,a9<|kN _ _ Wq⟩
    intro H4 x9 Wq;obtain⟨dx,kv,ys,e1,e2,d3,d4⟩:=id Wq.bn.at_;obtain⟨xs,v3,er,d2,d1⟩:=Wq.rw.at_;have gp:∀a c:Xd,a.depth<=9->(A.deeper<|envOfC (Qb "_law_right") (QL wI) s_.heap.objs.size f_ aj).units+min a.depth c.depth<cLine:=λa c h=>by
     have:=hU;have:min a.depth c.depth<=9:=QQ (CK _ _) h;omega
    exact⟨_,rfl,b2,dx,_,rfl,e1,Zb _ _ (by decide)<|by decide,b2,l2,_,_,rfl,Wq.bn,λv4 oi=>⟨_,rfl,_,rfl,r,_,_,v3,rfl,rfl,aA.of er,Kk _ _,_,_,nF oi,nF d1,gp _ _<|yZ _ _ _,_,rfl,tK (y3 _ _ _)<|kE _ _ _ _ _ _ _ Wq NA ln'⟩⟩
   ·rintro σ H' ⟨S,x4,x5,x6,x7,x8,x9,rfl,Wq,ok,ln⟩;exact kN H' S _ _ _ _ _ _ Wq ok (by omega)
  intro H4 S y4 y5 y6 y7 y8 y9 Wq ok ln;clear W0 H3;have gp:∀a c:Xd,a.depth<=9->(A.deeper<|envOfC (Qb "_law_right") (QL wI) s_.heap.objs.size f_ aj).units+min a.depth c.depth<cLine:=λa c h=>by
   have:=hU;have:min a.depth c.depth<=9:=QQ (CK _ _) h;omega
  refine gf (λN=>∀H' k,Wo D C p sd b l b2 l2 r H H' ([],k) ([],k) ([],k)->k.ok->N [some<|.ref p,some<|.ref sd,some<|.ref b2,some<|.ref r,y4,y5,y6,y7,y8,y9] H') (λN kN=>?_) ?_
  ·refine⟨λm σ H'=>∃S:mX,σ=[some<|.ref p,some<|.ref sd,some<|.ref b2,some<|.ref r,y4,y5,y6,y7,y8,y9]/\Wo D C p sd b l b2 l2 r H H' S S S/\(∀k∈S.1++[S.2],k.ok)/\S.1.length<=20/\S.1.length=m,⟨_,S,rfl,Wq,ok,ln,rfl⟩,?_⟩;clear Wq ok ln S H4;rintro m σ H4 ⟨S,rfl,Wq,ok,ln,lm⟩;obtain⟨xs,v3,er,d2,d1⟩:=Wq.rw.at_;have lx:xs.length=S.1.length:=by rw[d2.length,Qd]
   refine⟨_,rfl,r,_,rfl,.inl<|aA.of er,_,_,rfl,rfl,_,rfl,?_⟩;rw[Qg,lx,lm];cases m with
   |zero=>
    rw[X0 (show ¬(1:Int)<((0+[v3].length:Nat):Int) by show ¬(1:Int)<1;omega)];refine a9 ?_
    obtain⟨S1,k⟩:=S;obtain rfl:=Mh lm;exact kN H4 k Wq (ok k<|by simp)
   |succ m=>
    rw[X1 (show(1:Int)<((m+1+[v3].length:Nat):Int) by show(1:Int)<((m+1+1:Nat):Int);omega)];refine bI ⟨λσ H'=>∃S:mX,σ=[some<|.ref p,some<|.ref sd,some<|.ref b2,some<|.ref r,y4,y5,y6,y7,y8,y9]/\Wo D C p sd b l b2 l2 r H H' S S S/\(∀k∈S.1++[S.2],k.ok)/\S.1.length<=20/\S.1.length=m,λσ' H' z=>⟨m,Dd m,z⟩,?_⟩;obtain⟨ep,kl,ee⟩:∃ep kl,S.1=ep++[kl]:=by
     cases hs:S.1 with
     |nil=>rw[hs] at lm;cases lm
     |cons a as=>exact⟨(a::as).dropLast,(a::as).getLast<|by simp,(Jh _).symm⟩
    have st:jF .aT S.1 S.2=(ep,kl):=by
     show(S.1.dropLast,S.1.getLastD S.2)=_;rw[ee];simp
    have fJ:cM .aT S.1 S.2=none:=by
     show(if S.1.isEmpty=true then some (Qb "deed") else none)=none;rw[ee,XY<|by simp]
    have Nz:∀k∈ep++[kl],k.ok:=λk hk=>ok k (by rw[ee];exact JS _ hk)
    have l2':ep.length<=20:=by rw[ee,Qg] at ln;omega
    have lm2:ep.length=m:=by rw[ee,Qg] at lm;exact YO lm
    refine BL (λN=>∀H',Wo D C p sd b l b2 l2 r H H' S (ep,kl) (ep,kl)->N [some<|.ref p,some<|.ref sd,some<|.ref b2,some<|.ref r,y4,y5,y6,y7,y8,y9] H') (λN kN=>?_) ?_
    ·rw[ee] at d2;refine⟨_,rfl,.inl ⟨rfl,_,aA.of er⟩,r,xs++[v3],v3,rfl,rfl,er,by simp,?_⟩;rw[Dk];have W1:=Wq.rows (S:=(ep,kl)) dw (λa o h e=>by rw[QH h];exact e)<|Sb (k:=kl) er d2;obtain⟨dx,kv,ys,e1,e2,d3,d4⟩:=id W1.bn.at_;refine⟨_,rfl,b2,dx,_,rfl,e1,Zb _ _ (by decide)<|by decide,b2,l2,S.1,S.2,rfl,W1.bn,ok _<|by simp,by omega,λwd hw=>(by rw[fJ] at hw;cases hw),λ_ H' k2 B2=>?_⟩;rw[st] at B2;exact kN H'<|W1.lM dw k2 B2
    intro H5 W5;obtain⟨dx,kv,ys,e1,e2,d3,d4⟩:=id W5.bn.at_;obtain⟨xs,v3,er,d2,d1⟩:=W5.rw.at_;obtain⟨fZ,ed⟩:=id W5.dk.dk;have ru:gF (.str<|Qb "undo")=some (.alone 4):=by kernel_rfl
    refine⟨_,rfl,b2,dx,_,rfl,e1,Zb _ _ (by decide)<|by decide,b2,l2,_,_,rfl,W5.bn,λv4 oi=>⟨_,rfl,_,rfl,r,_,_,v3,rfl,rfl,aA.of er,Kk _ _,_,_,nF oi,nF d1,gp _ _<|yZ _ _ _,_,rfl,tK (y3 _ _ _) ?_⟩⟩;refine⟨_,rfl,sd,fZ,_,rfl,ed,qW _<|by decide,sd,b,.str<|Qb "undo",.str<|Qb "undo",rfl,⟨fZ,ed⟩,.str _<|by decide,λt e=>by cases e;decide,?_⟩;unfold Bg;rw[ru];intro H6 sp s6 a8;have a8:some (lY C xc .aT)=some sp:=a8;cases a8;have W6:=W5.same s6;refine⟨b,l,S.1,S.2,rfl,W6.dk.bn,ok _<|by simp,by omega,λwd hw=>(by rw[fJ] at hw;cases hw),λ_ H7 k7 B7=>?_⟩;rw[st] at B7;obtain⟨_,_,_,_,f6,_,_⟩:=id W6.dk.bn.at_;have W7:=W6.sJ (S:=(ep,kl)) dw k7 ⟨⟨fZ,k7 _ _ dw.sb (ZL (s6 _ _ ed) f6 nofun)<|s6 _ _ ed⟩,B7⟩;refine⟨rfl,_,rfl,yS _ ?_⟩;exact⟨_,rfl,_,rfl,sd,b,l,b2,l2,_,_,_,rfl,W7.dk,W7.bn,Nz _<|by simp,λH8 s8=>⟨true,rfl,(ep,kl),rfl,W7.same s8,Nz,l2',lm2⟩⟩
  intro H5 k5 Wq mL;have hd:cM .aT [] k5=some (Qb "deed"):=rfl;have hn:fP .aT [] k5=([],k5):=wM hd;have lr:Jb (.str<|Qb "refused")=true:=by decide
  have le:Jb (.str<|Qb "deed")=true:=by decide
  have ru:gF (.str<|Qb "undo")=some (.alone 4):=by kernel_rfl
  refine⟨_,rfl,by show 0<=1000;decide,λlq H6 s6 n6 e6=>?_⟩;have W6:=Wq.same s6;refine⟨b2,l2,[],k5,.aT,.ref lq,rfl,W6.bn,mL,by decide,.lst (λz=>z) e6 .nil,λt H7 k7 B7 R7=>?_⟩;have W7:=W6.lM (S:=fP .aT [] k5) dw k7 B7;have R7:Res t "refused" "deed" H7:=R7;rw[hn] at W7;refine⟨by show 2<=1000;decide,λt8 H8 s8 _ e8=>⟨_,_,wF (s8 _ _ R7) lr le,wF e8 lr le,IC hU,?_⟩⟩;have W8:=W7.same s8;refine⟨_,rfl,?_⟩;rw[ID];refine bI ?_
  refine⟨_,rfl,sd,b,l,[],k5,.str<|Qb "undo",.str<|Qb "undo",rfl,W8.dk,mL,by decide,.str _<|by decide,λt e=>by cases e;decide,Um (dd:=.aT) ru rfl dw.sb W8.dk λt9 H9 k9 D9 e9=>?_⟩;have W9:=W8.sJ (S:=fP .aT [] k5) dw k9 D9;have e9:Res t9 "refused" "deed" H9:=e9;refine⟨by show 2<=1000;decide,λta Ha sa _ ea=>⟨_,_,wF (sa _ _ e9) lr le,wF ea lr le,IC hU,?_⟩⟩;rw[ID];exact q _ (W9.same sa).sm
end
end Rk


namespace Rk
open L2 _root_.Rd
open Dl
open Rt
abbrev HK:Ze:=top 101
section
variable{P:QB}{w:Jf}{K:Qa}{mg:Str->Option Xc}{base:Xl}
def Ss:Ya ["_law_script", "_law_number"] ["_law_script"] (QL HK):=⟨rfl,rfl,rfl,by decide,rfl,by decide,by decide⟩
def QAi{f:Xb}{fd:Zs}(F:iz K "law" "law" HK f fd)(Tg:aB mg)
  (c1:ar P w K mg base aq 1 "_law_cell_at"<|Vn K)
  (c2:ar P w K mg base aq 1 "_law_pot" PD)
  (c3:ar P w K mg base aq 11 "_law_right" Vo) :
  aI P w K mg base aq 13 f fd ["_law_script"] (Ie K):=by
 refine F.ok Ss (λvs H Q E h=>?_) λaj A outer s H vs Q E hr h=>?_
 ·obtain⟨a,ns,rfl,_⟩:=h;rfl
 ·obtain⟨a,ns,rfl,hS,hlen,k⟩:=h;refine' ⟨_,Qu (BZ JQ rfl (uE (by rfl) Tg.range<|Qj (Zc (Qo5 rfl) (by rfl) Tg.max Rc<|Qj Jj<|Qj (Zc (WE rfl) (by rfl) Tg.min Rf<|Qj (Zc Zx (by rfl) Tg.len iK<|Qj (pv 0) Qp)<|Qj Jj Qp) Qp) Qp) (i7 1 Ss.nd)<|QP<|d_ (o8<|tZ<|Zr c3 hr<|Qj (Zr c2 hr<|Qj (Zr c1 hr<|Qj (pv 0)<|Qj (pv 1) Qp) Qp) Qp) (QP YB) Zu)<|QP<|JV Bw,?_⟩;have mx:∀n:Int,0<=n->(if(if 3<n then 3 else n) > 1 then(if 3<n then 3 else n) else 1)<=3/\0<=(if(if 3<n then 3 else n) > 1 then(if 3<n then 3 else n) else 1):=λn hn=>by
   split<;>split<;>omega
  have mx:=mx ((ns.map V.int).length:Int) (by omega);refine⟨_,rfl,a,_,rfl,.inl hS,_,_,rfl,_,_,rfl,_,rfl,?lo,?hi,?lp⟩
  case lo=>have:=mx.2;omega
  case hi=>have:=mx.1;omega
  refine La (λi σ H'=>∃x1,σ=[some<|.ref a,x1]/\ag H H') ⟨_,rfl,ag.refl H⟩ ?_ ?_
  ·rintro i σ H' hi ⟨x1,rfl,sm⟩;refine⟨_,rfl,_,rfl,a,ns,_,rfl,sm.seq hS,by omega,by omega,λc=>⟨c,rfl,λp n np=>⟨p,rfl,⟨n,QC⟩,λH2 k2=>⟨true,rfl,?_⟩⟩⟩⟩;exact⟨_,rfl,λb o e=>k2 b o (QK (sm _ _ e) np) (by rw[QH<|QK (sm _ _ e) np];exact sm _ _ e)⟩
  ·rintro σ H' ⟨x1,rfl,sm⟩;exact k H'
end
end Rk


namespace PySem.W.Fast
def tw11848466882911871491:=0
def tw12937031346485955575:=0
def tw5878311368181589344:=0
def tw17571146462651165544:=0
def tw425210680615990204:=0
def tw17485706278144983420:=0
def tw10753352072455116172:=0
def tw13938314661229656820:=0
def tw9092824587984749221:=0
def tw3147586512620263504:=0
def tw4549592882940624991:=0
def tw18225730974854849232:=0
def tw1901816957431932607:=0
def tw14760305595823116201:=0
def tw6617293068345287786:=0
def tw9011419923220220247:=0
def tw17935194087993525085:=0
def tw9885037933902021832:=0
def tw10822461877191769789:=0
def tw14367345869917104672:=0
def tw14758536477384820671:=0
def tw11670911213980951327:=0
def tw8615539602847196274:=0
def tw14916364819686123624:=0
def tw17124413288404248025:=0
def tw3768145004779782128:=0
def tw9223817180434241095:=0
def tw14996834834213124590:=0
def tw14367893532501491418:=0
def tw132122496667063298:=0
def tw15271251278102516475:=0
def tw5408292977904102362:=0
def tw10394229141571338:=0
def tw10634277786253052244:=0
def tw4889960409048502464:=0
def tw15688398930278373963:=0
def tw12056308655905093710:=0
def tw5502551373205856111:=0
def tw10602207609601179984:=0
def tw18262642008906862846:=0
def tw17762846791438853990:=0
def tw3258290373685256065:=0
def tw4269798543252212001:=0
def tw13677524410161859918:=0
def tw4263752403467268549:=0
def tw6838471585989860872:=0
def tw14584263831531429147:=0
def tw7360218693106304430:=0
def tw3169543259880176026:=0
def tw16533626372329803601:=0
def tw13482703208938270092:=0
def tw10047842978473741022:=0
def tw5684410688084770606:=0
def tw8535349949411704894:=0
def tw3598843749071425779:=0
def tw856634839344809688:=0
def tw750426959991418102:=0
def tw1550411455268812283:=0
def tw1344344188615503372:=0
def tw17325321602694035641:=0
def tw13694173248846029414:=0
def tw1825354515887709715:=0
def tw10944996661169399687:=0
def tw16821513041216653056:=0
def tw11010458721096457941:=0
def tw11676634814991334743:=0
def tw14871750312650529333:=0
def tw15649020786343512530:=0
def tw12080073936943077012:=0
def tw8087064065720012785:=0
def tw940037307119412080:=0
def tw10235848492385097891:=0
def tw12223243180670737122:=0
def tw13224680941091299987:=0
def tw15113863634628651785:=0
def tw15129530577713008424:=0
def tw5534627042775705900:=0
def tw7083317721204617831:=0
def tw2253082620861274313:=0
def tw13827491345380868794:=0
def tw9534681662310817701:=0
def tw2472316088295750007:=0
def tw10134983151888168743:=0
def tw1763247014864854935:=0
def tw8041963573708531895:=0
def tw12153108189406240716:=0
def tw15632969773634333782:=0
def tw14021729993767127097:=0
def tw313622416805591793:=0
def tw7375827624313829826:=0
def tw15660801590475095348:=0
def tw15777927246011586968:=0
def tw839187540938693874:=0
def tw6737155102537567220:=0
def tw12869434083018444755:=0
def tw13878741257241274884:=0
def tw6595171408619819736:=0
def tw3590255207892354839:=0
def tw6973702095182640049:=0
def tw7897590342835401682:=0
def tw11890283606902582610:=0
def tw8505533517832378232:=0
def tw9342708909418750583:=0
def tw7411610836413720827:=0
def tw7742907702817569164:=0
def tw3602233864562340700:=0
def tw12864780177030579492:=0
def tw9092834890524703213:=0
def tw1428497911664587488:=0
def tw6123041926551015409:=0
def tw6137934630122861777:=0
def tw8866544785907411187:=0
def tw9023400038960158605:=0
def tw872906533325356149:=0
def tw4511451937373574315:=0
def tw5076992493567167742:=0
def tw661122563553219863:=0
def tw14052017611127499982:=0
def tw12895568739496149856:=0
def tw15574411153855923682:=0
def tw18134835673643922920:=0
def tw8706501399936461321:=0
def tw13951179699845828480:=0
def tw595441165620225359:=0
def tw9360845124351807517:=0
def tw11030926975407349165:=0
def tw1781612492228925492:=0
def tw13747066088756641413:=0
def tw8597794016851075789:=0
def tw10412632019382342015:=0
def tw7916784278961154102:=0
def tw16875567843715163546:=0
def tw7433981512693068072:=0
def tw1893608374322698815:=0
def tw5528067440423527436:=0
def tw1607454916897667584:=0
def tw11450627369153329795:=0
def tw6680209356824317424:=0
def tw13846706997201394025:=0
def tw11886602582169265889:=0
def tw16658599125917421632:=0
def tw7589769163213093261:=0
def tw15439795632630099138:=0
def tw10104910592090638778:=0
def tw12114859071450054473:=0
def tw632028855170102531:=0
def tw7099752358878448846:=0
def tw7087795947923984629:=0
def tw17156444718287961984:=0
def tw4171628714761701242:=0
def tw18112900216097019618:=0
def tw319767518329233522:=0
def tw1708816412179571076:=0
def tw8653707616651067489:=0
def tw15234916850360358386:=0
def tw518431724301187633:=0
def tw4270771207951057208:=0
def tw6725530976760591336:=0
def tw11648290541892746931:=0
def tw1457174850975243301:=0
def tw1708456046146061292:=0
def tw4319911199671550352:=0
def tw8711604064629716050:=0
def tw10077984792227952901:=0
def tw9307789142988226859:=0
def tw16050425612303339165:=0
def tw10769213125193135737:=0
def tw18163485182419239915:=0
def tw2630042653800771723:=0
def tw985516509828116548:=0
def tw6441978485594946257:=0
def tw8467460768987645657:=0
def tw15082709481775475280:=0
def tw15910909742719888547:=0
def tw7932601301776939327:=0
def tw13629657035690040590:=0
def tw7252205970574189755:=0
def tw15348676507814910854:=0
def tw16511454463792869909:=0
def tw103633480853108235:=0
def tw18389535001314017796:=0
def tw297737252915442271:=0
def tw11344687694829038059:=0
def tw3863037801387186640:=0
def tw3574001585321743666:=0
def tw3692360980462978639:=0
def tw13693709924968645344:=0
def tw736250156566120417:=0
def tw11590910254889244543:=0
def tw2937563518181534638:=0
def tw9519862216086028114:=0
def tw1162967698632626939:=0
def tw10275695761062560567:=0
def tw13911427762576301581:=0
def tw8842121785516726748:=0
def tw723000395106796397:=0
def tw12722727051003703553:=0
def tw15164029302766636057:=0
def tw2347592879142002653:=0
def tw1216011840422896271:=0
def tw15748145146646792773:=0
def tw5130899160502604525:=0
def tw6583611645164491114:=0
def tw11083802946308709003:=0
def tw4857265439989651316:=0
def tw12597190702707695685:=0
def tw1657804599553990877:=0
def tw17730656435865427683:=0
def tw3482212934453110471:=0
def tw11888203715079530036:=0
def tw7999458390354157111:=0
def tw7236656137216543844:=0
def tw8851144821946257050:=0
def tw12344670567384811294:=0
def tw3472496598558164630:=0
def tw577327781611861320:=0
def tw7996358438080481967:=0
def tw15151964635439030549:=0
def tw15971861195423490214:=0
def tw6312008993550354144:=0
def tw13858633727501097424:=0
def tw12789233610138038099:=0
def tw6904596931067387770:=0
def tw18356619619414101315:=0
def tw1137295364819526029:=0
def tw14334884392806107312:=0
def tw1435204558605928179:=0
def tw11486140607093324789:=0
def tw14893414625013522530:=0
def tw13462206509481388114:=0
def tw12797735109421543762:=0
def tw9304782262582729319:=0
def tw1593977384811632948:=0
def tw7376452564976341208:=0
def tw4587146217426369866:=0
def tw15888229734828754817:=0
def tw14409990841979438420:=0
def tw13698909902110780903:=0
def tw4477068418614417877:=0
def tw8547977726729069820:=0
def tw6153976831207088654:=0
def tw16524331348700320254:=0
def tw5285250965163481876:=0
def tw351985480040919754:=0
def tw14655066132326199203:=0
def tw17167947202924116205:=0
def tw5699189651899479196:=0
def tw1436700313383055324:=0
def tw4942123861814261693:=0
def tw12257902127399421562:=0
def tw6334949535541320771:=0
def tw1120179333818690708:=0
def tw386402766885818177:=0
def tw15832899297232655906:=0
def tw17984564263859187426:=0
def tw18364049018267946858:=0
def tw3782200096233230307:=0
def tw17176869771536667221:=0
def tw15069186686328963971:=0
def tw7836517067458922831:=0
def tw15388246953188451440:=0
def tw12473621829585176336:=0
def tw14294985214530976092:=0
def tw2895981592601921813:=0
def tw9325548669639293242:=0
def tw13029628732720915169:=0
def tw9400170188932191178:=0
def tw5300702780662019549:=0
def tw399171892625823605:=0
def tw13608856156050328769:=0
def tw7638721857112208522:=0
def tw12682330415709835763:=0
def tw2995069651556174413:=0
def tw11327908331830884424:=0
def tw2291105807416875119:=0
def tw4861112751764963459:=0
def tw18062392741250052030:=0
def tw16059444003689696960:=0
def tw11191935096757714375:=0
def tw12579075253676878705:=0
def tw10335652497215238208:=0
def tw14487688804068190563:=0
def tw3307483043114499212:=0
def tw8151140005914836453:=0
def tw8385164613866149775:=0
def tw10201819483370572102:=0
def tw7598695609067072304:=0
def tw10343708104589195009:=0
def tw2241586719911518545:=0
def tw4761522056110237340:=0
def tw13058374151427442341:=0
def tw3590892637958392729:=0
def tw4651941258911715349:=0
def tw13417656947532422203:=0
def tw14325989106670093577:=0
def tw2422718517615089733:=0
def tw11600575803194831445:=0
def tw13680760086315527433:=0
def tw1300125638935695315:=0
def tw7609159944042582067:=0
def tw4060776575016367044:=0
def tw4091415514330854241:=0
def tw9026119919116601333:=0
def tw6757145832225616969:=0
def tw9731771629694761124:=0
def tw5129812094307269479:=0
def tw14555872273792618143:=0
def tw15434893176653870362:=0
def tw17289778388579843874:=0
def tw6566112171048883862:=0
def tw13698211725443687564:=0
def tw16931123375585542582:=0
def tw4690127652360479380:=0
def tw5301125844256620469:=0
def tw2448526760564351287:=0
def tw177359175444267564:=0
def tw10313112046752326231:=0
def tw11446844895756969012:=0
def tw7158424593743539443:=0
def tw6416768865423928771:=0
def tw14809862978242383569:=0
def tw18081136009181908029:=0
def tw16402417606669961361:=0
def tw5882822941757170436:=0
def tw15971173829907905728:=0
def tw623378749114181391:=0
def tw10973270163880887507:=0
def tw15994914618985651255:=0
def tw7254693071321548371:=0
def tw17997986181035010073:=0
def tw12430843786162218362:=0
def tw3492236344106865329:=0
def tw3090457519243529680:=0
def tw10912590139711504421:=0
def tw5808258833584915064:=0
def tw7788062415023081945:=0
def tw18378924185972706759:=0
def tw5860603695291313390:=0
def tw5232649928534904689:=0
def tw8309937636834065894:=0
def tw13789747189836345973:=0
def tw5846290173947198116:=0
def tw484348240303237916:=0
def tw4429694085268828028:=0
def tw15600191009491694363:=0
def tw2548666014790199280:=0
def tw18278219416714991531:=0
def tw16509365894998611807:=0
def tw11788481156954844845:=0
def tw4700618244019239662:=0
def tw5281515371817371352:=0
def tw10448803112003182133:=0
def tw13345274795600264492:=0
def tw8917437601546671394:=0
def tw7869409110877108845:=0
def tw15629237598093074268:=0
def tw16386903137009299618:=0
def tw9388555410101139892:=0
def tw12046975513119549201:=0
def tw3969964955591426819:=0
def tw5108438509895168932:=0
def tw10136911597879022026:=0
def tw12151609996959686563:=0
def tw13420570822745074048:=0
def tw6490138580476635624:=0
def tw4822396979201661458:=0
def tw7251722584847083003:=0
def tw8610660253911675373:=0
def tw17525078088421433586:=0
def tw7106385692103190654:=0
def tw4417442831818829694:=0
def tw1225346004247424472:=0
def tw6998106121413802128:=0
def tw4754394952035271357:=0
def tw4383313915280273317:=0
def tw5451212752362589374:=0
def tw3762894387567625922:=0
def tw3457257966220335753:=0
def tw1921613954013330313:=0
def tw1842908459350512058:=0
def tw1250452958774575299:=0
def tw14164222321048247100:=0
def tw9151762551459810039:=0
def tw1984827629185925325:=0
def tw7303718199972524221:=0
def tw14800662867701546198:=0
def tw11093483480152662169:=0
def tw5792098685543964407:=0
def tw905497828105834995:=0
def tw1533410686826238007:=0
def tw2439571534531455699:=0
def tw12273428584908930960:=0
def tw10724394852654570534:=0
def tw8710414411488452199:=0
def tw10342166690329298146:=0
def tw14593457440733517744:=0
def tw12858706941220985378:=0
def tw1544355351402121502:=0
def tw13606735735333401656:=0
def tw13154341397579403051:=0
def tw17781587299125770813:=0
def tw5613794261000666295:=0
def tw9766201146074637043:=0
def tw14834585385901644277:=0
def tw13230525215050425650:=0
def tw17231238203522130173:=0
def tw5510696460398250271:=0
def tw9470729508246082227:=0
def tw8638213839876182711:=0
def tw14843323644161871238:=0
def tw1201730374510269505:=0
def tw987529086236007171:=0
def tw6078253014418679736:=0
def tw11776826904379354069:=0
def tw8067612052465389430:=0
def tw6369778100431833813:=0
def tw14834824853646288679:=0
def tw5921987924131393376:=0
def tw1433584576313533706:=0
def tw1533406142920017901:=0
def tw4755090677804940244:=0
def tw17589321956190997867:=0
def tw13447756875771276483:=0
def tw12624638422995636248:=0
def tw1618770039918958147:=0
def tw1506920007422335105:=0
def tw6301011896785055002:=0
def tw13688852948650295263:=0
def tw6351508758983780067:=0
def tw7995190761029547949:=0
def tw3814496016752377321:=0
def tw172828446650424612:=0
def tw9817810432266992464:=0
def tw15715298296042018139:=0
def tw1893667082120325002:=0
def tw5940535746646472457:=0
end PySem.W.Fast
namespace Rk
open L2 _root_.Rd Dl Rt
def QBx{l:Lh}{w:Jf}{K:Qa}{h:Xl}{mg:Str->Option Xc}{fa aS iD fR fC gA gC eF eJ eE gz gw eB gu gv gB eG dA dW e1 e2 e3 e4 e5 e6 e7 e8 e9 lG lF lE oH oG oF cH cG cF cE eR:Xb}{tgM Es Ep Eo El Er Em Et M_ M' M9 M8 M7 M6 M5 M4 M3 M2 MZ MY:_}{zA zW:Nat}(X:K.In h)(G:h.Ns Xf mg)(hfa:mg "law" = some (.ref fa))
  (cw:Am K "Bench" aS)
  (hG:Jr K (.ref aS) "kept" = some none)
  (fb:Jr K (.ref aS) "earlier" = some none)
  (fh:Am K "Desk" iD)
  (hE:Jr K (.ref iD) "bench" = some none)
  (d5:FnAt K "is_whole" Sr)
  (d6:FnAt K "is_whole_within" Ul)
  (d7:FnAt K "is_place" Si)
  (d8:FnAt K "turned" OV)
  (d9:FnAt K "rest" Sn)
  (d10:FnAt K "without" Nf)
  (d11:FnAt K "refuse_no_cell" OT)
  (d12:FnAt K "pieces" Uk)
  (d13:FnAt K "piece_with" Ng)
  (d14:FnAt K "meets_one" Sg)
  (d15:FnAt K "counts" Uj)
  (d16:FnAt K "most_size" OS)
  (d17:FnAt K "stand_at" Vk)
  (d18:FnAt K "refuse_no_size" Sk)
  (d19:FnAt K "followers" xu)
  (d20:FnAt K "row_behind" OU)
  (d21:FnAt K "cell_at" Ui)
  (d22:FnAt K "ways_behind" Pt)
  (d23:FnAt K "ways_to_go_on" Pu)
  (d24:FnAt K "ways_with_row" xn)
  (d25:FnAt K "greatest_size" Sd)
  (d26:FnAt K "refuse_no_place" xo)
  (d27:FnAt K "refuse_too_many" xm)
  (d28:bZ K aS "__init__" "Bench.__init__" QBt)
  (d29:bZ K aS "put" "Bench.put" yD)
  (d30:bZ K aS "take" "Bench.take" QBp)
  (d31:bZ K aS "row" "Bench.row" yC)
  (d32:bZ K aS "column" "Bench.column" yE)
  (d33:bZ K aS "turn" "Bench.turn" QBo)
  (d34:bZ K aS "rest" "Bench.rest" QBq)
  (d35:bZ K aS "undo" "Bench.undo" QBn)
  (d36:bZ K aS "keep" "Bench.keep" QBs)
  (d37:bZ K aS "board" "Bench.board" Rb)
  (d38:bZ K aS "counts" "Bench.counts" S8)
  (d39:bZ K aS "most" "Bench.most" QBr)
  (d40:bZ K iD "__init__" "Desk.__init__" QAC)
  (d41:bZ K iD "say" "Desk.say" xS)
  (d42:FnAt K "written" Pw)
  (d43:FnAt K "written_row" Px)
  (d44:FnAt K "put_cell" QA5)
  (d45:FnAt K "take_cell" Rm)
  (d46:FnAt K "put_row" QA3)
  (d47:FnAt K "put_column" QBc)
  (d48:FnAt K "turn_board" Rn)
  (d49:FnAt K "put_rest" Rl)
  (d50:FnAt K "undo_deed" Rp)
  (d51:FnAt K "tell_board" UW)
  (d52:FnAt K "tell_counts" Vs)
  (d53:FnAt K "tell_most" RO)
  (d54:FnAt K "tell_stand" UX)
  (d55:FnAt K "tell_pieces" Vt)
  (d56:FnAt K "are_two_numbers" Pq)
  (d57:FnAt K "_law_cell_at" Tz)
  (d58:FnAt K "_law_pot" xR)
  (d59:FnAt K "_law_take" QAw)
  (d60:FnAt K "_law_deed" QAx)
  (d61:FnAt K "_law_good_deed" PM)
  (d62:FnAt K "_law_row_of" TB)
  (d63:FnAt K "_law_kind_of" GU)
  (d64:FnAt K "_law_said" PN)
  (d65:FnAt K "how_many_lines" OR)
  (d66:FnAt K "showing" Sq)
  (d67:FnAt K "fewest_lines" OP)
  (d68:FnAt K "lots_of_rows" Sf)
  (d69:FnAt K "lines_with" xq)
  (d70:FnAt K "read" Sj)
  (d71:FnAt K "are_rows" OO)
  (d72:FnAt K "has_board_signs" OQ)
  (d73:FnAt K "_law_done" PL)
  (d74:FnAt K "_law_alike" I0)
  (d75:FnAt K "_law_right" wI)
  (d76:FnAt K "law" HK)
  (gl:pE K)
  (vE:Qh K Xf "ValueError" = some none)
  (gM:Qh K Xf "MOST_LINES" = some (some<|.int 6 tgM))
  (F_:Qh K Xf "BLANK" = some (some<|.str " " Es))
  (sF:Qh K Xf "DONE" = some (some<|.str "ok" Ep))
  (gNo:Qh K Xf "NO_CELLS" = some (some<|.str "none" Eo))
  (gTw:Qh K Xf "BEYOND_TWO_FIGURES" = some (some<|.int 100 El))
  (F':Qh K Xf "CELL" = some (some<|.str jV Er))
  (Od:Qh K Xf "OTHER" = some (some<|.str mQ Em))
  (Oe:Qh K Xf "BETWEEN" = some (some<|.str mS Et))
  (r1:Qh K Xf "rest" = some (some<|.ref fR))
  (r2:Qh K Xf "rest_boards" = some (some<|.ref fR))
  (r3:Qh K Xf "counts" = some (some<|.ref fC))
  (r4:Qh K Xf "counts_stands" = some (some<|.ref fC))
  (sR:Qh K Xf "put_row" = some (some<|.ref gA))
  (sU:Qh K Xf "put_column" = some (some<|.ref gC))
  (oN:Qh K Xf "turn_board" = some (some<|.ref eF))
  (oP:Qh K Xf "put_rest" = some (some<|.ref eJ))
  (oM:Qh K Xf "undo_deed" = some (some<|.ref eE))
  (sQ:Qh K Xf "tell_board" = some (some<|.ref gz))
  (sP:Qh K Xf "tell_counts" = some (some<|.ref gw))
  (oK:Qh K Xf "tell_most" = some (some<|.ref eB))
  (sN:Qh K Xf "tell_stand" = some (some<|.ref gu))
  (sO:Qh K Xf "tell_pieces" = some (some<|.ref gv))
  (sS:Qh K Xf "put_cell" = some (some<|.ref gB))
  (oO:Qh K Xf "take_cell" = some (some<|.ref eG))
  (nA:Qh K Xf "ALONE" = some (some<|.ref dA))
  (oA:K.lookup dA=some ⟨.type "dict",none,.dict (vD w.params [("row",M_,gA),("column",M',gC),("turn",M9,eF),("rest",M8,eJ),("undo",M7,eE),("board",M6,gz),("counts",M5,gw),("most",M4,eB),("stand",M3,gu),("pieces",M2,gv)]).toArray zA,#[]⟩)
  (yA:(dA == Xv)=false)
  (nW:Qh K Xf "WITH_PLACE" = some (some<|.ref dW))
  (oW:K.lookup dW=some ⟨.type "dict",none,.dict (vD w.params [("put",MZ,gB),("take",MY,eG)]).toArray zW,#[]⟩)
  (yW:(dW == Xv)=false)
  (E1:Qh K Xf "NoText" = some (some<|.ref e1))
  (E2:Qh K Xf "NoOrder" = some (some<|.ref e2))
  (E3:Qh K Xf "NoLines" = some (some<|.ref e3))
  (E4:Qh K Xf "TooFew" = some (some<|.ref e4))
  (E5:Qh K Xf "NoSize" = some (some<|.ref e5))
  (E6:Qh K Xf "TooMany" = some (some<|.ref e6))
  (E7:Qh K Xf "NoNumber" = some (some<|.ref e7))
  (E8:Qh K Xf "NoStand" = some (some<|.ref e8))
  (E9:Qh K Xf "NoCell" = some (some<|.ref e9))
  (E10:Qh K Xf "NotSquare" = some (some<|.ref lG))
  (E11:Qh K Xf "NoHits" = some (some<|.ref lF))
  (E12:Qh K Xf "NoCounts" = some (some<|.ref lE))
  (E13:Qh K Xf "NoStairs" = some (some<|.ref oH))
  (E14:Qh K Xf "NotAlike" = some (some<|.ref oG))
  (E15:Qh K Xf "NoParting" = some (some<|.ref oF))
  (E16:Qh K Xf "NoPlace" = some (some<|.ref cH))
  (E17:Qh K Xf "Double" = some (some<|.ref cG))
  (E18:Qh K Xf "NoDeed" = some (some<|.ref cF))
  (E19:Qh K Xf "NoRow" = some (some<|.ref cE))
  (ER:Qh K Xf "RookError" = some (some<|.ref eR))
  (k6:md K [e1,e2,e3,e4,e5,e6,e7,e8,e9,lG,lF,lE,oH,oG,oF,cH,cG,cF,cE] eR e6 "many")
  (q6:JH K e6 Rx.cD "ValueError.__new__" = true)
  (k9:md K [e1,e2,e3,e4,e5,e6,e7,e8,e9,lG,lF,lE,oH,oG,oF,cH,cG,cF,cE] eR e9 "cell")
  (q9:JH K e9 Rx.cD "ValueError.__new__" = true)
  (k16:md K [e1,e2,e3,e4,e5,e6,e7,e8,e9,lG,lF,lE,oH,oG,oF,cH,cG,cF,cE] eR cH "place")
  (EK:JH K cH Rx.cD "ValueError.__new__" = true)
  (k17:md K [e1,e2,e3,e4,e5,e6,e7,e8,e9,lG,lF,lE,oH,oG,oF,cH,cG,cF,cE] eR cG "double")
  (EJ:JH K cG Rx.cD "ValueError.__new__" = true)
  (k18:md K [e1,e2,e3,e4,e5,e6,e7,e8,e9,lG,lF,lE,oH,oG,oF,cH,cG,cF,cE] eR cF "deed")
  (EI:JH K cF Rx.cD "ValueError.__new__" = true)
  (k19:md K [e1,e2,e3,e4,e5,e6,e7,e8,e9,lG,lF,lE,oH,oG,oF,cH,cG,cF,cE] eR cE "row")
  (EH:JH K cE Rx.cD "ValueError.__new__" = true)
  : ∃fd:Zs,(∀(s:Xe)(v:Xc),o7 s fd ⟨[v],[]⟩ [("_law_script",v)])/\∀base:Xl,K.In base->base.Ns Xf mg->aI l.prog w K mg base aq 13 fa fd ["_law_script"] (Ie K):=by
 obtain⟨f,fd,a,F⟩:=d76.ex;cases hfa.symm.trans (uz X G a);refine⟨fd,λs v=>?_,λbase _ _=>?_⟩
 ·obtain⟨oc,od,kV,doc,pm,an,aj,ct,n_,rfl,lk,bQ⟩:=F.ex;exact .of_eq rfl
 have T:aB mg:=gl.c X G;have dc:∀{x st},FnAt K x st->az l.prog w K mg base x st:=λd=>d.c X G
 have dm:∀{C m q st},bZ K C m q st->bX l.prog w K mg base C m q st:=λd=>d.c
 have mo:∀{x v},Qh K Xf x=some (some v)->mg x=some v:=λe=>uz X G e
 have Tb:dn K aS:=⟨⟨cw.pg,cw.hd,cw.po,cw.sa⟩,hG,fb⟩;have Td:w8 K iD:=⟨⟨fh.pg,fh.hd,fh.po,fh.sa⟩,hE⟩;have iN:(dB cH cG e9 e6 cE cF) "place" = cH:=QpZ _ _ _ _ _ _;have gj:(dB cH cG e9 e6 cE cF) "double" = cG:=QmA _ _ _ _ _ _;have kP:(dB cH cG e9 e6 cE cF) "cell" = e9:=Qvf _ _ _ _ _ _;have kM:(dB cH cG e9 e6 cE cF) "many" = e6:=Qvd _ _ _ _ _ _;have kO:(dB cH cG e9 e6 cE cF) "deed" = cF:=Qve _ _ _ _ _ _;have rJ:(dB cH cG e9 e6 cE cF) "row" = cE:=QyG _ _ _ _ _ _;have mJ:∀wd:Str,wd = "row" ∨ wd = "place" ∨ wd = "double" ∨ wd = "cell" ∨ wd = "many" ∨ wd = "deed" -> md K [e1,e2,e3,e4,e5,e6,e7,e8,e9,lG,lF,lE,oH,oG,oF,cH,cG,cF,cE] eR ((dB cH cG e9 e6 cE cF) wd) wd:=by
  rintro wd (rfl | rfl | rfl | rfl | rfl | rfl)
  ·rw[rJ];exact k19
  ·rw[iN];exact k16
  ·rw[gj];exact k17
  ·rw[kP];exact k9
  ·rw[kM];exact k6
  ·rw[kO];exact k18
 have pG:=QrZ (dc d5) T;have di:=Qn1 (dc d6) T pG;have pN:=Qr4 (dc d7) T di;have mj:=QwF (dc d8) T;have pK:=Qr2 (dc d9) T;have uR:=QwO (CN:=(dB cH cG e9 e6 cE cF) "cell") (dc d11) T pN (by rw[kP];exact mo E9) (by rw[kP];exact q9);have MS:=QDb (dc d10) T uR;have pO:=Qr5 (dc d14) T;have mn:=Qn3 (dc d13) T pO;have iB:=Qn4 (dc d12) T mn;have mq:=QwQ (dc d16) T;have uH:=QwB (dc d24) T;have mi:=QwD (dc d23) T uH;have mr:=Qn6 (dc d15) T mi mq;have uZ:=mr.al X G r3 r4;have jI:=Qr7 (dc d25) T uZ;have ml:=QwN (dc d20) T;have Au:=QAl (dc d19) T ml;have pL:=Qr3 (dc d18) T di mq;have uI:=QwC (dc d22) T ml;have mw:=Qn7 (dc d21) T Au uI;have dF:=QlK (dc d17) T pL mi di mw;have rH:=QAf (CP:=(dB cH cG e9 e6 cE cF) "place") (dc d26) T di (by rw[iN];exact mo E16) (by rw[iN];exact EK);have rG:=QAe (CM:=(dB cH cG e9 e6 cE cF) "many") ⟨_,mo gM⟩ (dc d27) T (by rw[kM];exact mo E6) (by rw[kM];exact q6);have dJ:=QwT (dm d28) Tb;have cA:=QwS (dm d36) Tb;have mF:=QAg (xc:=(dB cH cG e9 e6 cE cF)) (dm d29) Tb T rH cA (by rw[gj];exact mo E17) (by rw[gj];exact EJ);have jK:=Qsg (xc:=(dB cH cG e9 e6 cE cF)) (dm d30) Tb rH MS cA;have mE:=QwZ (xc:=(dB cH cG e9 e6 cE cF)) (dm d31) Tb rG cA;have gi:=Qw0 (xc:=(dB cH cG e9 e6 cE cF)) (dm d32) Tb rG cA;have jJ:=Qsf (xc:=(dB cH cG e9 e6 cE cF)) (dm d33) Tb mj cA;have Ap:=pK.al X G r1 r2;have jL:=Qsh (xc:=(dB cH cG e9 e6 cE cF)) (dm d34) Tb Ap cA;have gI:=Qse (xc:=(dB cH cG e9 e6 cE cF)) (dm d35) Tb (by rw[kO];exact mo E18) (by rw[kO];exact EI);have cn:=Qn9 (dm d37) Tb;have gh:=QlL (dm d38) Tb uZ;have gJ:=Qsi (dm d39) Tb jI;have An:=QAb (dc d43) T (mo F')<|mo Od;have rF:=QAc (dc d42) T (mo Oe) An;have uV:=QwW (dc d44) T Tb (mo sF) mF;have pS:=Qsa (dc d45) T Tb (mo sF) jK;have uU:=QwV (dc d46) T Tb (mo sF) mE;have uY:=QwY (dc d47) T Tb (mo sF) gi;have pR:=Qr9 (dc d48) T Tb (mo sF) jJ;have pT:=Qsb (dc d49) T Tb (mo sF) jL;have pQ:=Qr8 (dc d50) T Tb (mo sF) gI;have uN:=QwJ (dc d51) T Tb cn rF;have uM:=QwI (dc d52) T Tb (mo F_) gh;have pH:=Qr0 (dc d53) T Tb gJ;have uK:=QwG (dc d54) T Tb (mo F_) (mo gNo) cn gJ dF;have uL:=QwH (dc d55) T Tb cn iB;have uJ:=QwE (dc d56) T<|mo gTw;have pV:=Qsc (dm d40) Td<|cw.i X G dJ;have jf:=QAd (xc:=(dB cH cG e9 e6 cE cF)) (dm d41) T Td (mo F_) (mo nA) (mo nW) (as:=[gA,gC,eF,eJ,eE,gz,gw,eB,gu,gv]) (ps:=[gB,eG]) (QBm [("row",M_,gA),("column",M',gC),("turn",M9,eF),("rest",M8,eJ),("undo",M7,eE),("board",M6,gz),("counts",M5,gw),("most",M4,eB),("stand",M3,gu),("pieces",M2,gv)] oA (show i'.Nodup by decide) yA) (QBm [("put",MZ,gB),("take",MY,eG)] oW (show nH.Nodup by decide) yW) rfl rfl (zb<|.cons (ar.at_ uU X G sR)<|.cons (ar.at_ uY X G sU)<|.cons (ar.at_ pR X G oN)<|.cons (ar.at_ pT X G oP)<|.cons (ar.at_ pQ X G oM)<|.cons (ar.at_ uN.yx X G sQ)<|.cons (ar.at_ uM.yx X G sP)<|.cons (ar.at_ pH.yx X G oK)<|.cons (ar.at_ uK.yx X G sN)<|.cons (ar.at_ uL.yx X G sO) .nil) (zb<|.cons (ar.at_ uV X G sS)<|.cons (ar.at_ pS X G oO) .nil) uJ (by rw[rJ];exact mo E19) (by rw[rJ];exact EH);have my:=Qn8 (dc d57) T;have Aq:=QAh (dc d58) T;have je:=QwK (dc d59) T;have Ao:=je.imp λ_ _ _ _ h=>Dl.QyM h
 have uX:=Qsd (dc d60) T Ao;have uT:=QwU (dc d61) T uX je;have pI:=Qr1 (dc d62) T;obtain⟨fk,fdk,ak,Fk⟩:=d63.ex;have Gk:Rx.w5 l.prog w K mg base 1 fk fdk ["_law_e"] (qZ K [e1,e2,e3,e4,e5,e6,e7,e8,e9,lG,lF,lE,oH,oG,oF,cH,cG,cF,cE]):=QwR Fk T (UO X G vE) (mo E1) (mo E2) (mo E3) (mo E4) (mo E5) (mo E6) (mo E7) (mo E8) (mo E9) (mo E10) (mo E11) (mo E12) (mo E13) (mo E14) (mo E15) (mo E16) (mo E17) (mo E18)<|mo E19;have uQ:=QwM (dc d64) Td jf (mo ak) Gk (Fk.binds λ_ _ _ _ _ _=>nV λ_=>rfl) Fk.kp (mo ER) mJ;have As:=QAk (dc d72) T (mo F')<|mo Od;have Ax:=QAm (dc d71) T (mo gM) As;have uS:=QwP (dc d70) T (mo Oe) (mo F') Ax;have Ar:=QAj (dc d65) T;have pP:=Qr6 (dc d68) T;have MT:=QDc (dc d69) T;have Aw:=Qn5 (dc d67) T MT pP Ar;have uP:=QwL (dc d66) T dF jI Aw;have uW:=QwX (xc:=(dB cH cG e9 e6 cE cF)) (dc d73) Tb mF jK mE gi jJ jL gI (mo ak) Gk (Fk.binds λ_ _ _ _ _ _=>nV λ_=>rfl) Fk.kp (mo ER) mJ;have pU:=Qsj (xc:=(dB cH cG e9 e6 cE cF)) (dc d74) T Td Tb jf cn gh gJ uS rF uZ dF uP iB;have pJ:=Qn2 (xc:=(dB cH cG e9 e6 cE cF)) (dc d75) T Td Tb (fh.i X G pV) (cw.i X G dJ) jf cn gI je uT uW uQ pI pU mj Ap;exact QAi F T my Aq pJ
end Rk


open PySem.W
set_option maxRecDepth 100000 in
set_option maxHeartbeats 0 in
theorem PySem.Challenge.cw_rooklands_k94_whole_desks_and_benches_holds : PySem.Challenge.rw_rooklands_k94_whole_desks_and_benches.Holds := by
 w_on;o_law;k_head;(case hw=>w_witness2)
 k_fill
 refine Rk.QEz rfl rfl (λw h Y=>PySem.W.kIn_of Y) ?F
 case F=>
  intro w mg fa h KX G ya;refine' Rk.QBx KX G ya ?_ ?_ ?_ ?_ ?_ ?_ ?_ ?_ ?_ ?_ ?_ ?_ ?_ ?_ ?_ ?_ ?_ ?_ ?_ ?_ ?_ ?_ ?_ ?_ ?_ ?_ ?_ ?_ ?_ ?_ ?_ ?_ ?_ ?_ ?_ ?_ ?_ ?_ ?_ ?_ ?_ ?_ ?_ ?_ ?_ ?_ ?_ ?_ ?_ ?_ ?_ ?_ ?_ ?_ ?_ ?_ ?_ ?_ ?_ ?_ ?_ ?_ ?_ ?_ ?_ ?_ ?_ ?_ ?_ ?_ ?_ ?_ ?_ ?_ ?_ ?_ ?_ ?_ ?_ ?_ ?_ ?_ ?_ ?_ ?_ ?_ ?_ ?_ ?_ ?_ ?_ ?_ ?_ ?_ ?_ ?_ ?_ ?_ ?_ ?_ ?_ ?_ ?_ ?_ ?_ ?_ ?_ ?_ ?_ ?_ ?_ ?_ ?_ ?_ ?_ ?_ ?_ ?_ ?_ ?_ ?_ ?_ ?_ ?_ ?_ ?_ ?_ ?_ ?_ ?_ ?_ ?_ ?_ ?_ ?_ ?_ ?_ ?_ ?_ ?_ ?_
  all_goals first
   |(refine' Rk.QDz ?a ?l ?c ?k;(case a=>k_is);(case l=>k_is);(case c=>k_is);(case k=>k_is);done)
   |(refine' Rk.QDk ?a ?i ?l ?c ?k;(case a=>k_is);(case i=>k_is);(case l=>k_is);(case c=>k_is);(case k=>k_is);done)
   |(refine' Rk.Am.mk ?a ?b ?c ?d ?e ?f ?g;(case a=>k_is);(case b=>k_is);(case c=>k_is);(case d=>k_is);(case e=>k_is);(case f=>k_is);(case g=>k_is);done)
   |(refine' Rk.pE.mk ?_ ?_ ?_ ?_ ?_ ?_ ?_ ?_ ?_ ?_ ?_ ?_ ?_ ?_ ?_ ?_ ?_ ?_ ?_<;>k_is;done)
   |k_exc
   |(first | refine' Rk.vO 5 ?a ?b ?c ?d ?e ?f ?g ?h ?i ?j ?k ?l ?m ?n ⟨by decide,by decide,by decide,by decide⟩ | refine' Rk.vO 8 ?a ?b ?c ?d ?e ?f ?g ?h ?i ?j ?k ?l ?m ?n ⟨by decide,by decide,by decide,by decide⟩ | refine' Rk.vO 15 ?a ?b ?c ?d ?e ?f ?g ?h ?i ?j ?k ?l ?m ?n ⟨by decide,by decide,by decide,by decide⟩ | refine' Rk.vO 16 ?a ?b ?c ?d ?e ?f ?g ?h ?i ?j ?k ?l ?m ?n ⟨by decide,by decide,by decide,by decide⟩ | refine' Rk.vO 17 ?a ?b ?c ?d ?e ?f ?g ?h ?i ?j ?k ?l ?m ?n ⟨by decide,by decide,by decide,by decide⟩ | refine' Rk.vO 18 ?a ?b ?c ?d ?e ?f ?g ?h ?i ?j ?k ?l ?m ?n ⟨by decide,by decide,by decide,by decide⟩
     (case a=>k_is);(case b=>k_is);(case c=>k_is);(case d=>k_is);(case e=>k_is);(case f=>k_is);(case g=>k_is);(case h=>k_is);(case i=>k_is);(case j=>k_is);(case k=>k_is);(case l=>k_is);(case m=>kit_is);(case n=>repeat (first | exact .nil | refine .cons (by kit_is) ?_));done)
   |k_is
   |rfl
   |decide
   |skip
