import PyProof.Rows.All
import Wide.All
import OpenK.AllK
import Wide.FinOn
import Lean
import PyProof.EqAt
import PyProof.EqKinds
import PyProof.TupleCall
import PyProof.P3Eq
import PyProof.Draws
import PyProof.EnumMake
import PyProof.NeData
import KE.LcSums
import PyProof.WalkInts
import PyProof.SeqI3
import PyProof.StrWalks
import PyProof.StrBlockH
import PyProof.StrLawsTight
import PyProof.NeKinds
import KE.KIntText
import KE.KDictOf
import PyProof.Rows.TupDisplay
import PyProof.Rows.SortRuns
import PyProof.Rows.SortShellK
import KE.KSortTup
import KE.KRevIter
import PyProof.FactsAll.range_2
import PyProof.DictCompW
import PyProof.SetRoads
import PyProof.FactsAll.set_1
import PyProof.Rows.SetFrom
import PyProof.CollectWalk
import PyProof.Walks
import PyProof.TupleIter
import PyProof.TupleKey
import PySem.Challenge.RW_rooklands_k92_desks_answer
import PyProof.ReprReads
import PyProof.FitsInt
local macro_rules | `(tactic| decide) => `(tactic| decide +kernel)
local macro_rules | `(tactic| omega) => `(tactic| first | lia | omega +splitDisjunctions)
open PySem renaming wpAny_bind->Xa,Addr->Xb,PyData->Xc,Value->Xd,Shared->Xe,mainGlobals->Xf,model->Xg,starEach->Xh,wpAny->Xi,sizeLine->Xj,wpAny_mono->Xk,compareOp->Xl,bootBuiltins->Xm,foldedSetIterable->Xn,Obj->Xo,backTo->Xp,sysModules->Xq,binaryOp->Xr,holding->Xs,swapsWith->Xt,codeAny->Xu,assignEach->Xv,standAt->Xw,keywordEach->Xx,tupleKeyHash->Xy,backToKw->Xz,getItem->XA,tupleKind->XB,getMethod->XC,DictEntry->XD,setItem->XE,truthy->XG,callWith->XH
open PySem.W renaming Frag->Qa,nsIn->Qk,keepIn->Jp,findIn->JB,excIn->JR,kia_one->Zc,kitOne->Zs,emptyDict->ZL,instObj->Ym,fnOf->YO,mroIn->QaE,mg_of->QaF,callWith_K->QaG,plainGet->Qa9,codeIn->QbJ,hasDictIn->QbP,clsIn->Qce,cellsFrom_some->Qco,methodCall_KW->QcZ,lookIn->QdH,plainGet_of->QdO,mg_none_of->Qei,plainOver->QeR,isFn->Qe1,takerIn->Qgf,makesIn->Qgg,OpenLaw->Qgh,typeIn->QgY,looks_mroIn->QlL,hideAll_get->QlM,callWith_K0->QlN,of_hideAll->QmH,codeRec_of->QmI,specialIn->Qm1,kitx_list->Qm2,kitx_dict->Qm3,handedIn->Qrs,takesIn->QrE,WalkO->QvQ
open List renaming length_map->Qb,getElem?_eq_getElem->Qc,mem_map->Qh,getD_eq_getElem?_getD->Qi,length_append->Qj,size_toArray->Qm,mem_singleton->Qo,getElem?_map->Qq,mem_cons->Qt,range->Qv,length_cons->Qz,map_map->QD,mem_filter->QF,mem_append->QP,mem_cons_of_mem->QQ,getElem?_eq_some_iff->QR,mem_cons_self->Q1,map_append->Q3,length_range->Q5,mem_of_getElem?->Jb,replicate->Jc,mem_range->Jl,lookup_cons->Jn,mem_append_right->Jq,not_mem_nil->Jy,getElem?_eq_none->Jz,dropLast_concat_getLast->JE,nodup_cons->JI,perm_ext_iff_of_nodup->JN,getElem?_range->JP,getElem_mem->JQ,map_cons->JU,mem_iff_getElem?->J3,append_nil->J4,any_eq_true->J5,filter_cons_of_neg->J7,mem_append_left->Zb,take_length->Zh,length_filter_le->Zk,flatMap_cons->Zl,length_set->Zn,nodup_append->Zx,flatten_cons->Zy,all_eq_true->ZG,take_add_one->ZV,map_congr_left->ZZ,findSome?_cons->Z0,mem_flatMap->Z7,filterMap_map->Z9,pairwise_iff_getElem->Yl,toArray->Yv,replicate_succ->Yy,lookup->Yz,filter_cons_of_pos->YA,mem_toArray->YD,filter_eq_nil_iff->YK,any_cons->Y3,pairwise_append->Bq,getElem?_append_left->ET,mem_flatten->ye,length_take->yd,length_drop->yb,filterMap_cons->Br,range_succ->yh,getElem?_replicate->EW,getElem?_set_self->EU,pairwise_map->Bs,length_replicate->EK,any_map->vi,getElem?_set_ne->EI,dropLast_concat->EH,filter_eq_self->EN,getElem?_append_right->MM,pairwise_cons->EM,nodup_nil->Bm,take_sublist->Ew,ext_getElem?->Eu,getElem?_cons_succ->ME,flatMap_singleton'->MD,all_cons->Bg,getElem_map->EG,take_of_length_le->MH,length_pos_of_mem->MG,find?_cons_of_pos->My,find?_cons_of_neg->Mx,take_left'->El,of_mem_zip->Ek,map_nil->A_,drop_left'->Ej,flatten_append->Mq,mem_filterMap->Ms,getElem?_set->LQ,append_assoc->LP,flatMap_map->LL,eq_nil_of_length_eq_zero->Qgy,exists_mem_of_ne_nil->Qji,length_filterMap_le->Qjx,length_erase_of_mem->Qjy,pairwise_singleton->VX,zipWith->Ko,pairwise_flatMap->Vb,getElem?_toArray->Va,findSome?_append->U_,all_map->Km,mem_of_getLast?->Ve,length_dropLast->UP,getLast?_append->UO,toList_toArray->S_,map_id->Iy,filter_sublist->S9,filter_filter->Tz,filter_append->Tx,find?->Iu,any_eq_false->S3,filter_cons->Rp,ext_getElem->Rn,take_range->PF,nil_append->PD,length_nil->PC,foldl_cons->PB,take_succ->O2,map_take->QCx,map_drop->QCy,drop_nil->QCz,map_set->QC9
open Nat renaming le_refl->Qd,le_trans->QK,ne_of_lt->QZ,lt_of_lt_of_le->Q2,zero_le->Q9,le_of_lt->JG,lt_of_le_of_lt->JK,lt_irrefl->ZT,mul_le_mul->YJ,le_of_eq->Y1,pow_le_pow_right->Bp,lt_trichotomy->Et,le_succ_of_le->Es,le_add_right->EF,add_sub_cancel->L6,lt_succ_of_lt->LO,ne_of_gt->DR,min_le_right->LZ,two_pow_pos->LA,not_lt_zero->Lz,min_eq_left->LK,isDigit_of_mem_toDigits->Qh1,succ_pos->Kt,succ_mul->Ks,sub_self->Kr,log2_lt->ID,le_succ->IC,add_le_add_left->TB,le_of_lt_succ->Rq,succ_le_succ->PL,min_eq_right->PK,lt_succ_self->PJ,log2_le_self->PH
open PySem.Str renaming ofString->Qe,join->mw,cps_append->Bd,empty->r8
open PySem.Heap renaming get?_push_of_some->Qf,lt_size->Qr,get?_push_size->Qs,SameBut->Ya,size_push->xY,get?_update_self->EJ,get?_update_other->VH,FlyingW->QDf
open PySem renaming wpAny_pure->Qg,Program->QB,World->Jh,Around->Jo,wpAny_newObj_type->JC,Expr->Zm,Stmt->Zo,Paired->Zw,wpAny_truthy_bool->ZC,wpAny_holding->ZE,Heap->ZF,wpAny_call_entry->ZQ,sizeLine_eq->ZR,wpAny_callSpecial?_slot->Z2,FuncData->Z3,wpAny_Call_Name_kw->Yq,wpAny_of_eq->YN,wpAny_typeNameOfWhole_keyiter->YV,wpAny_passesOwn->vt,wpAny_field->om,wpAny_dictEntries->yf,call_meets->mG,mem_of_lookup->Qan,wpAny_typeNameOf_keyiter->EV,codeAny_mono->sv,wpAny_execs_nil->yi,SetTable->kY,intText?->QbO,NameKind->mE,wpAny_pyIter_tuple->ED,wpAny_pyIter_enum->Ef,wpAny_comprehension_free->Mw,Keyword->ml,wpAny_execs_cons->D0,wpAny_pyIter_rangeiter->Mm,codeAny_compStart_list->Ml,wpAny_specialOf->D7,wpAny_loadPart'->D5,wpAny_isOneOf_keyiter->Mp,wpAny_call->xO,wpAny_newFunctionEnv->L7,wpAny_setField->DV,wpAny_fieldsOf->DU,BindsTo->pB,wpAny_attempt->DW,tupleKind_room_in1->LS,Fin->Qg0,PassesOwn->xC,wpAny_pyIter_list->LC,wpAny_Return_some->LB,typeIs_str->AE,Scope->jd,wpAny_typeOf->Dn,seqIndex_neg->Dm,IsPart->nM,wpAny_eqBool_int->KN,noFill_tuple_add->KL,wpAny_dictEpoch->Kw,seqIndex_of->C5,Within->QlK,wpAny_newFunctionEnv_cells->Vd,wpAny_letOwnedTupleGo_enum->Vc,wpAny_loadPart->Kl,seq_tuple_add->Iw,rangeSize_one->IG,call->QrD,wpAny_pyNext_range_end->S7,wpAny_getItem_list_neg->S6,wpAny_notOrdered_dict->RE,wpAny_formatField_int->RD,exec_Assign_Name_used->RC,concat_meets->Im,codeAny_call_function->RB,wpAny_pyIter_keyiter->PQ,wpAny_loadName_local->PN,codeAny_call_builtin->PM,wpAny_loadName_cell->PV,wpAny_Tuple_spliced->PU,IsRangeIter->HE,Builtin->z8,wpAny_List_spliced->QCs,ReadsAll->EZ,wpAny_sequenceKey->QCR,wpAny_assign_Name->QCS,wpAny_Name->Nk,typeIs_int->Nj,slot_list_getitem->QCV
open PySem.PyData renaming int->Qp,eqv->Qy,canLay0->Ji,str->Jk,depthAll->Yn,canLayAll0->Yo,eqvAll->Yt,depth->YU,list->pP,tuple->sk,bool->su,strOk->O3
open Bool renaming false_ne_true->Qw,and_eq_true_iff->QH,and_eq_true->Js,eq_iff_iff->Jt,eq_false_iff->Y4,noConfusion->x_,or_eq_true->yg,true_and->Be,false_eq_true->Mr,not_false->KP,and_false->KO,false_and->O0,and_true->QCC
open Int renaming toNat_natCast->Qx,eq_ofNat_of_zero_le->ZU,zero_add->Ye,add_zero->Yf,toNat_of_nonneg->Mn,mul_zero->DQ,le_refl->IB,natCast_nonneg->S2,emod_lt_of_pos->S1,emod_nonneg->O1,add_assoc->QDe
open Option.some renaming inj->QL
open Or renaming inl->QM,inr->QV
open Option renaming map_eq_some_iff->Ja,getD_none->TC,none->QCw
open Array renaming length_toList->Jd,getElem?_eq_getElem->Zd,getD_eq_getD_getElem?->YW,getElem?_eq_none->MI,getElem?_toList->Mu,mem_toList_iff->Mz,size_append->L5,perm_iff_toList_perm->QhO,getElem_toList->U',toList_append->UN,toList_inj->Sg,all_toList->Sf,toList->QCD
open PySem.PassesOwn renaming never->Jj
open False renaming elim->Jr
open True renaming intro->Ju
open PySem.NameKind renaming free->Jw,cell->vw
open PySem.F renaming plainAttrs_list->Jx,plainAttrs_str->JF,type_str_join->JX,slot_str_join->JY,slot_dict_keyiterator_next->ZW,type_list_append->Qag,slot_list_append->Qah,slot_tuple_iterator_next->ES,args_tuple_add_2->QbQ,entry_tuple_add->Qcg,slot_tuple_add->Qcp,slot_dict_get->Qc0,slot_range_reversed->Mj,args_str_split_2->LM,excBase_ValueError->Qgv,slot_dict_getitem->Qg1,entry_str_split->LY,args_dict_keyiterator_next_1->QhM,args_dict_get_3->QhX,slot_str_split->LJ,slot_dict_iter->LI,entry_dict_keyiterator_next->Qh5,entry_dict_get->Qjh,args_tuple_iterator_next_1->Qjk,type_list_pop->Qjv,slot_list_pop->Qjw,entry_tuple_iterator_next->Wr,excAttr_ValueError->Si,slot_int_rmul->QDg
open PySem.Builtin.Range renaming rangeFitsLong->JD,rangeSize->ZA
open Sum renaming inr->JM,inl->Ze
open PySem.Value renaming ref->JT,none->ZS,int->r_,bool->vf,builtin->Bc,type->AM,isStrOf->O4,isInt->QCY
open PyProof.Rows renaming slot_tuple_getitem->JW,callWith_type1->Zi,Keyed->eB,AllBare->nT,SortKind->u3,assignInOrder_cons->LR,IntsAre->rM,joinParts_cons->Kk,listUpdate_at->IF,subscriptTail_builtinR->S5,FormattedValue_plain->Pz,seqEpoch_at->HN,entry_tuple_getitem->PR,args_tuple_getitem->QCt,assignInOrder_nil->QCW,Subscript_->Ni
open List.Pairwise renaming filter->Zj,imp_of_mem->YZ,map->Mv,nil->QDa,imp->QDb,and_mem->QDc
open PySem.Builtin.Int renaming intBits->Zp,intTooBig->Qg5
open Prod.mk renaming inj->ZD
open List.Perm renaming eq_of_pairwise->Yd,refl->LN
open PySem.Txt renaming split->YE,join->jR
open PySem.Calls renaming spliced_cons->YL,spliced_nil->Ey,callWith_builtin->MJ,evalArgs_plain->MA,Name_function_global->QhN,Constant_str->S8
open PySem.Builtin.Slice renaming slicePlaces->YQ,sliceAdjust->QeT,slicePartIndex->QDi,sliceApplied->QDj
open PySem.Heap.SameBut renaming update->Y0
open List.cons renaming inj->vq
open ForInStep renaming yield->ya
open Ne renaming symm->iM
open PySem.Obj renaming mapSeq->pI,data_mapFields->EO,isFreed_of_fields->Vf,data_mapDictKeys->Ta,cls_mapFields->Ry
open PySem.Builtin.List renaming listTooLong->MK
open Nat.succ renaming inj->xZ
open PySem.Builtin.Dict renaming showsAll->MO,mergeDict->Qgm
open PySem.W.KIN renaming signs_num->Qcf,num_reads->QgZ
open PySem.SeqAt.EqAt renaming bool_bool->MF,str_int->Qjt,int_str->Qju
open PySem.StrLaws renaming glued_eq_join->MC,partsBetween_eq->QhV,partsFrom->U9
open PySem.Builtin.Dict_items renaming ownsTuple->Qc3
open PySem.SetTable renaming Probe->Ee,runEnd->Tf
open PySem.Builtin renaming bitAnd->Ei,bitOr->LH
open PySem.Builtin.SmallTypes renaming nextOf->QdN
open Prod renaming ext->rV
open PySem.Paired renaming length->D8,snoc->QCv
open PySem.Builtin.Tuple renaming tupleItemsOf->QeD,tupleHashOf->QDh
open PySem.Builtin.Str renaming occurrences->Qgl,strKind->Qh7,glued->QjA
open Sum.inr renaming inj->Kv
open Sum.inl renaming inj->Ku
open PySem.Heap.DictOf renaming new->VG
open PySem.SeqAt renaming notIn_tupleAt->Vh,notIn_listAt->Tc,EqAt->IE,in_tupleAt->S4,in_listAt->RA
open PySem.PyData.int renaming inj->Vg
open Eq renaming trans->CI
open PySem.Challenge renaming rw_rooklands_k92_desks_answer->Qzb,pw_rooklands_k92_desks_answer->Qzc
open PySem.Heap.UpToSlots renaming of_keeps->QCA
open PySem.Heap.IsSliceOf renaming new->QCB
open PySem.Walks renaming range->QCX
open PySem.W.Looks renaming here->QC0
open PySem.EqMixed renaming ne_str_int->QC1,ne_str_bool->QC2,ne_int_str->QC3,ne_bool_str->QC4,eq_str_int->QC5,eq_str_bool->QC6,eq_int_str->QC7,eq_bool_str->QC8
open PyProof.Rows.LSm renaming kept_iter->QDd
open PySem PySem.Spec PyProof.Rows
set_option genSizeOf false
set_option compiler.extract_closed false
set_option Elab.async false
set_option linter.all false
set_option maxRecDepth 100000
set_option maxHeartbeats 4000000
open PySem.W renaming Frag->Ws,nsIn->Wt,keepIn->Wu,findIn->Wv,excIn->Ww,kia_one->Wx,kitOne->Wy,fnOf->WB,instObj->WG,emptyDict->WH,mroIn->WI,mg_of->WJ,plainGet->WK,callWith_K->WL,codeIn->WN,clsIn->WQ,lookIn->WR,hasDictIn->WS,isFn->WT,plainGet_of->WX,plainOver->WY,takerIn->WZ,makesIn->W4,typeIn->W5,methodCall_KW->W6,cellsFrom_some->W',OpenLaw->XQ,mg_none_of->XS,hideAll_get->XT,of_hideAll->XU,handedIn->XW,specialIn->XX,takesIn->XY,kitx_list->XZ,kitx_dict->X0,callWith_K0->X1,codeRec_of->X2,looks_mroIn->X3
open PySem.F renaming plainAttrs_list->Wz,plainAttrs_str->WA,slot_str_join->WD,type_str_join->WE,slot_list_append->WU,type_list_append->WV,slot_tuple_add->W_,entry_tuple_add->XM,args_tuple_add_2->XN,slot_dict_get->XR,entry_dict_get->X4,args_dict_get_3->X5,slot_list_pop->X6,type_list_pop->X7
open PySem renaming mem_of_lookup->WM,Fin->WO,Within->WW,call->XO
def X8:=@if_neg
def X9:=@if_pos
def X':=@decide_eq_false
def X_:=@decide_eq_true
def Y':=@of_decide_eq_true
def Y_:=@of_decide_eq_false
def Z':=@decide_eq_true_eq
def Z_:=@absurd
namespace L2
abbrev Key:=Sum Int Str
def w8:Key->Xd->Bool
 |.inl k,v=>QCY k v
 |.inr x,v=>O4 x v
def QFN(w:Jh):Key->Int
 |.inl k=>hashInt k
 |.inr x=>hashStr w x
def Z6:∀{k:Key}{v:Xd},w8 k v=true->(∃i t,k=Ze i/\v=r_ i t)∨(∃x t,k=JM x/\v=Value.str x t)
 |.inl i,v,h=>by
  obtain⟨t,e⟩:=Value.isInt_shape h;exact .inl ⟨i,t,rfl,e⟩
 |.inr x,v,h=>by
  obtain⟨t,e⟩:=Value.isStrOf_shape h;exact .inr ⟨x,t,rfl,e⟩
def Qpi(i:Int)(t:Tok):w8 (.inl i) (.int i t)=true:=by simp[w8,QCY]
def Qph(x:Str)(t:Tok):w8 (.inr x) (.str x t)=true:=by simp[w8,O4]
def QBd(a b:Int):decide ((Ze a:Key)=Ze b)=(a == b):=by
 by_cases e:a=b
 ·subst e;simp
 ·have h:¬(Ze a:Key)=Ze b:=λq=>e<|Ku q
  rw[X' h];exact(beq_eq_false_iff_ne.mpr e).symm
def QBa(a b:Str):decide ((JM a:Key)=JM b)=decide (a=b):=by
 by_cases e:a=b
 ·subst e;simp
 ·have h:¬(JM a:Key)=JM b:=λq=>e<|Kv q
  rw[X' h,X' e]
def QBc(a:Int)(b:Str):decide ((Ze a:Key)=JM b)=false:=X' nofun
def QBb(a:Str)(b:Int):decide ((JM a:Key)=Ze b)=false:=X' nofun
def aq(prog:QB)(w:Jh):PySem.KeyKind prog w Key where
 is:=w8
 hash:=QFN w
 inj:=λv a b ha hb=>by
  rcases Z6 ha with⟨i,t,rfl,rfl⟩ | ⟨x,t,rfl,rfl⟩
  ·rcases Z6 hb with⟨j,u,rfl,e⟩ | ⟨y,u,rfl,e⟩
   ·injection e with e1 _;rw[e1]
   ·exact nomatch e
  ·rcases Z6 hb with⟨j,u,rfl,e⟩ | ⟨y,u,rfl,e⟩
   ·exact nomatch e
   ·injection e with e1 _;rw[e1]
 byValue:=λk v h=>by
  rcases Z6 h with⟨i,t,rfl,rfl⟩ | ⟨x,t,rfl,rfl⟩<;>rfl
 pyHash:=λhv h=>by
  rcases Z6 hv with⟨i,t,rfl,rfl⟩ | ⟨x,t,rfl,rfl⟩
  ·exact wpAny_pyHash_int h
  ·exact wpAny_pyHash_str h
 eqBool:=λhu hv h=>by
  rcases Z6 hu with⟨i,t,rfl,rfl⟩ | ⟨x,t,rfl,rfl⟩
  ·rcases Z6 hv with⟨j,u,rfl,rfl⟩ | ⟨y,u,rfl,rfl⟩
   ·rw[QBd] at h;exact KN h
   ·rw[QBc] at h;exact Qju i t y u _ _ _ _ h
  ·rcases Z6 hv with⟨j,u,rfl,rfl⟩ | ⟨y,u,rfl,rfl⟩
   ·rw[QBb] at h;exact Qjt x t j u _ _ _ _ h
   ·rw[QBa] at h;exact wpAny_eqBool_str h
 «strs» := λk x t v h=>by
  rcases Z6 h with⟨i,u,rfl,e⟩ | ⟨y,u,rfl,e⟩
  ·exact nomatch e
  ·injection e with e1 _
   subst e1;cases v<;>rfl
def QjY(prog:QB)(w:Jh)(i:Int)(t:Tok):(aq prog w).is (.inl i) (.int i t)=true:=Qpi i t
def Bk(prog:QB)(w:Jh)(x:Str)(t:Tok):(aq prog w).is (.inr x) (.str x t)=true:=Qph x t
inductive V where
 |aH | bl (b:Bool) | int (i:Int) | str (x:Str) | jG (b:Array UInt8) | ug (b:UInt64) | ref (a:Xb) | ty (n:String)
 deriving DecidableEq
def RelV:V->Xd->Prop
 |.aH,u=>u=ZS
 |.bl b,u=>u=vf b
 |.int i,u=>∃t,u=r_ i t
 |.str x,u=>∃t,u=Value.str x t
 |.jG b,u=>∃t,u=Value.bytes b t
 |.ug b,u=>∃t,u=Value.float b t
 |.ref a,u=>u=JT a
 |.ty n,u=>u=AM n
abbrev ai:List V->List Xd->Prop:=Zw RelV
def ai.length{xs:List V}{us:List Xd}(r:ai xs us):xs.length=us.length:=D8 r
def ai.get:∀{xs:List V}{us:List Xd}{i:Nat}{x:V},ai xs us->xs[i]? = some x->∃u,us[i]? = some u/\RelV x u
 |_,_,_,_,.nil,e=>by simp at e
 |_,_,0,_,.cons r _,e=>by simp at e;subst e;exact⟨_,rfl,r⟩
 |_,_,i+1,x,.cons _ t,e=>by
  obtain⟨u,h1,h2⟩:=ai.get t (by simpa using e);exact⟨u,by simpa using h1,h2⟩
def ai.set(r:RelV x u):∀{xs:List V}{us:List Xd}(i:Nat),ai xs us->ai (xs.set i x) (us.set i u)
 |_,_,_,.nil=>.nil
 |_,_,0,.cons _ t=>.cons r t
 |_,_,i+1,.cons q t=>.cons q<|ai.set r i t
def ai.append:∀{xs ys:List V}{us ws:List Xd},ai xs us->ai ys ws->ai (xs++ys) (us++ws)
 |_,_,_,_,.nil,s=>s
 |_,_,_,_,.cons r t,s=>.cons r<|ai.append t s
def ai.take:∀{xs:List V}{us:List Xd}(n:Nat),ai xs us->ai (xs.take n) (us.take n)
 |_,_,0,_=>.nil
 |_,_,_+1,.nil=>.nil
 |_,_,n+1,.cons r t=>.cons r<|ai.take n t
def ai.drop:∀{xs:List V}{us:List Xd}(n:Nat),ai xs us->ai (xs.drop n) (us.drop n)
 |_,_,0,r=>r
 |_,_,_+1,.nil=>.nil
 |_,_,n+1,.cons _ t=>ai.drop n t
def b_:Option V->Option Xd->Prop
 |some v,some u=>RelV v u
 |none,none=>True
 |_,_=>False
def KV{κ:Type}:List (κ×V)->List (κ×Xd)->Prop:=Zw λ(p:κ×V)(q:κ×Xd)=>p.1=q.1/\RelV p.2 q.2
def kV:Key->V
 |.inl i=>.int i
 |.inr x=>.str x
inductive HO where
 /-- a list -/
 |lst (xs:List V)
 /-- a tuple (never changes) -/
 |tup (xs:List V)
 /-- a dict yr keys are ints and texts;one yr keys are tuples of ints and texts (vZ empty one is both) -/
 |dK (kvs:List (Key×V)) | dT (kvs:List<|List Key×V)
 /-- a set of ints: ah members,ah size -/
 |set (S:Int->Bool) (n:Nat)
 /-- an instance of vZ class at C,ah dict at dx,ah attributes -/
 |ins (C dx:Xb) (fs:List (Str×V))
 /-- vZ dict of vZ instance at x -/
 |own (x:Xb)
 /-- vZ dict of an exception -/
 |xd (fs:List (Str×V))
 /-- a bound method,f of x -/
 |met (f x:Xb)
 /-- a range object lo,lo+1,.. below hi -/
 |sU (lo hi:Int)
 /-- a jq that is known to vZ object (vZ FL;a dict while a loop walks it): read,never written while it is so -/
 |cE (o:Xo) (u:HO)
 /-- a code yK table -/
 |qE (ps:Array Xd)
 /-- any other jq,by what is true of ah one object (a def of N1 own: SetO a S n:=HO.ext λh=>..) -/
 |ext (φ:ZF->Prop)
abbrev Hp:=Xb->Option HO
def upd(H:Hp)(a:Xb)(o:HO):Hp:=λb=>if b=a then some o else H b
def af:upd H a o a=some o:=by unfold upd;rw[X9 rfl]
def QY(h:b≠a):upd H a o b=H b:=by unfold upd;rw[X8 h]
def UJ:upd (upd H a o) a u=upd H a u:=by
 funext b;unfold upd;split<;>rfl
def YB{H:Hp}(h:H a=some o)(h':H b=some u)(d:o≠u):a≠b:=by
 intro e;subst e;rw[h] at h';exact d<|QL h'
def QN{H:Hp}(h:H a=some o)(h':H b=none):a≠b:=by
 intro e;subst e;rw[h] at h';cases h'
def d_(h:ZF)(a:Xb)(items:Array Xd):Prop:=∃o,h.get? a=some o/\o.cls=.type "tuple" /\ o.dict=none/\∃n,o.data=.seq items n
def d_.tup(x:d_ h a items):IsTup h a items:=let ⟨o,e,c,_,d⟩:=x;⟨o,e,c,d⟩
def d_.lt(x:d_ h a items):a<h.objs.size:=let ⟨_,e,_⟩:=x;Qr e
def d_.new(h:ZF)(items:Array Xd):d_ (h.push { cls:=.type "tuple",data:=.seq items }) h.objs.size items:=⟨_,Qs _ rfl,rfl,rfl,_,rfl⟩
section
variable(P:QB)(w:Jh)
def aQ(H:Hp)(h:ZF)(a:Xb):HO->Prop
 |.lst xs=>xs.length<=Xj/\∃(ah:List Xd)(n:Nat),ai xs ah/\h.get? a=some { cls:=.type "list",data:=.seq ah.toArray n }
 |.tup xs=>xs.length<=Xj/\∃ah:List Xd,ai xs ah/\d_ h a ah.toArray
 |.dK kvs=>kvs.length<=Xj/\(a == Xq)=false/\∃vs,KV kvs vs/\h.DictOf (aq P w) a vs
 |.dT kvs=>kvs.length<=Xj/\(a == Xq)=false/\∃xs:List<|List Key×Xb×Xd,
   Zw (λ(p:List Key×V)(q:List Key×Xb×Xd)=>p.1=q.1/\H q.2.1=some (.tup<|p.1.map kV)/\RelV p.2 q.2.2) kvs xs /\
   ∃o es ep,h.get? a=some o/\o.ExactDict/\o.data=.dict es ep/\es.toList=xs.map (entryOfKey<|XB<|aq P w)/\(xs.map (·.1)).Nodup
 |.set S n=>h.SetOf (intKind P w) a S n
 |.ins C dx fs=>H dx=some (.own a)/\fs.length<=1000/\dx≠a/\h.get? a=some (WG C dx) /\
   ∃mA,h.Ns1 dx mA/\(∀f,b_ (fs.lookup f)<|mA f)/\WW mA (fs.map (·.1))
 |.own _=>∃o,h.get? a=some o
 |.xd fs=>∃mA,h.Ns1 a mA/\∀f,b_ (fs.lookup f)<|mA f
 |.sU lo hi=>∃t u v,h.get? a=some { cls:=.type "range",data:=.fields #[.int lo t,.int hi u,.int 1 v] }
 |.cE o u=>h.get? a=some o/\aQ H h a u
 |.qE ps=>h.get? a=some { cls:=.none,data:=.fields ps }
 |.met f x=>h.get? a=some (PySem.W.methodObj (.ref f)<|.ref x)
 |.ext φ=>φ h/\(∃o,h.get? a=some o)/\∀h1 h2:ZF,φ h1->(∀o,h1.get? a=some o->h2.get? a=some o)->φ h2
def cg(H:Hp)(h:ZF):Prop:=∀a o,H a=some o->aQ P w H h a o
end
section
variable{P:QB}{w:Jh}{H H':Hp}{h h':ZF}{a:Xb}{o:HO}
def aQ.lt(x:aQ P w H h a o):a<h.objs.size:=by
 cases o with
 |lst xs=>obtain⟨_,_,_,_,e⟩:=x;exact Qr e
 |tup xs=>obtain⟨_,_,_,p⟩:=x;exact p.lt
 |dK kvs=>obtain⟨_,_,_,_,o,_,_,e,_⟩:=x;exact Qr e
 |dT kvs=>obtain⟨_,_,_,_,o,_,_,e,_⟩:=x;exact Qr e
 |set S n=>obtain⟨o,_,_,_,e,_⟩:=x;exact Qr e
 |ins C dx fs=>obtain⟨_,_,_,e,_⟩:=x;exact Qr e
 |own y=>obtain⟨_,e⟩:=x;exact Qr e
 |xd fs=>obtain⟨_,⟨_,_,_,e,_⟩,_⟩:=x;exact Qr e
 |sU lo hi=>obtain⟨_,_,_,e⟩:=x;exact Qr e
 |cE ob u=>obtain⟨e,_⟩:=x;exact Qr e
 |qE ps=>exact Qr (x)
 |met f y=>exact Qr (x)
 |ext φ=>obtain⟨_,⟨_,e⟩,_⟩:=x;exact Qr e
def Zw.yT{l₁:List α}{l₂:List β}(h:Zw F l₁ l₂)(f:∀a b,F a b->G a b):Zw G l₁ l₂:=by
 induction h with
 |nil=>exact .nil
 |cons r _ ih=>exact .cons (f _ _ r) ih
def aQ.fg(x:aQ P w H h a o)(k:∀b u,(b=a∨H b=some (.own a))->h.get? b=some u->h'.get? b=some u)
  (ho:∀b,H b=some (.own a)->H' b=some (.own a))(ht:∀b xs,H b=some (.tup xs)->H' b=some (.tup xs)):aQ P w H' h' a o:=by
 induction o with
 |lst xs=>obtain⟨z,ah,n,r,e⟩:=x;exact⟨z,ah,n,r,k _ _ (.inl rfl) e⟩
 |tup xs=>obtain⟨z,ah,r,ob,e,c⟩:=x;exact⟨z,ah,r,ob,k _ _ (.inl rfl) e,c⟩
 |dK kvs=>obtain⟨z,y,vs,r,ob,es,ep,e,c⟩:=x;exact⟨z,y,vs,r,ob,es,ep,k _ _ (.inl rfl) e,c⟩
 |dT kvs=>
  obtain⟨z,y,xs,r,ob,es,ep,e,c⟩:=x;exact⟨z,y,xs,Zw.yT r λp q z=>⟨z.1,ht _ _ z.2.1,z.2.2⟩,ob,es,ep,k _ _ (.inl rfl) e,c⟩
 |set S n=>obtain⟨ob,es,ep,t,e,c⟩:=x;exact⟨ob,es,ep,t,k _ _ (.inl rfl) e,c⟩
 |ins C dx fs=>
  obtain⟨d,z,ne,e,mA,⟨od,es,ep,e2,c⟩,r⟩:=x;exact⟨ho _ d,z,ne,k _ _ (.inl rfl) e,mA,⟨od,es,ep,k _ _ (.inr d) e2,c⟩,r⟩
 |own y=>obtain⟨ob,e⟩:=x;exact⟨ob,k _ _ (.inl rfl) e⟩
 |xd fs=>obtain⟨mA,⟨od,es,ep,e,c⟩,r⟩:=x;exact⟨mA,⟨od,es,ep,k _ _ (.inl rfl) e,c⟩,r⟩
 |sU lo hi=>obtain⟨t,u,v,e⟩:=x;exact⟨t,u,v,k _ _ (.inl rfl) e⟩
 |cE ob u ih=>obtain⟨e,q⟩:=x;exact⟨k _ _ (.inl rfl) e,ih q⟩
 |qE ps=>
  have e:=x;exact k a _ (.inl rfl) e
 |met f y=>
  have e:=x;exact k a _ (.inl rfl) e
 |ext φ=>obtain⟨p,⟨o,e⟩,st⟩:=x;exact⟨st _ _ p λo q=>k _ _ (.inl rfl) q,⟨o,k _ _ (.inl rfl) e⟩,st⟩
def cg.lt(x:cg P w H h)(e:H a=some o):a<h.objs.size:=(x a o e).lt
def cg.fresh(x:cg P w H h)(e:h.objs.size<=a):H a=none:=by
 cases q:H a with
 |none=>rfl
 |some u=>exact Z_ (Q2 (x.lt q) e)<|ZT _
def cg.kept(x:cg P w H h)(k:∀b u,h.get? b=some u->h'.get? b=some u):cg P w H h':=λa o e=>
 (x a o e).fg (λb u _ q=>k b u q) (λ_ q=>q) λ_ _ q=>q
def cg.laid(x:cg P w H h)(k:∀b u,h.get? b=some u->h'.get? b=some u)(hp:h.objs.size<=a)(new:aQ P w (upd H a o) h' a o):cg P w (upd H a o) h':=λb u e=>by
 have hn:=x.fresh hp;by_cases hb:b=a
 ·subst hb;rw[af] at e;cases e;exact new
 ·rw[QY hb] at e;exact(x b u e).fg (λc v _ q=>k c v q) (λc q=>by rw[QY<|QN q hn];exact q) λc xs q=>by rw[QY<|QN q hn];exact q
end
def Rd(H:Hp)(a:Xb)(u:HO):Prop:=H a=some u∨∃o,H a=some (.cE o u)
def Rd.ok(r:Rd H a u)(x:cg P w H h):aQ P w H h a u:=by
 rcases r with r | ⟨o,r⟩
 ·exact x a u r
 ·obtain⟨_,q⟩:=x a _ r;exact q
def BF:Option HO->Prop
 |some (.lst _)=>True
 |some (.dK _)=>True
 |some (.dT _)=>True
 |some (.set _ _)=>True
 |some (.ins _ _ _)=>True
 |some (.ext _)=>True
 |_=>False
section
variable{P:QB}{w:Jh}{H:Hp}{h h':ZF}{x e:Xb}{o':HO}
def cg.write(ok:cg P w H h)(mu:BF<|H x)(he:e=x∨H e=some (.own x))(k:∀b u,b≠e->h.get? b=some u->h'.get? b=some u)(wG:∃u,h'.get? e=some u)
  (new:aQ P w (upd H x o') h' x o'):cg P w (upd H x o') h':=λb u q=>by
 have yM:∀c y,H c=some (.own y)->c≠x:=λc y r z=>by subst z;rw[r] at mu;exact mu
 have F':∀c xs,H c=some (.tup xs)->c≠x:=λc xs r z=>by subst z;rw[r] at mu;exact mu
 by_cases hb:b=x
 ·subst hb;rw[af] at q;cases q;exact new
 ·rw[QY hb] at q;by_cases ue:b=e
  ·have q':H b=some (.own x):=by
    rcases he with z | z
    ·exact Z_ (ue.trans z) hb
    ·rw[ue];exact z
   rw[q] at q';cases q';obtain⟨v,hv⟩:=wG;exact⟨v,by rw[ue];exact hv⟩
  ·refine(ok b u q).fg (λc v hc r=>k c v ?_ r) (λc r=>by rw[QY<|yM c b r];exact r) λc xs r=>by rw[QY<|F' c xs r];exact r
   rcases hc with rfl | hc
   ·exact ue
   ·rintro rfl;rcases he with z | z
    ·exact yM c b hc z
    ·rw[hc] at z;cases z;exact hb rfl
end
structure Un (fs ex:List Xb) (H H':Hp) (h h':ZF):Prop where
 keep:∀b o,h.get? b=some o->H b=none->b∉fs->b∉ex->h'.get? b=some o
 slot:∀b o,h.get? b=some o->H b=none->b∈fs->b∉ex->∃sl,h'.get? b=some { o with slots:=sl }
 free:∀b o,h.get? b=some o->H b=none->b∉ex->H' b=none
 there:∀b o,h.get? b=some o->b∉ex->∃o',h'.get? b=some o'
 cH:∀b xs,H b=some (.tup xs)->H' b=some (.tup xs)
 dD:∀b o u,H b=some (.cE o u)->H' b=some (.cE o u)
 dS:∀b ps,H b=some (.qE ps)->∃more,H' b=some (.qE<|ps++more)
section
variable{fs fs' ex ex':List Xb}{H H1 H2:Hp}{h h1 h2 h':ZF}{a x e:Xb}{o:HO}
def Un.any(u:Un fs ex H H1 h h1)(q:h.get? b=some ob)(n:H b=none)(hx:b∉ex):∃sl,h1.get? b=some { ob with slots:=sl }:=by
 by_cases hb:b∈fs
 ·exact u.slot b ob q n hb hx
 ·exact⟨ob.slots,u.keep b ob q n hb hx⟩
def Un.kept(k:∀b u,h.get? b=some u->h'.get? b=some u):Un fs ex H H h h':=
 ⟨λb ob q _ _ _=>k b ob q,λb ob q _ _ _=>⟨ob.slots,k b ob q⟩,λ_ _ _ n _=>n,λb ob q _=>⟨ob,k b ob q⟩,λ_ _ q=>q,λ_ _ _ q=>q,λ_ ps q=>⟨#[],by rw[q];simp⟩⟩
def Un.refl:Un fs ex H H h h:=Un.kept λ_ _ q=>q
def Un.laid(k:∀b u,h.get? b=some u->h'.get? b=some u)(hp:h.objs.size<=a)(hn:H a=none):Un fs ex H (upd H a o) h h' where
 keep:=λb u q _ _ _=>k b u q
 slot:=λb u q _ _ _=>⟨u.slots,k b u q⟩
 free:=λb u q n _=>by rw[QY<|QZ<|Q2 (Qr q) hp];exact n
 there:=λb u q _=>⟨u,k b u q⟩
 cH:=λb xs q=>by rw[QY<|QN q hn];exact q
 dD:=λb u xs q=>by rw[QY<|QN q hn];exact q
 dS:=λb ps q=>⟨#[],by rw[QY<|QN q hn,q];simp⟩
def Un.write(mu:BF<|H x)(he:e=x∨H e=some (.own x))(k:∀b u,b≠e->h.get? b=some u->h'.get? b=some u)(wG:∃u,h'.get? e=some u):Un fs ex H (upd H x o) h h':=by
 have hx:∀b,H b=none->b≠x:=λb n z=>by subst z;rw[n] at mu;exact mu
 have hb:∀b,H b=none->b≠e:=λb n z=>by
  subst z;rcases he with r | r
  ·exact hx b n r
  ·rw[n] at r;cases r
 have hm:∀b u,H b=some u->¬BF (some u)->b≠x:=λb u q nm z=>by subst z;rw[q] at mu;exact nm mu
 refine⟨λb u q n _ _=>k b u (hb b n) q,λb u q n _ _=>⟨u.slots,k b u (hb b n) q⟩,λb u q n _=>by rw[QY<|hx b n];exact n,λb u q _=>?_,
  λb xs q=>by rw[QY<|hm b _ q λz=>z];exact q,λb u xs q=>by rw[QY<|hm b _ q λz=>z];exact q,λb ps q=>⟨#[],by rw[QY<|hm b _ q λz=>z,q];simp⟩⟩
 by_cases ue:b=e
 ·subst ue;exact wG
 ·exact⟨u,k b u ue q⟩
end
def BY(h:ZF)(H:Hp):List Xb:=(Qv h.objs.size).filter λa=>(H a).isSome
def qV(h:ZF)(H:Hp):ZF:=PySem.W.hideAll h<|BY h H
def Qps(h:ZF)(H:Hp):(qV h H).objs.size=h.objs.size:=PySem.W.hideAll_size _ _
def Qtw(e:h.get? b=some o)(n:H b=none):(qV h H).get? b=some o:=
 XT _ e λhm=>by
  have q:=(QF.mp hm).2;rw[n] at q;simp at q
def QxD(e:(qV h H).get? b=some o):h.get? b=some o/\H b=none:=by
 have e':=XU (BY h H) e;refine⟨e',?_⟩;cases q:H b with
 |none=>rfl
 |some x=>
  have hm:b∈BY h H:=QF.mpr ⟨Jl.mpr<|Qr e',by simp[q]⟩;have z:(qV h H).get? b=none:=PySem.W.hideAll_none (BY h H) hm;rw[z] at e;cases e
def QyH(g h:ZF)(L:Xb):List (Xb×Xo):=(Qv h.objs.size).filterMap λa=>if a=L∨(g.get? a).isSome=true then none else(h.get? a).map λo=>(a,o)
def rest(g h:ZF)(L d:Xb):List (Xb×Xo):=(QyH g h L).filter λp=>decide (p.1≠d)
structure Mod (K:Ws) (mg:Str->Option Xd) (base:ZF):Prop where
 oH:K.In base
 glob:base.Ns Xf mg
 blt:∃mb,base.Ns builtinsNs mb/\∀x:Str,x ≠ "__name__" -> mb x=Xm x
 nolimit:base.NoLimit
structure Cx where
 prog:QB
 w:Jh
 K:Ws
 mg:Str->Option Xd
 base:ZF
 A:Jo
 N:List Str
 s₀:Xe
 H₀:Hp
 env:Env
 outer:List Env
 stack:List Env
 ex:List Xb
 fn:Str->Bool
 calm:Bool
 pn:List (Xb×Xo)
 xe:Xd->Xe->Prop
def gT(l:List Env):List Xb:=l.filterMap (·.frame)
abbrev Cx.fs (X:Cx):List Xb:=gT X.outer
def gU(sc:jd)(x:Str):Prop:=sc.names.lookup x=some .local∨sc.names.lookup x=some .cell∨sc.names.lookup x=some .free
def Loc(sc:jd)(x:Str):Prop:=sc.names.lookup x=some .local∨sc.names.lookup x=some .cell
def Look(env:Env)(h:ZF)(m:Str->Option Xd)(x:Str)(u:Xd):Prop:=
 (env.kindOf x=some .local/\m x=some u)∨((env.kindOf x=some .cell∨env.kindOf x=some .free)/\∃c,env.cells.lookup x=some c/\h.IsCell c (some u))
structure Cx.Ok (X:Cx):Prop where
 mod:Mod X.K X.mg X.base
 kind:X.env.scope.kind=.function
 glob:X.env.globals=Xf
 blt:X.env.builtins=builtinsNs
 above:X.s₀.heap.objs.size<=X.env.locals
 inj:∀x y c,X.env.cells.lookup x=some c->X.env.cells.lookup y=some c->x=y
 has:∀x,(X.env.kindOf x=some .cell∨X.env.kindOf x=some .free)->∃c,X.env.cells.lookup x=some c
 uj:∀x c,X.fn x=true->X.env.cells.lookup x=some c->X.s₀.heap.objs.size<=c
 hd:X.calm=true->X.A.handled=none
 frames:X.A.frames=some X.stack
 v5:X.stack=X.outer∨(X.stack=X.env::X.outer/\X.env.frame=some X.env.locals)
 nC:∀b∈X.ex,b≠X.env.locals/\∀x c,X.env.cells.lookup x=some c->c≠b
 bs:∀b o,X.base.get? b=some o->X.s₀.heap.get? b=some o/\X.H₀ b=none
 j9:X.base.objs.size<=X.s₀.heap.objs.size
 i4:∀b o,X.base.get? b=some o->b∉X.ex
 gG:∀b∈X.ex,b∉X.fs
 cw:X.s₀.heap.FunFrames X.base X.outer
 nv:∀b∈X.fs,X.H₀ b=none
structure Inv (X:Cx) (XI:List (Xb×Xo)) (σ:List<|Option V) (H:Hp) (s:Xe):Prop where
 ok:X.Ok
 os:s.os=X.s₀.os
 bare:nT s.gens
 base:Un X.fs X.ex X.H₀ H X.s₀.heap s.heap
 loc:∃m,s.heap.Ns X.env.locals m/\∀(i:Nat)(x:Str)(v:V),X.N[i]? = some x->σ[i]? = some (some v)->gU X.env.scope x->∃u,RelV v u/\Look X.env s.heap m x u
 cell:∀x c,X.env.cells.lookup x=some c->∃v,s.heap.IsCell c v
 free:H X.env.locals=none
 bg:∀x c,X.env.cells.lookup x=some c->H c=none
 pin:∀p∈X.pn++XI,s.heap.get? p.1=some p.2/\H p.1=none/\p.1≠X.env.locals/\p.1∉X.fs/\∀v,p.2.data≠.cell v
 ar:cg X.prog X.w H s.heap
 len:σ.length=X.N.length
section
variable{X:Cx}{XI:List (Xb×Xo)}{σ:List (Option V)}{H H':Hp}{s:Xe}{h':ZF}
def Cx.Ok.Gc(ok:X.Ok)(e:X.base.get? b=some o):b∉X.fs:=λhb=>by
 have:=(ok.cw.mem hb).1;rw[e] at this;cases this
def Inv.bs(I:Inv X XI σ H s):∀b o,X.base.get? b=some o->s.heap.get? b=some o/\H b=none:=λb o e=>
 ⟨I.base.keep b o (I.ok.bs b o e).1 (I.ok.bs b o e).2 (I.ok.Gc e)<|I.ok.i4 b o e,I.base.free b o (I.ok.bs b o e).1 (I.ok.bs b o e).2<|I.ok.i4 b o e⟩
def Inv.bk(I:Inv X XI σ H s):∀b o,X.base.get? b=some o->s.heap.get? b=some o:=λb o e=>(I.bs b o e).1
def Inv.mod(I:Inv X XI σ H s):Mod X.K X.mg X.base:=I.ok.mod
def Inv.bX(I:Inv X XI σ H s):X.K.In s.heap:=I.ok.mod.oH.keeps I.bk
def Inv.fr(I:Inv X XI σ H s):∃m,Fr X.base X.env.locals s.heap m:=
 let ⟨m,hn,_⟩:=I.loc
 ⟨m,hn,I.bk,QK I.ok.j9 I.ok.above⟩
def Inv.lt(I:Inv X XI σ H s):X.env.locals<s.heap.objs.size:=let ⟨_,hn,_⟩:=I.loc;hn.lt
def Inv.sz(I:Inv X XI σ H s):X.s₀.heap.objs.size<=s.heap.objs.size:=QK I.ok.above<|JG I.lt
def Inv.Gb(I:Inv X XI σ H s)(h:s.heap.objs.size<=a):a∉X.fs:=λhb=>by
 obtain⟨_,o,ho,_⟩:=I.ok.cw.mem hb;exact Z_ (Q2 (Qr ho)<|QK I.sz h)<|ZT _
def Inv.lY(I:Inv X XI σ H s):∀x c,X.env.cells.lookup x=some c->c≠X.env.locals:=λx c e z=>by
 obtain⟨v,o,ho,hd⟩:=I.cell x c e;obtain⟨m,⟨o',es,ep,gw,dB,_⟩,_⟩:=I.loc;rw[z,gw] at ho;cases ho;rw[dB] at hd;cases hd
def Inv.cw(I:Inv X XI σ H s):s.heap.FunFrames X.base X.outer:=by
 have all:∀(l:List Env),(∀b∈gT l,b∈X.fs)->X.s₀.heap.FunFrames X.base l->s.heap.FunFrames X.base l:=by
  intro l;induction l with
  |nil=>intro _ _;trivial
  |cons env r ih=>
   intro hs hl;obtain⟨hk,⟨L,o,hf,hn,ho,hd⟩,hr⟩:=hl;have hL:=hs L (by unfold gT;rw[Br,hf];exact Q1);obtain⟨sl,e⟩:=I.base.slot L o ho (I.ok.nv L hL) hL λz=>I.ok.gG L z hL
   exact⟨hk,⟨L,_,hf,hn,e,hd⟩,ih (λb hb=>hs b (by unfold gT;rw[Br,hf];exact QQ _ hb)) hr⟩
 exact all X.outer (λ_ hb=>hb) I.ok.cw
def Inv.stack(I:Inv X XI σ H s):s.heap.FunFrames X.base X.stack:=by
 rcases I.ok.v5 with e | ⟨e,hf⟩
 ·rw[e];exact I.cw
 ·rw[e];obtain⟨m,hn,_⟩:=I.loc;refine .cons (by rw[I.ok.kind];decide) hf hn ?_ I.cw
  exact Heap.get?_none_of_le<|QK I.ok.j9 I.ok.above
def Inv.iX(I:Inv X XI σ H s):∀b∈gT X.stack,b∈X.env.locals::X.fs:=λb hb=>by
 rcases I.ok.v5 with e | ⟨e,hf⟩
 ·rw[e] at hb;exact QQ _ hb
 ·rw[e] at hb;unfold gT at hb;rw[Br,hf] at hb;exact hb
def Inv.gq(I:Inv X XI σ H s):∀b∈gT X.stack,H b=none:=λb hb=>by
 rcases Qt.mp (I.iX b hb) with e | hb
 ·rw[e];exact I.free
 ·obtain⟨_,o,ho,_⟩:=I.ok.cw.mem hb;exact I.base.free b o ho (I.ok.nv b hb) λz=>I.ok.gG b z hb
def Inv.step{ch:List Xb}(I:Inv X XI σ H s)
  (gR:∀b∈ch,(b∈X.ex∨X.s₀.heap.objs.size<=b)/\b≠X.env.locals/\(∀x c,X.env.cells.lookup x=some c->c≠b)/\∀p∈X.pn++XI,p.1≠b)
  (keep:∀b o,b≠X.env.locals->b∉X.fs->b∉ch->s.heap.get? b=some o->H b=none->h'.get? b=some o)
  (slot:∀b o,b≠X.env.locals->b∈X.fs->b∉ch->s.heap.get? b=some o->H b=none->∃sl,h'.get? b=some { o with slots:=sl })(free:∀b o,b∉ch->s.heap.get? b=some o->H b=none->H' b=none)
  (there:∀b o,b∉ch->s.heap.get? b=some o->∃o',h'.get? b=some o')
  (cH:∀b xs,H b=some (.tup xs)->H' b=some (.tup xs))(dD:∀b o u,H b=some (.cE o u)->H' b=some (.cE o u))(dS:∀b ps,H b=some (.qE ps)->∃more,H' b=some (.qE<|ps++more))
  (ns:∀m,s.heap.Ns X.env.locals m->h'.Ns X.env.locals m)(ar:cg X.prog X.w H' h')(hg:nT g') :
  Inv X XI σ H' { s with heap:=h',gens:=g',drawn:=d',toks:=t' }:=by
 have wm:∀b o,X.s₀.heap.get? b=some o->b≠X.env.locals:=λb o e=>QZ<|Q2 (Qr e) I.ok.above
 have Cc:∀b o,X.s₀.heap.get? b=some o->b∉X.ex->b∉ch:=λb o e hx hb=>by
  rcases(gR b hb).1 with z | z
  ·exact hx z
  ·exact Z_ (Q2 (Qr e) z)<|ZT _
 have cellK:∀x c,X.env.cells.lookup x=some c->∀v,s.heap.IsCell c v->h'.IsCell c v:=λx c e v ⟨o,ho,hd⟩=>by
  have lD:=λz=>(gR c z).2.2.1 x c e rfl
  by_cases hc:c∈X.fs
  ·obtain⟨sl,q⟩:=slot c o (I.lY x c e) hc lD ho<|I.bg x c e;exact⟨_,q,hd⟩
  ·exact⟨o,keep c o (I.lY x c e) hc lD ho<|I.bg x c e,hd⟩
 refine⟨I.ok,I.os,hg,⟨λb o e n hb hx=>?_,λb o e n hb hx=>?_,λb o e n hx=>?_,λb o e hx=>?_,λb xs e=>cH b xs<|I.base.cH b xs e,λb o xs e=>dD b o xs<|I.base.dD b o xs e,λb ps e=>?_⟩,?_,λx c e=>?_,?_,λx c e=>?_,λp hp=>?_,ar,I.len⟩
 ·exact keep b o (wm b o e) hb (Cc b o e hx) (I.base.keep b o e n hb hx)<|I.base.free b o e n hx
 ·obtain⟨sl,e1⟩:=I.base.slot b o e n hb hx;obtain⟨sl',e2⟩:=slot b _ (wm b o e) hb (Cc b o e hx) e1<|I.base.free b o e n hx;exact⟨sl',e2⟩
 ·obtain⟨o',e1⟩:=I.base.there b o e hx;exact free b o' (Cc b o e hx) e1<|I.base.free b o e n hx
 ·obtain⟨o',e1⟩:=I.base.there b o e hx;exact there b o' (Cc b o e hx) e1
 ·obtain⟨m1,e1⟩:=I.base.dS b ps e;obtain⟨m2,e2⟩:=dS b _ e1;exact⟨m1++m2,by rw[e2,Array.append_assoc]⟩
 ·obtain⟨m,hn,hl⟩:=I.loc;refine⟨m,ns m hn,λi x v e1 e2 e3=>?_⟩;obtain⟨u,r,l⟩:=hl i x v e1 e2 e3;refine⟨u,r,?_⟩;rcases l with l | ⟨k,c,e,z⟩
  ·exact .inl l
  ·exact .inr ⟨k,c,e,cellK x c e _ z⟩
 ·obtain⟨v,z⟩:=I.cell x c e;exact⟨v,cellK x c e v z⟩
 ·obtain⟨m,⟨o,_,_,ho,_⟩,_⟩:=I.loc;exact free _ o (λz=>(gR _ z).2.1 rfl) ho I.free
 ·obtain⟨v,o,ho,hd⟩:=I.cell x c e;exact free c o (λz=>(gR c z).2.2.1 x c e rfl) ho<|I.bg x c e
 ·obtain⟨e,n,ne,nf,d⟩:=I.pin p hp;have lD:=λz=>(gR p.1 z).2.2.2 p hp rfl
  exact⟨keep p.1 p.2 ne nf lD e n,free p.1 p.2 lD e n,ne,nf,d⟩
def Inv.un(I:Inv X XI σ H s)(u:Un X.fs [] H H' s.heap h')(ar:cg X.prog X.w H' h'):Inv X XI σ H' { s with heap:=h',toks:=t' }:=by
 obtain⟨m,⟨o,es,ep,ho,r⟩,_⟩:=id I.loc;obtain⟨sl,hL⟩:=u.any ho I.free (by simp);exact I.step (ch:=[]) (λ_ z=>nomatch z) (λb o _ hb _ e n=>u.keep b o e n hb<|by simp) (λb o _ hb _ e n=>u.slot b o e n hb<|by simp) (λb o _ e n=>u.free b o e n<|by simp) (λb o _ e=>u.there b o e<|by simp) u.cH u.dD u.dS (λm' hm=>by
  obtain⟨o',nF,i9,gw,r'⟩:=hm;rw[ho] at gw;cases gw;exact⟨_,nF,i9,hL,r'⟩) ar I.bare
def Inv.call(I:Inv X XI σ H s)(u:Un (gT X.stack) ch H H' s.heap h')(ar:cg X.prog X.w H' h')(hg:nT g')
  (gR:∀b∈ch,(b∈X.ex∨X.s₀.heap.objs.size<=b)/\b≠X.env.locals/\(∀x c,X.env.cells.lookup x=some c->c≠b)/\∀p∈X.pn++XI,p.1≠b) :
  Inv X XI σ H' { s with heap:=h',gens:=g',drawn:=d',toks:=t' }:=by
 obtain⟨m,⟨o,es,ep,ho,r⟩,_⟩:=id I.loc;obtain⟨sl,hL⟩:=u.any ho I.free λz=>(gR _ z).2.1 rfl
 exact I.step gR (λb o hL hb hc e n=>u.keep b o e n (λz=>(Qt.mp<|I.iX b z).elim hL hb) hc) (λb o _ _ hc e n=>u.any e n hc) (λb o hc e n=>u.free b o e n hc) (λb o hc e=>u.there b o e hc) u.cH u.dD u.dS (λm' hm=>by
  obtain⟨o',nF,i9,gw,r'⟩:=hm;rw[ho] at gw;cases gw;exact⟨_,nF,i9,hL,r'⟩) ar hg
def Inv.turned(I:Inv X XI σ H s)(k:∀b o,b≠it->s.heap.get? b=some o->h'.get? b=some o)(hn:H it=none)(hL:it≠X.env.locals)
  (h1:it∈X.ex∨X.s₀.heap.objs.size<=it)(h2:∀x c,X.env.cells.lookup x=some c->c≠it)(h3:∀p∈X.pn++XI,p.1≠it):Inv X XI σ H { s with heap:=h',toks:=t' }:=by
 have N2:∀b u,H b=some u->b≠it:=λb u e z=>by rw[z,hn] at e;cases e
 refine I.step (ch:=[it]) (λb hb=>?_) (λb o _ _ hc e _=>k b o (λz=>hc<|by simp[z]) e) (λb o _ _ hc e _=>⟨o.slots,k b o (λz=>hc<|by simp[z]) e⟩) (λ_ _ _ _ n=>n)
  (λb o hc e=>⟨o,k b o (λz=>hc<|by simp[z]) e⟩) (λ_ _ e=>e) (λ_ _ _ e=>e) (λb ps e=>⟨#[],by rw[e];simp⟩) (λm hm=>?_) (λb u e=>?_) I.bare
 ·have e:b=it:=by simpa using hb
  subst e;exact⟨h1,hL,h2,h3⟩
 ·obtain⟨o,es,ep,ho,r⟩:=hm;exact⟨o,es,ep,k _ o (iM hL) ho,r⟩
 ·refine(I.ar b u e).fg (λc v hc q=>k c v ?_ q) (λ_ q=>q) λ_ _ q=>q
  rcases hc with z | z
  ·rw[z];exact N2 b u e
  ·exact N2 c _ z
def Inv.tok(I:Inv X XI σ H s)(t:Nat):Inv X XI σ H { s with toks:=t }:=I.un Un.refl I.ar
def Inv.kept(I:Inv X XI σ H s)(k:∀b u,s.heap.get? b=some u->h'.get? b=some u):Inv X XI σ H { s with heap:=h',toks:=t' }:=I.un (Un.kept k)<|I.ar.kept k
def Inv.laid(I:Inv X XI σ H s)(k:∀b u,s.heap.get? b=some u->h'.get? b=some u)(hp:s.heap.objs.size<=a)(new:aQ X.prog X.w (upd H a o) h' a o) :
  Inv X XI σ (upd H a o) { s with heap:=h',toks:=t' }:=I.un (Un.laid k hp<|I.ar.fresh hp)<|I.ar.laid k hp new
def Inv.write(I:Inv X XI σ H s)(mu:BF<|H x)(he:e=x∨H e=some (.own x))(k:∀b u,b≠e->s.heap.get? b=some u->h'.get? b=some u)(wG:∃u,h'.get? e=some u)
  (new:aQ X.prog X.w (upd H x o) h' x o):Inv X XI σ (upd H x o) { s with heap:=h',toks:=t' }:=I.un (Un.write mu he k wG)<|I.ar.write mu he k wG new
def Inv.weak(I:Inv X XI σ H s)(hl:σ'.length=σ.length)(w:∀(i:Nat) v,σ'[i]? = some (some v)->σ[i]? = some (some v)):Inv X XI σ' H s:=
 ⟨I.ok,I.os,I.bare,I.base,let ⟨m,hn,oN⟩:=I.loc;⟨m,hn,λi x v e1 e2 e3=>oN i x v e1 (w i v e2) e3⟩,I.cell,I.free,I.bg,I.pin,I.ar,hl.trans I.len⟩
def Inv.ju(I:Inv X XI σ H s)(h:∀p∈yJ,s.heap.get? p.1=some p.2/\H p.1=none/\p.1≠X.env.locals/\p.1∉X.fs/\∀v,p.2.data≠.cell v):Inv X yJ σ H s:=
 ⟨I.ok,I.os,I.bare,I.base,I.loc,I.cell,I.free,I.bg,λp hp=>(QP.mp hp).elim (λz=>I.pin p<|Zb _ z)<|h p,I.ar,I.len⟩
def Ln{N:List Str}(hN:N.Nodup){j:Nat}(a:N[i]? = some x)(b:N[j]? = some x):i=j:=by
 obtain⟨h1,e1⟩:=QR.mp a;obtain⟨h2,e2⟩:=QR.mp b;exact(List.getElem_inj hN).mp<|e1.trans e2.symm
def Qif(I:Inv X XI σ H s)(hN:X.N.Nodup)(hi:X.N[i]? = some x)(hx:Loc X.env.scope x)(r:RelV v u)
  (h:∀s',Inv X XI (σ.set i<|some v) H s'->(∃a,Ya a s.heap s'.heap/\(a=X.env.locals∨X.env.cells.lookup x=some a))->Q () s')(hf:X.fn x=true∨X.env.scope.names.lookup x=some .local:=by first | exact .inl rfl | exact .inr rfl | assumption):Xi M A (storeName X.env x u) Q E s:=by
 obtain⟨m,hn,hl⟩:=id I.loc;have G0:(X.env.scope.kind == .class||(X.env.scope.kind == .module&&X.env.locals != X.env.globals))=false:=by rw[I.ok.kind];rfl
 have Ou:i < σ.length:=by rw[I.len];exact(QR.mp hi).1
 have lY:=I.lY;have tracked:∀{a:Xb}{h':ZF},(∃o,s.heap.get? a=some o/\H a=none)->Ya a s.heap h'->cg X.prog X.w H h':=λ{a h'} ha hs b ob e=>by
  obtain⟨_,_,qN⟩:=ha;refine(I.ar b ob e).fg (λc w' hc q=>(hs.2 c ?_).trans q) (λ_ q=>q) λ_ _ q=>q
  rintro rfl;rcases hc with rfl | hc
  ·rw[qN] at e;cases e
  ·rw[qN] at hc;cases hc
 rcases hx with hk | hk
 ·refine wpAny_storeName_local hk hn (λh' GH hs=>?_) G0;obtain⟨oL,_,_,wz,_⟩:=id hn;refine h _ ⟨I.ok,I.os,I.bare,⟨λb o e n hb hx=>?_,λb o e n hb hx=>?_,I.base.free,λb o e hx=>?_,I.base.cH,I.base.dD,I.base.dS⟩,⟨_,GH,λj y v' e1 e2 e3=>?_⟩,λy c e=>?_,I.free,I.bg,λp hp=>?_,tracked ⟨oL,wz,I.free⟩ hs,by simpa using I.len⟩ ⟨_,hs,.inl rfl⟩
  ·exact(hs.2 b<|QZ<|Q2 (Qr e) I.ok.above).trans<|I.base.keep b o e n hb hx
  ·obtain⟨sl,e1⟩:=I.base.slot b o e n hb hx;exact⟨sl,(hs.2 b<|QZ<|Q2 (Qr e) I.ok.above).trans e1⟩
  ·obtain⟨o',e1⟩:=I.base.there b o e hx;exact⟨o',(hs.2 b<|QZ<|Q2 (Qr e) I.ok.above).trans e1⟩
  ·by_cases hj:j=i
   ·subst hj;rw[hi] at e1;cases e1;rw[EU Ou] at e2;cases e2;exact⟨u,r,.inl ⟨hk,by simp⟩⟩
   ·rw[EI<|iM hj] at e2;obtain⟨u',r',q⟩:=hl j y v' e1 e2 e3;refine⟨u',r',?_⟩;rcases q with⟨k,e⟩ | ⟨k,c,e,z⟩
    ·refine .inl ⟨k,?_⟩;have:y≠x:=λe=>hj<|Ln hN e1<|e ▸ hi
     simp[this,e]
    ·exact .inr ⟨k,c,e,z.sameBut hs<|lY y c e⟩
  ·obtain⟨w',z⟩:=I.cell y c e;exact⟨w',z.sameBut hs<|lY y c e⟩
  ·obtain⟨e,n,ne,nf,d⟩:=I.pin p hp;exact⟨(hs.2 p.1 ne).trans e,n,ne,nf,d⟩
 ·have GS:X.fn x=true:=by
   rcases hf with z | z
   ·exact z
   ·rw[z] at hk;cases hk
  obtain⟨c,hc⟩:=I.ok.has x<|.inl hk;obtain⟨w',z⟩:=I.cell x c hc;refine wpAny_storeName_cell I.ok.kind hk hc z λh' j8 hs=>?_;obtain⟨oc,zm,GF⟩:=id z;refine h { s with heap:=h' } ⟨I.ok,I.os,I.bare,⟨λb o e n hb hx=>?_,λb o e n hb hx=>?_,I.base.free,λb o e hx=>?_,I.base.cH,I.base.dD,I.base.dS⟩,⟨m,hn.sameBut hs<|iM<|lY x c hc,λj y v' e1 e2 e3=>?_⟩,λy c' e=>?_,I.free,I.bg,λp hp=>?_,tracked ⟨oc,zm,I.bg x c hc⟩ hs,by simpa using I.len⟩ ⟨c,hs,.inr hc⟩
  ·exact(hs.2 b<|QZ<|Q2 (Qr e)<|I.ok.uj x c GS hc).trans<|I.base.keep b o e n hb hx
  ·obtain⟨sl,e1⟩:=I.base.slot b o e n hb hx;exact⟨sl,(hs.2 b<|QZ<|Q2 (Qr e)<|I.ok.uj x c GS hc).trans e1⟩
  ·obtain⟨o',e1⟩:=I.base.there b o e hx;exact⟨o',(hs.2 b<|QZ<|Q2 (Qr e)<|I.ok.uj x c GS hc).trans e1⟩
  ·by_cases hj:j=i
   ·subst hj;rw[hi] at e1;cases e1;rw[EU Ou] at e2;cases e2;exact⟨u,r,.inr ⟨.inl hk,c,hc,j8⟩⟩
   ·rw[EI<|iM hj] at e2;obtain⟨u',r',q⟩:=hl j y v' e1 e2 e3;refine⟨u',r',?_⟩;rcases q with q | ⟨k,c',e,z'⟩
    ·exact .inl q
    ·refine .inr ⟨k,c',e,z'.sameBut hs ?_⟩;rintro rfl;exact hj<|Ln hN e1<|I.ok.inj _ _ _ e hc ▸ hi
  ·by_cases Ox:c'=c
   ·subst Ox;exact⟨_,j8⟩
   ·obtain⟨w2,z2⟩:=I.cell y c' e;exact⟨w2,z2.sameBut hs Ox⟩
  ·obtain⟨e,n,ne,nf,d⟩:=I.pin p hp;refine⟨(hs.2 p.1 ?_).trans e,n,ne,nf,d⟩;intro q;rw[q,zm] at e;have q':=QL e;exact d w' (by rw[<- q'];exact GF)
def xV(I:Inv X XI σ H s)(hN:X.N.Nodup)(hi:X.N[i]? = some x)(hx:Loc X.env.scope x)(r:RelV v u)
  (h:∀s',Inv X XI (σ.set i<|some v) H s'->Q () s')(hf:X.fn x=true∨X.env.scope.names.lookup x=some .local:=by first | exact .inl rfl | exact .inr rfl | assumption):Xi M A (storeName X.env x u) Q E s:=
 Qif I hN hi hx r (λs' I' _=>h s' I') hf
def Inv.lZ(I:Inv X XI σ H s)(ho:s'.os=s.os)(u:Un (gT X.stack) ch H H' s.heap s'.heap)(ar:cg X.prog X.w H' s'.heap)(hg:nT s'.gens)
  (gR:∀b∈ch,(b∈X.ex∨X.s₀.heap.objs.size<=b)/\b≠X.env.locals/\(∀x c,X.env.cells.lookup x=some c->c≠b)/\∀p∈X.pn++XI,p.1≠b):Inv X XI σ H' s':=by
 obtain⟨h',g',d',t',o'⟩:=s';have e:=ho;subst e;exact I.call u ar hg gR
end
abbrev XK:=Xd->Option Xb->Hp->Prop
abbrev St:=List<|Option V
abbrev VK:=V->Hp->Prop
abbrev TE:=St->Hp->VK->Prop
abbrev TT:=St->Hp->(Bool->Hp->Prop)->Prop
abbrev TA:=St->Hp->(List V->Hp->Prop)->Prop
structure Ends where
 nx:St->Hp->Prop
 rt:VK
 bk:St->Hp->Prop:=λ_ _=>False
 ct:St->Hp->Prop:=λ_ _=>False
abbrev TS:=Ends->St->Hp->Prop
def EP(X:Cx)(XI:List (Xb×Xo))(σ:St)(Q:VK)(u:Xd)(s':Xe):Prop:=∃v H',Inv X XI σ H' s'/\RelV v u/\Q v H'
def TP(X:Cx)(XI:List (Xb×Xo))(σ:St)(Q:Bool->Hp->Prop)(b:Bool)(s':Xe):Prop:=∃H',Inv X XI σ H' s'/\Q b H'
def AP(X:Cx)(XI:List (Xb×Xo))(σ:St)(Q:List V->Hp->Prop)(us:List Xd)(s':Xe):Prop:=∃vs H',Inv X XI σ H' s'/\ai vs us/\Q vs H'
def SP(X:Cx)(XI:List (Xb×Xo))(D:Ends)(f:Flow)(s':Xe):Prop:=
 match f with
 |.next=>∃σ' H',Inv X XI σ' H' s'/\D.nx σ' H'
 |.brk=>∃σ' H',Inv X XI σ' H' s'/\D.bk σ' H'
 |.cont=>∃σ' H',Inv X XI σ' H' s'/\D.ct σ' H'
 |.ret u=>∃v σ' H',Inv X XI σ' H' s'/\RelV v u/\D.rt v H'
def PE(X:Cx)(e:Zm)(t:TE):Prop:=
 ∀(XI:List (Xb×Xo))(s:Xe)(σ:St)(H:Hp)(Q:VK),Inv X XI σ H s->t σ H Q->Xi (Xg X.prog X.w) X.A (eval e X.env) (EP X XI σ Q) X.xe s
def PT(X:Cx)(e:Zm)(t:TT):Prop:=
 ∀(XI:List (Xb×Xo))(s:Xe)(σ:St)(H:Hp)(Q:Bool->Hp->Prop),Inv X XI σ H s->t σ H Q->Xi (Xg X.prog X.w) X.A (isTrue e X.env<|eval e X.env) (TP X XI σ Q) X.xe s
def PW(X:Cx)(e:Zm)(t:TT):Prop:=
 ∀(whole:Sem Xd)(XI:List (Xb×Xo))(s:Xe)(σ:St)(H:Hp)(Q:Bool->Hp->Prop),Inv X XI σ H s->t σ H Q->Xi (Xg X.prog X.w) X.A (isTrue e X.env whole) (TP X XI σ Q) X.xe s
def PW.pt(h:PW X e t):PT X e t:=h _
def PA(X:Cx)(es:List Zm)(t:TA):Prop:=
 ∀(pos:Pos)(XI:List (Xb×Xo))(s:Xe)(σ:St)(H:Hp)(Q:List V->Hp->Prop),Inv X XI σ H s->t σ H Q->Xi (Xg X.prog X.w) X.A (spliced<|Xp pos<|Xh es X.env) (AP X XI σ Q) X.xe s
def PS(X:Cx)(st:Zo)(t:TS):Prop:=
 ∀(XI:List (Xb×Xo))(s:Xe)(σ:St)(H:Hp)(D:Ends),Inv X XI σ H s->t D σ H->Xi (Xg X.prog X.w) X.A (exec st X.env) (SP X XI D) X.xe s
def aV(X:Cx)(st:List Zo)(t:TS):Prop:=
 ∀(XI:List (Xb×Xo))(s:Xe)(σ:St)(H:Hp)(D:Ends),Inv X XI σ H s->t D σ H->Xi (Xg X.prog X.w) X.A (execs st X.env) (SP X XI D) X.xe s
def aD(h:Xi M A t Q E s)(hQ:∀a s,Q a s->Q' a s):Xi M A t Q' E s:=Xk h hQ λ_ _ x=>x
section
variable{X:Cx}
def Yu(i:Nat):TE:=λσ H Q=>∃v,σ[i]? = some (some v)/\Q v H
def tC(v:V):TE:=λ_ H Q=>Q v H
def Sz(hN:X.N[i]? = some x)(hv:gU X.env.scope x)(hd:(x == ("__debug__" : Str))=false:=by decide)(bG:(x == ("__classdict__" : Str))=false:=by decide):PE X (.Name x pos) (Yu i):=by
 intro XI s σ H Q I h;obtain⟨v,e,h⟩:=h;obtain⟨m,hn,hl⟩:=I.loc;obtain⟨u,r,l⟩:=hl i x v hN e hv;have fin:EP X XI σ Q u s:=⟨v,H,I,r,h⟩;rcases l with⟨hk,hm⟩ | ⟨hk,c,hc,jA⟩
 ·exact Nk (PN I.ok.kind hk hn hm fin) hd
 ·rcases hk with hk | hk
  ·exact Nk (PV I.ok.kind hk hc jA fin) hd
  ·exact Nk (wpAny_loadName_free I.ok.kind hk hc jA fin bG) hd
def Je{i j pos}:PE X (.Constant (.int i) j pos) (tC<|.int i):=λ_ _ _ H _ I h=>wpAny_Constant_int ⟨.int i,H,I.tok _,⟨_,rfl⟩,h⟩
def uJ{b j pos}:PE X (.Constant (.bool b) j pos) (tC<|.bl b):=λ_ _ _ H _ I h=>Constant_bool ⟨.bl b,H,I,rfl,h⟩
def xw{j pos}:PE X (.Constant .none j pos) (tC .aH):=λ_ _ _ H _ I h=>Constant_none ⟨.aH,H,I,rfl,h⟩
def Zf{x j pos}:PE X (.Constant (.str x) j pos) (tC<|.str x):=λ_ _ _ H _ I h=>S8 ⟨.str x,H,I.tok _,⟨_,rfl⟩,h⟩
def Gl(X:Cx)(x:Str):Prop:=X.env.kindOf x=some .globalImplicit
def xE(I:Inv X XI σ H s)(hg:Gl X x)(hm:X.mg x=some u)(h:Q u s)
  (hd:(x == ("__debug__" : Str))=false:=by decide):Xi (Xg X.prog X.w) X.A (eval (.Name x pos) X.env) Q E s:=
 QhN I.ok.kind hg (Calls.loadGlobal_global (by rw[I.ok.glob];exact I.mod.glob.keeps I.bk) hm h) hd
def rP(I:Inv X XI σ H s)(hg:Gl X x)(hm:X.mg x=none)(hv:Xm x=some u)(h:Q u s)
  (hn:x ≠ "__name__" := by decide)(hd:(x == ("__debug__" : Str))=false:=by decide):Xi (Xg X.prog X.w) X.A (eval (.Name x pos) X.env) Q E s:=by
 obtain⟨mb,h1,h2⟩:=I.mod.blt;exact QhN I.ok.kind hg (Calls.loadGlobal_builtin (by rw[I.ok.glob];exact I.mod.glob.keeps I.bk) hm (by rw[I.ok.blt];exact h1.keeps I.bk) ((h2 x hn).trans hv) h) hd
def Z5(hg:Gl X x)(hm:X.mg x=some u)(r:RelV v u)(hd:(x == ("__debug__" : Str))=false:=by decide):PE X (.Name x pos) (tC v):=
 λ_ _ _ H _ I h=>xE I hg hm ⟨v,H,I,r,h⟩ hd
def Ui(hg:Gl X x)(hm:X.mg x=none)(hv:Xm x=some u)(r:RelV v u)(hn:x ≠ "__name__" := by decide)(hd:(x == ("__debug__" : Str))=false:=by decide):PE X (.Name x pos) (tC v):=
 λ_ _ _ H _ I h=>rP I hg hm hv ⟨v,H,I,r,h⟩ hn hd
variable{a b:Zm}{ta tb:TE}{pos:Pos}
def tB(t:TE):TT:=λσ H Q=>t σ H λx H1=>∃c,x=.bl c/\Q c H1
def Dd(h:PE X e t)(he:∀whole,isTrue e X.env whole=(do let v <- whole;Xw e.pos;Xs [v]<|XG v):=by intro _;rfl):PT X e (tB t):=by
 intro XI s σ H Q I hw;refine isTrue_plain (aD (h XI s σ H _ I hw) λv s1 ⟨x,H1,I1,r1,q1⟩=>?_)<|he _;obtain⟨d,rfl,q⟩:=q1;cases r1;exact ZC ⟨H1,I1,q⟩
variable{tA B3:TT}{rest:List Zm}
def M_(t u:TT):TT:=λσ H Q=>t σ H λc H1=>if c=true then u σ H1 Q else Q false H1
def tOr(t u:TT):TT:=λσ H Q=>t σ H λc H1=>if c=true then Q true H1 else u σ H1 Q
def QFs(t:TT):TT:=λσ H Q=>t σ H λc H1=>Q (!c) H1
def AX(ha:PT X a tA):PW X (.BoolOp .And [a] pos) tA:=by
 intro wh XI s σ H Q I h;refine isTrue_and<|aD (ha XI s σ H Q I h) λc s1 e=>?_;cases c with
 |true=>exact isTrue_and_nil e
 |false=>exact e
def IV(ha:PT X a tA):PW X (.BoolOp .Or [a] pos) tA:=by
 intro wh XI s σ H Q I h;refine isTrue_or<|aD (ha XI s σ H Q I h) λc s1 e=>?_;cases c with
 |false=>exact isTrue_or_nil e
 |true=>exact e
def Aw(ha:PT X a tA)(hb:PW X (.BoolOp .And (b::rest) pos) B3):PW X (.BoolOp .And (a::b::rest) pos) (M_ tA B3):=by
 intro wh XI s σ H Q I h;refine isTrue_and<|aD (ha XI s σ H _ I h) λc s1 ⟨H1,I1,q1⟩=>?_;cases c with
 |true=>exact hb wh XI s1 σ H1 Q I1 q1
 |false=>exact⟨H1,I1,q1⟩
def H_(ha:PT X a tA)(hb:PW X (.BoolOp .Or (b::rest) pos) B3):PW X (.BoolOp .Or (a::b::rest) pos) (tOr tA B3):=by
 intro wh XI s σ H Q I h;refine isTrue_or<|aD (ha XI s σ H _ I h) λc s1 ⟨H1,I1,q1⟩=>?_;cases c with
 |true=>exact⟨H1,I1,q1⟩
 |false=>exact hb wh XI s1 σ H1 Q I1 q1
def xx(ha:PT X a tA):PT X (.UnaryOp .Not a pos) (QFs tA):=by
 intro XI s σ H Q I h;exact isTrue_not<|ha XI s σ H (λc H1=>Q (!c) H1) I h
def QDs(ta tb:TE):TE:=λσ H Q=>ta σ H λx H1=>∃c,x=.bl c/\if c=true then tb σ H1 Q else Q (.bl false) H1
def QFr(ta tb:TE):TE:=λσ H Q=>ta σ H λx H1=>∃c,x=.bl c/\if c=true then Q (.bl true) H1 else tb σ H1 Q
def QDo(ta:TE):TE:=λσ H Q=>ta σ H λx H1=>∃c,x=.bl c/\Q (.bl (!c)) H1
def IT{op}(h:PE X a t):PE X (.BoolOp op [a] pos) t:=λXI s σ H Q I hw=>BoolOp_one<|h XI s σ H Q I hw
def IQ(ha:PE X a ta)(hb:PE X (.BoolOp .And (b::rest) pos) tb):PE X (.BoolOp .And (a::b::rest) pos) (QDs ta tb):=by
 intro XI s σ H Q I h;refine BoolOp_and<|aD (ha XI s σ H _ I h) λv s1 ⟨x,H1,I1,r1,q1⟩=>?_;obtain⟨c,rfl,q1⟩:=q1;cases r1;refine ZC ?_
 cases c with
 |true=>exact hb XI s1 σ H1 Q I1 q1
 |false=>exact⟨.bl false,H1,I1,rfl,q1⟩
def QDJ(ha:PE X a ta)(hb:PE X (.BoolOp .Or (b::rest) pos) tb):PE X (.BoolOp .Or (a::b::rest) pos) (QFr ta tb):=by
 intro XI s σ H Q I h;refine BoolOp_or<|aD (ha XI s σ H _ I h) λv s1 ⟨x,H1,I1,r1,q1⟩=>?_;obtain⟨c,rfl,q1⟩:=q1;cases r1;refine ZC ?_
 cases c with
 |false=>exact hb XI s1 σ H1 Q I1 q1
 |true=>exact⟨.bl true,H1,I1,rfl,q1⟩
def QAd(ha:PE X a ta):PE X (.UnaryOp .Not a pos) (QDo ta):=by
 intro XI s σ H Q I h;refine UnaryOp_<|aD (ha XI s σ H _ I h) λv s1 ⟨x,H1,I1,r1,q1⟩=>?_;obtain⟨c,rfl,q1⟩:=q1;cases r1;exact not_of<|ZC ⟨.bl (!c),H1,I1,rfl,q1⟩
def NA(t:TT)(ta tb:TE):TE:=λσ H Q=>t σ H λc H1=>if c=true then ta σ H1 Q else tb σ H1 Q
def Wp(hc:PT X c tA)(ha:PE X a ta)(hb:PE X b tb):PE X (.IfExp c a b pos) (NA tA ta tb):=by
 intro XI s σ H Q I h;refine wpAny_IfExp<|aD (hc XI s σ H _ I h) λd s1 ⟨H1,I1,q1⟩=>?_;cases d with
 |true=>exact ha XI s1 σ H1 Q I1 q1
 |false=>exact hb XI s1 σ H1 Q I1 q1
end
def aA(K:Ws)(H:Hp)(a:Xb)(xs:List V):Prop:=
 Rd H a (.lst xs) ∨
  ∃(o:Xo)(ah:Array Xd)(n:Nat),K.lookup a=some o/\o.cls=.type "list" /\ o.dict=none/\o.data=.seq ah n/\ah.size<=Xj/\ai xs ah.toList
def aM(K:Ws)(H:Hp)(a:Xb)(xs:List V):Prop:=
 Rd H a (.tup xs) ∨
  ∃(o:Xo)(ah:Array Xd)(n:Nat),K.lookup a=some o/\o.cls=.type "tuple" /\ o.data=.seq ah n/\ah.size<=Xj/\ai xs ah.toList
def QFW:Xd->Option V
 |.none=>some .aH
 |.bool b=>some<|.bl b
 |.int i _=>some<|.int i
 |.str x _=>some<|.str x
 |.bytes b _=>some<|.jG b
 |.float b _=>some<|.ug b
 |.ref a=>some<|.ref a
 |.type n=>some<|.ty n
 |_=>none
def RelV.abs(r:RelV x u):QFW u=some x:=by
 cases x with
 |aH=>cases r;rfl
 |bl _=>cases r;rfl
 |int _=>obtain⟨t,rfl⟩:=r;rfl
 |str _=>obtain⟨t,rfl⟩:=r;rfl
 |jG _=>obtain⟨t,rfl⟩:=r;rfl
 |ug _=>obtain⟨t,rfl⟩:=r;rfl
 |ref _=>cases r;rfl
 |ty _=>cases r;rfl
def RelV.inj(r:RelV x u)(q:RelV y u):x=y:=QL<|r.abs.symm.trans q.abs
def ai.inj{xs ys:List V}{us:List Xd}(h:ai xs us)(h':ai ys us):xs=ys:=by
 induction us generalizing xs ys with
 |nil=>cases h;cases h';rfl
 |cons u us ih=>
  cases h with
  |cons r t=>
   cases h' with
   |cons r' t'=>rw[r.inj r',ih t t']
section
variable{X:Cx}{XI:List (Xb×Xo)}{σ:St}{H:Hp}{s:Xe}{a:Xb}{xs ys:List V}
def aA.of{K:Ws}(h:H a=some (.lst xs)):aA K H a xs:=.inl<|.inl h
def aM.of{K:Ws}(h:H a=some (.tup xs)):aM K H a xs:=.inl<|.inl h
def Inv.list(I:Inv X XI σ H s)(h:aA X.K H a xs):∃ah:List Xd,ai xs ah/\PlainL s.heap a ah.toArray/\xs.length<=Xj:=by
 rcases h with h | ⟨o,ah,n,hk,hc,hd,hs,hz,r⟩
 ·obtain⟨z,ah,n,r,e⟩:=h.ok I.ar;exact⟨ah,r,⟨_,n,e,rfl,rfl,rfl⟩,z⟩
 ·refine⟨ah.toList,r,⟨o,n,I.bX a o hk,hc,hd,by simpa using hs⟩,?_⟩;have e:=r.length;simp only[Jd] at e;omega
def Inv.tuple(I:Inv X XI σ H s)(h:aM X.K H a xs):∃ah:List Xd,ai xs ah/\IsTup s.heap a ah.toArray/\xs.length<=Xj:=by
 rcases h with h | ⟨o,ah,n,hk,hc,hs,hz,r⟩
 ·obtain⟨z,ah,r,p⟩:=h.ok I.ar;exact⟨ah,r,p.tup,z⟩
 ·refine⟨ah.toList,r,⟨o,I.bX a o hk,hc,n,by simpa using hs⟩,?_⟩;have e:=r.length;simp only[Jd] at e;omega
def Inv.lG(I:Inv X XI σ H s)(h:aA X.K H a xs)(h':aA X.K H a ys):xs=ys:=by
 obtain⟨ah,r,⟨o,n,e,_,_,d⟩,_⟩:=I.list h;obtain⟨fQ,r',⟨o',n',e',_,_,d'⟩,_⟩:=I.list h';rw[e] at e';cases e';rw[d] at d';injection d' with d1 _
 have:ah=fQ:=by simpa using congrArg QCD d1
 subst this;exact r.inj r'
def Inv.jX(I:Inv X XI σ H s)(h:aM X.K H a xs)(h':aM X.K H a ys):xs=ys:=by
 obtain⟨ah,r,⟨o,e,_,n,d⟩,_⟩:=I.tuple h;obtain⟨fQ,r',⟨o',e',_,n',d'⟩,_⟩:=I.tuple h';rw[e] at e';cases e';rw[d] at d';injection d' with d1 _
 have:ah=fQ:=by simpa using congrArg QCD d1
 subst this;exact r.inj r'
end
abbrev Cx.cG (X:Cx) (E:Xd->Xe->Prop):Cx:={ X with xe:=E }
abbrev Cx.iF (X:Cx):Cx:=X.cG λ_ _=>False
def Cx.Ok.cG{X:Cx}(ok:X.Ok)(E:Xd->Xe->Prop):(X.cG E).Ok:=
 ⟨ok.mod,ok.kind,ok.glob,ok.blt,ok.above,ok.inj,ok.has,ok.uj,ok.hd,ok.frames,ok.v5,ok.nC,ok.bs,ok.j9,ok.i4,ok.gG,ok.cw,ok.nv⟩
def Cx.Ok.aZ{X:Cx}(ok:(X.cG E).Ok):X.Ok:=
 ⟨ok.mod,ok.kind,ok.glob,ok.blt,ok.above,ok.inj,ok.has,ok.uj,ok.hd,ok.frames,ok.v5,ok.nC,ok.bs,ok.j9,ok.i4,ok.gG,ok.cw,ok.nv⟩
section
variable{X:Cx}{XI:List (Xb×Xo)}{σ:St}{H:Hp}{s:Xe}{E:Xd->Xe->Prop}
def Inv.cG(I:Inv X XI σ H s)(E:Xd->Xe->Prop):Inv (X.cG E) XI σ H s:=⟨I.ok.cG E,I.os,I.bare,I.base,I.loc,I.cell,I.free,I.bg,I.pin,I.ar,I.len⟩
def Inv.aZ(I:Inv (X.cG E) XI σ H s):Inv X XI σ H s:=⟨I.ok.aZ,I.os,I.bare,I.base,I.loc,I.cell,I.free,I.bg,I.pin,I.ar,I.len⟩
def SP.aZ(h:SP (X.cG E) XI D f s'):SP X XI D f s':=by
 cases f with
 |next=>obtain⟨σ',H',I,q⟩:=h;exact⟨σ',H',I.aZ,q⟩
 |brk=>obtain⟨σ',H',I,q⟩:=h;exact⟨σ',H',I.aZ,q⟩
 |cont=>obtain⟨σ',H',I,q⟩:=h;exact⟨σ',H',I.aZ,q⟩
 |ret u=>obtain⟨v,σ',H',I,r,q⟩:=h;exact⟨v,σ',H',I.aZ,r,q⟩
def PE.iF(h:PE X.iF e t):PE X e t:=λXI s σ H Q I hw=>
 Xk (h XI s σ H Q (I.cG _) hw) (λ_ _ ⟨v,H',I',r,q⟩=>⟨v,H',I'.aZ,r,q⟩) λ_ _ z=>Jr z
def PT.iF(h:PT X.iF e t):PT X e t:=λXI s σ H Q I hw=>
 Xk (h XI s σ H Q (I.cG _) hw) (λ_ _ ⟨H',I',q⟩=>⟨H',I'.aZ,q⟩) λ_ _ z=>Jr z
def aV.iF{st:List Zo}(h:aV X.iF st t):aV X st t:=λXI s σ H D I hw=>
 Xk (h XI s σ H D (I.cG _) hw) (λ_ _ q=>q.aZ) λ_ _ z=>Jr z
end
section
variable{X:Cx}{st:Zo}{rest:List Zo}{t u:TS}{e:Zm}{te:TE}{pos:Pos}
def Ip:TS:=λD σ H=>D.nx σ H
def gY(t u:TS):TS:=λD σ H=>t { D with nx:=u D } σ H
def Yh:aV X [] Ip:=λ_ _ σ H _ I h=>yi ⟨σ,H,I,h⟩
def QC(h1:PS X st t)(h2:aV X rest u):aV X (st::rest) (gY t u):=by
 intro XI s σ H D I h;refine D0<|aD (h1 XI s σ H { D with nx:=u D } I h) λf s1 q=>?_;cases f with
 |next=>
  obtain⟨σ',H',I',q⟩:=q;exact h2 XI s1 σ' H' D I' q
 |ret v=>exact q
 |brk=>exact q
 |cont=>exact q
def Q6(h1:PS X st t):aV X [st] t:=by
 intro XI s σ H D I h;refine D0<|aD (h1 XI s σ H D I h) λf s1 q=>?_;cases f with
 |next=>exact yi q
 |ret v=>exact q
 |brk=>exact q
 |cont=>exact q
def Inv.quiet(I:Inv X XI σ H s):interactive X.env=false:=by simp[interactive,I.ok.kind]
def Aj(te:TE):TS:=λD σ H=>te σ H λ_ H1=>D.nx σ H1
def ZB(he:PE X e te)(hs:Xt e none pos.line X.env=pure false:=by rfl):PS X (.Expr e pos) (Aj te):=by
 intro XI s σ H D I h;exact wpAny_Expr_any (aD (he XI s σ H _ I h) λv s1 ⟨x,H1,I1,r1,q1⟩=>⟨σ,H1,I1,q1⟩) I.quiet hs
def Nb(te:TE):TS:=λD σ H=>te σ H D.rt
def JZ(he:PE X e te):PS X (.Return (some e) pos) (Nb te):=by
 intro XI s σ H D I h;exact LB<|aD (he XI s σ H _ I h) λv s1 ⟨x,H1,I1,r1,q1⟩=>⟨x,σ,H1,I1,r1,q1⟩
def Na(c:TT)(t u:TS):TS:=λD σ H=>c σ H λb H1=>if b=true then t D σ H1 else u D σ H1
def gj(hc:PT X c tc)(ha:aV X a t)(hb:aV X b u):PS X (.If c a b pos) (Na tc t u):=by
 intro XI s σ H D I h;refine wpAny_If<|aD (hc XI s σ H _ I h) λd s1 ⟨H1,I1,q1⟩=>?_;cases d with
 |true=>exact ha XI s1 σ H1 D I1 q1
 |false=>exact hb XI s1 σ H1 D I1 q1
end
abbrev TG:=V->St->Hp->(St->Hp->Prop)->Prop
abbrev wM:=List V->St->Hp->(St->Hp->Prop)->Prop
def PG(X:Cx)(target:Zm)(t:TG):Prop:=
 ∀(XI:List (Xb×Xo))(s:Xe)(σ:St)(H:Hp)(v:V)(u:Xd)(Q:St->Hp->Prop),Inv X XI σ H s->RelV v u->t v σ H Q ->
  Xi (Xg X.prog X.w) X.A (assign target X.env u) (λ_ s'=>∃σ' H',Inv X XI σ' H' s'/\Q σ' H') X.xe s
def BC(X:Cx)(ts:List Zm)(t:wM):Prop:=
 ∀(XI:List (Xb×Xo))(s:Xe)(σ:St)(H:Hp)(vs:List V)(us:List Xd)(Q:St->Hp->Prop),Inv X XI σ H s->ai vs us->t vs σ H Q ->
  Xi (Xg X.prog X.w) X.A (assignInOrder ((Xv ts X.env).map (·.2)) us) (λ_ s'=>∃σ' H',Inv X XI σ' H' s'/\Q σ' H') X.xe s
abbrev uz:=V->V->V->Hp->(Hp->Prop)->Prop
def MR(X:Cx)(t:uz):Prop:=
 ∀(XI:List (Xb×Xo))(s:Xe)(σ:St)(H:Hp)(o i v:V)(ov iv u:Xd)(Q:Hp->Prop),Inv X XI σ H s->RelV o ov->RelV i iv->RelV v u->t o i v H Q ->
  Xi (Xg X.prog X.w) X.A (XE ov iv u) (λ_ s'=>∃H',Inv X XI σ H' s'/\Q H') X.xe s
abbrev CG:=V->V->Hp->VK->Prop
def mI(X:Cx)(op:Operator)(t:CG):Prop:=
 ∀(XI:List (Xb×Xo))(s:Xe)(σ:St)(H:Hp)(x y:V)(v u:Xd)(Q:VK),Inv X XI σ H s->RelV x v->RelV y u->t x y H Q ->
  Xi (Xg X.prog X.w) X.A (inplaceOp op v u) (EP X XI σ Q) X.xe s
section
variable{X:Cx}{pos:Pos}
def Yj(i:Nat):TG:=λv σ H Q=>Q (σ.set i<|some v) H
def YF(hN:X.N.Nodup)(hi:X.N[i]? = some x)(hx:Loc X.env.scope x)(hf:X.fn x=true∨X.env.scope.names.lookup x=some .local:=by first | exact .inl rfl | exact .inr rfl | assumption):PG X (.Name x pos) (Yj i):=by
 intro XI s σ H v u Q I r h;exact QCS<|xV I hN hi hx r (λs' I'=>⟨_,H,I',h⟩) hf
def Bu:wM:=λvs σ H Q=>vs=[]/\Q σ H
def rG(t:TG)(u:wM):wM:=λvs σ H Q=>∃v r,vs=v::r/\t v σ H λσ' H'=>u r σ' H' Q
def pK:BC X [] Bu:=by
 intro XI s σ H vs us Q I r h;obtain⟨e,h⟩:=h;subst e;cases r;exact QCW ⟨σ,H,I,h⟩
def Zz(h1:PG X e t)(h2:BC X es u)
  (hs:(Xv (e::es) X.env).map (·.2)=assign e X.env::(Xv es X.env).map (·.2):=by rfl):BC X (e::es) (rG t u):=by
 intro XI s σ H vs us Q I r h;obtain⟨v,vr,e1,h⟩:=h;subst e1;cases r with
 |cons r rr=>
  rw[hs];exact LR<|aD (h1 XI s σ H _ _ _ I r h) λ_ s1 ⟨σ1,H1,I1,q1⟩=>(h2 XI s1 σ1 H1 _ _ Q I1 rr q1)
def Bv(K:Ws)(n:Nat)(t:wM):TG:=λv σ H Q=>∃a xs,v=.ref a/\aM K H a xs/\xs.length=n/\t xs σ H Q
def pC(hc:X.calm=true)(h:BC X es t)
  (hn:(Xv es X.env).length=n:=by rfl)(fJ:(Xv es X.env).findIdx? (·.1)=none:=by rfl):PG X (.Tuple es k pos) (Bv X.K n t):=by
 intro XI s σ H v u Q I r hw;obtain⟨a,xs,e1,hq,hl,hw⟩:=hw;subst e1;cases r;obtain⟨ah,rv,ht,hz⟩:=I.tuple hq;refine assign_Tuple_tuple (I.ok.hd hc) ht (by simp[hn,<- hl,rv.length]) fJ λh' hx=>?_
 have I1:=I.kept (t':=s.toks) λb o e=>hx b o (QZ<|Qr e) e
 exact h XI _ σ H xs _ Q I1 (by simpa using rv) hw
def oR(to ti:TE)(t:uz):TG:=λv σ H Q=>to σ H λo H1=>ti σ H1 λi H2=>t o i v H2 λH3=>Q σ H3
def C9(ho:PE X o to)(hi:PE X i ti)(hs:MR X t)
  (ha:∀v,assign (.Subscript o i pos) X.env v=(do
   let ov <- Xs [v] (eval o X.env)
   let iv <- Xs [v,ov] (eval i X.env)
   Xw pos
   Xs [v,ov,iv] (XE ov iv v)
   release [v,ov,iv] []):=by intro _;rfl):PG X (.Subscript o i pos) (oR to ti t):=by
 intro XI s σ H v u Q I r h;refine Xa<|ZE<|aD (ho XI s σ H _ I h) λov s1 ⟨x,H1,I1,r1,q1⟩=>(Xa<|ZE<|aD (hi XI s1 σ H1 _ I1 q1) λiv s2 ⟨y,H2,I2,r2,q2⟩=>?_);exact Xa<|wpAny_standAt<|Xa<|ZE<|aD (hs XI s2 σ H2 x y v ov iv u _ I2 r1 r2 r q2) λ_ s3 ⟨H3,I3,q3⟩=>(wpAny_release ⟨σ,H3,I3,q3⟩)
def fU(te:TE)(g:TG):TS:=λD σ H=>te σ H λx H1=>g x σ H1 D.nx
def n8(he:PE X e te)(hg:PG X tg g)(hs:swapsWithSole [tg] e pos.line X.env=pure false:=by rfl)(hw:swappedStores [tg] e X.env=pure none:=by rfl)
  (h1:(Xv [tg] X.env).map (·.2)=[assign tg X.env]:=by rfl):PS X (.Assign [tg] e pos) (fU te g):=by
 intro XI s σ H D I h;refine wpAny_Assign_stores (aD (he XI s σ H _ I h) λv s1 ⟨x,H1,I1,r1,q1⟩=>?_) hs hw;rw[h1];exact aD (hg XI s1 σ H1 x v _ I1 r1 q1) λ_ s2 q=>q
def ir(hN:X.N.Nodup)(hi:X.N[i]? = some x)(hx:Loc X.env.scope x)(he:PE X e te)(hs:Xt e (some<|.Name x pos') pos.line X.env=pure false:=by rfl)(hf:X.fn x=true∨X.env.scope.names.lookup x=some .local:=by first | exact .inl rfl | exact .inr rfl | assumption) :
  PS X (.Assign [.Name x pos'] e pos) (fU te<|Yj i):=by
 intro XI s σ H D I h;exact wpAny_Assign_Name (aD (he XI s σ H _ I h) λv s1 ⟨y,H1,I1,r1,q1⟩=>(xV I1 hN hi hx r1 (λs2 I2=>⟨_,H1,I2,q1⟩) hf)) hs
def QEF(i j:Nat)(ta:TA):TS:=λD σ H=>ta σ H λvs H1=>∃v w,vs=[v,w]/\D.nx ((σ.set i<|some v).set j<|some w) H1
def QAa{kt k2 sZ}(hc:X.calm=true)(hN:X.N.Nodup)(hi:X.N[i]? = some x)(hj:X.N[j]? = some y)(uc:i≠j)
  (hx:X.env.scope.names.lookup x=some .local)(hy:X.env.scope.names.lookup y=some .local)(ha:PA X [a,b] ta)
  (hw:swappedStores [.Tuple [.Name x px,.Name y py] kt pt] (.Tuple [a,b] k2 sZ) X.env=pure (some [x,y]))
  (hs:swapsWithSole [.Tuple [.Name x px,.Name y py] kt pt] (.Tuple [a,b] k2 sZ) pos.line X.env=pure false:=by rfl) :
  PS X (.Assign [.Tuple [.Name x px,.Name y py] kt pt] (.Tuple [a,b] k2 sZ) pos) (QEF i j ta):=by
 intro XI s σ H D I h;refine Xa<|wpAny_standAt ?_;refine Xa<|Qg ?_;refine Xa<|Tuple_<|aD (ha _ XI s σ H _ I h) λus s1 ⟨vs,H1,I1,r1,q1⟩=>?_;obtain⟨v,w,e1,q1⟩:=q1;subst e1;obtain⟨u1,u2,rfl,rv,gr⟩:∃u1 u2,us=[u1,u2]/\RelV v u1/\RelV w u2:=by
  cases r1 with
  |cons p q=>
   cases q with
   |cons p' q'=>
    cases q';exact⟨_,_,rfl,p,p'⟩
 refine JC ?_ (by show 2<=Xj;decide)
 have I2:Inv X XI σ H1 { s1 with heap:=s1.heap.push { cls:=.type "tuple",data:=.seq [u1,u2].toArray } }:=I1.kept λb o e=>Qf _ e
 rw[hw];refine Xa<|Qg ?_;refine Xa<|wpAny_rule<|Xa<|unpackItems_tuple (items:=#[u1,u2]) (I.ok.hd hc) (IsTup.new s1.heap _) λh' iG=>?_;have I3:=I2.kept (t':=s1.toks) λb o e=>iG b o (QZ<|Qr e) e
 refine Xa<|LR<|wpAny_bindName<|xV I3 hN hj (.inl hy) gr (λs2 I4=>(LR<|wpAny_bindName<|xV I4 hN hi (.inl hx) rv (λs3 I5=>QCW<|Qg ?_)<|.inr hx))<|.inr hy;rw[List.set_comm _ _<|iM uc] at I5;exact⟨_,H1,I5,q1⟩
def QEG(i:Nat)(te:TE)(ti:CG):TS:=λD σ H=>∃x,σ[i]? = some (some x)/\te σ H λy H1=>ti x y H1 λz H2=>D.nx (σ.set i<|some z) H2
def QAb(hN:X.N.Nodup)(hi:X.N[i]? = some x)(hx:Loc X.env.scope x)(he:PE X e te)(ho:mI X op ti)(hf:X.fn x=true∨X.env.scope.names.lookup x=some .local:=by first | exact .inl rfl | exact .inr rfl | assumption) :
  PS X (.AugAssign (.Name x pos') op e pos) (QEG i te ti):=by
 intro XI s σ H D I h;obtain⟨v,e1,h⟩:=h;obtain⟨m,hn,hl⟩:=I.loc;have vis:gU X.env.scope x:=by rcases hx with k | k;exact .inl k;exact .inr<|.inl k
 obtain⟨u,r,l⟩:=hl i x v hi e1 vis;refine wpAny_AugAssign_Name ?_
 have go:Xi (Xg X.prog X.w) X.A (eval e X.env) (λw s₂=>Xi (Xg X.prog X.w) X.A (inplaceOp op u w) (λr s₃=>Xi (Xg X.prog X.w) X.A (storeName X.env x r) (λ_=>SP X XI D .next) X.xe s₃) X.xe s₂) X.xe s:=by
  refine aD (he XI s σ H _ I h) λw s1 ⟨y,H1,I1,r1,q1⟩=>(aD (ho XI s1 σ H1 v y u w _ I1 r r1 q1) λz s2 ⟨zv,H2,I2,r2,q2⟩=>?_)
  exact xV I2 hN hi hx r2 (λs3 I3=>⟨_,H2,I3,q2⟩) hf
 rcases l with⟨hk,hm⟩ | ⟨hk,c,hc,jA⟩
 ·exact PN I.ok.kind hk hn hm go
 ·rcases hk with hk | hk
  ·exact PV I.ok.kind hk hc jA go
  ·rcases hx with k | k
   ·have:X.env.scope.names.lookup x=some .free:=hk;rw[k] at this;cases this
   ·have:X.env.scope.names.lookup x=some .free:=hk;rw[k] at this;cases this
def OT(to ti te:TE)(sN:V->V->Hp->VK->Prop)(Fz:CG)(sL:uz):TS:=λD σ H=>to σ H λo H1=>ti σ H1 λi H2=>sN o i H2 λx H3=>te σ H3 λy H4=>Fz x y H4 λz H5=>sL o i z H5 λH6=>D.nx σ H6
def QFm(X:Cx)(t:V->V->Hp->VK->Prop):Prop:=
 ∀(XI:List (Xb×Xo))(s:Xe)(σ:St)(H:Hp)(o i:V)(ov iv:Xd)(Q:VK),Inv X XI σ H s->RelV o ov->RelV i iv->t o i H Q ->
  Xi (Xg X.prog X.w) X.A (XA ov iv) (EP X XI σ Q) X.xe s
def Qwz(ho:PE X o to)(hi:PE X i ti)(hg:QFm X sN)(he:PE X e te)(hp:mI X op Fz)(hs:MR X sL)
  (ha:∀ov iv new,augStore i ov iv new=(do Xs [new,ov,iv] (XE ov iv new);release [new,ov,iv] [];pure .next):=by intros;rfl):PS X (.AugAssign (.Subscript o i cM) op e pos) (OT to ti te sN Fz sL):=by
 intro XI s σ H D I h;refine wpAny_AugAssign_SubscriptAny (aD (ho XI s σ H _ I h) λov s1 ⟨x1,H1,I1,r1,q1⟩=>(aD (hi XI s1 σ H1 _ I1 q1) λiv s2 ⟨x2,H2,I2,r2,q2⟩=>?_)) ha;refine aD (hg XI s2 σ H2 x1 x2 ov iv _ I2 r1 r2 q2) λold s3 ⟨x3,H3,I3,r3,q3⟩=>(aD (he XI s3 σ H3 _ I3 q3) λv s4 ⟨x4,H4,I4,r4,q4⟩=>?_)
 exact aD (hp XI s4 σ H4 x3 x4 old v _ I4 r3 r4 q4) λnew s5 ⟨x5,H5,I5,r5,q5⟩=>(aD (hs XI s5 σ H5 x1 x2 x5 ov iv new _ I5 r1 r2 r5 q5) λ_ s6 ⟨H6,I6,q6⟩=>⟨σ,H6,I6,q6⟩)
def Gs(f:Int->Int->Int):CG:=λx y H Q=>∃i j,x=.int i/\y=.int j/\Q (.int<|f i j) H
def Rg:mI X .Add (Gs λi j=>i+j):=by
 intro XI s σ H x y v u Q I r1 r2 h;obtain⟨i,j,e1,e2,q⟩:=h;subst e1;subst e2;obtain⟨t,rfl⟩:=r1;obtain⟨t',rfl⟩:=r2;exact iadd_int ⟨.int _,H,I.tok _,⟨_,rfl⟩,q⟩
def QBj:mI X .Sub (Gs λi j=>i - j):=by
 intro XI s σ H x y v u Q I r1 r2 h;obtain⟨i,j,e1,e2,q⟩:=h;subst e1;subst e2;obtain⟨t,rfl⟩:=r1;obtain⟨t',rfl⟩:=r2;exact isub_int ⟨.int _,H,I.tok _,⟨_,rfl⟩,q⟩
def Qzr(c:TT)(tb:TS):TS:=λD σ H=>∃W:Nat->St->Hp->Prop,(∃m,W m σ H)/\∀m σ H,W m σ H ->
 c σ H λb H1=>if b=true then ∃N:St->Hp->Prop,(∀σ' H',N σ' H'->∃m',m'<m/\W m' σ' H')/\tb { D with nx:=N,ct:=N,bk:=D.nx } σ H1 else D.nx σ H1
def Qsa(hp:xC (Xg X.prog X.w) X.A X.env X.xe)(hc:PT X c tc)(hb:aV X body tb):PS X (.While c body [] pos) (Qzr tc tb):=by
 intro XI s σ H D I h;obtain⟨W,⟨m0,w0⟩,turn⟩:=h;refine wpAny_While<|codeAny_whileLoop (λn s'=>∃σ' H',Inv X XI σ' H' s'/\W n σ' H') ?_ m0 ⟨σ,H,I,w0⟩;rintro n s1 ⟨σ1,H1,I1,w1⟩;refine vt hp<|aD (hc XI s1 σ1 H1 _ I1<|turn n σ1 H1 w1) λb s2 ⟨H2,I2,q2⟩=>?_;cases b with
 |true=>
  obtain⟨N,hN,q2⟩:=q2;refine vt hp<|aD (hb XI s2 σ1 H2 _ I2 q2) λf s3 q3=>?_;cases f with
  |next=>
   obtain⟨σ3,H3,I3,n3⟩:=q3;obtain⟨m',hm,w3⟩:=hN σ3 H3 n3;exact⟨m',hm,σ3,H3,I3,w3⟩
  |cont=>
   obtain⟨σ3,H3,I3,n3⟩:=q3;obtain⟨m',hm,w3⟩:=hN σ3 H3 n3;exact⟨m',hm,σ3,H3,I3,w3⟩
  |brk=>exact q3
  |ret v=>exact q3
 |false=>
  exact yi ⟨σ1,H2,I2,q2⟩
end
structure It where
 go:Nat->Hp->Prop
 ow:Nat->Hp->V->Hp->Prop
 stop:Nat->Hp->Prop
def bB(X:Cx)(XI:List (Xb×Xo))(H:Hp)(b:Xb):Prop:=
 H b=none/\b≠X.env.locals/\b∉X.fs/\(b∈X.ex∨X.s₀.heap.objs.size<=b)/\(∀x c,X.env.cells.lookup x=some c->c≠b)/\∀p∈X.pn++XI,p.1≠b
def Inv.h_(I:Inv X XI σ H s)(hb:s.heap.objs.size<=b)(hn:H' b=none):bB X XI H' b:=by
 refine⟨hn,DR<|Q2 I.lt hb,I.Gb hb,.inr<|QK I.sz hb,λx c e z=>?_,λp hp z=>?_⟩
 ·obtain⟨v,q⟩:=I.cell x c e;exact Z_ (Q2 q.lt (by rw[z];exact hb))<|ZT _
 ·exact Z_ (Q2 (Qr (I.pin p hp).1) (by rw[z];exact hb))<|ZT _
structure Turn (P:QB) (w:Jh) (K:Ws) (tg:Zm) (J:It) (fp:List Xb) (it:Xb) (tn:Nat->ZF->Prop):Prop where
 mem:it∈fp
 obj:∀i h,tn i h->∀b∈fp,∃o,h.get? b=some o/\∀v,o.data≠.cell v
 keep:∀i h h',tn i h->(∀b∈fp,∀o,h.get? b=some o->h'.get? b=some o)->tn i h'
 item:∀(X:Cx),X.prog=P->X.w=w->X.K=K->X.calm=true->∀(i:Nat)(XI:List (Xb×Xo))(s:Xe)(σ:St)(H:Hp)(E:Xd->Xe->Prop),Inv X XI σ H s->(∀b∈fp,bB X XI H b)->tn i s.heap->J.go i H ->
  Xi (Xg P w) X.A (pyNext<|.ref it) (λr s1=>∃u,r=some u /\
   Xi (Xg P w) X.A (letOwnedTupleGo tg (.ref it) u) (λ_ s2=>∃x H',Inv X XI σ H' s2/\RelV x u/\J.ow i H x H'/\tn (i+1) s2.heap/\∀b∈fp,H' b=none) E s1) E s
 done:∀(X:Cx),X.prog=P->X.w=w->X.K=K->X.calm=true->∀(i:Nat)(XI:List (Xb×Xo))(s:Xe)(σ:St)(H:Hp)(E:Xd->Xe->Prop),Inv X XI σ H s->(∀b∈fp,bB X XI H b)->tn i s.heap->J.stop i H ->
  Xi (Xg P w) X.A (pyNext<|.ref it) (λr s1=>r=none/\Inv X XI σ H s1) E s
 self:∀(A:Jo)(i:Nat)(s:Xe)(Q:Xd->Xe->Prop)(E:Xd->Xe->Prop),tn i s.heap->Q (.ref it) s->Xi (Xg P w) A (pyIter<|.ref it) Q E s
abbrev TI:=St->Hp->(It->Hp->Prop)->Prop
def PIE(X:Cx)(XI:List (Xb×Xo))(σ:St)(tg:Zm)(R:It->Hp->Prop)(nq:Xd)(s2:Xe):Prop:=
 ∃(it:Xb)(fp:List Xb)(tn:Nat->ZF->Prop)(J:It)(H':Hp),nq=.ref it/\Inv X XI σ H' s2/\Turn X.prog X.w X.K tg J fp it tn/\tn 0 s2.heap/\(∀b∈fp,bB X XI H' b)/\R J H'
def PI(X:Cx)(tg iter:Zm)(wi:TI):Prop:=
 ∀(XI:List (Xb×Xo))(s:Xe)(σ:St)(H:Hp)(R:It->Hp->Prop),Inv X XI σ H s->wi σ H R ->
  Xi (Xg X.prog X.w) X.A (eval iter X.env) (λv s1=>Xi (Xg X.prog X.w) X.A (pyIter v) (PIE X XI σ tg R) X.xe s1) X.xe s
def wZ(ho:s.heap.get? it=some o)(hc:o.cls=.type n)(hd:o.data=.fields vs)
  (hn:["enumerate", "zip", "dict_itemiterator", "dict_reverseitemiterator", "odict_iterator", "itertools.zip_longest", "itertools.pairwise"].contains n=false)(hQ:Q () s):Xi M A (letOwnedTupleGo tg (.ref it) u) Q E s:=by
 cases tg<;>first
  |exact Qg hQ
  |(cases u<;>first
    |exact Qg hQ
    |(refine Xa (wpAny_load ho ?_)
      rw[hc,hd];show Xi M A (if(["enumerate", "zip", "dict_itemiterator", "dict_reverseitemiterator", "odict_iterator", "itertools.zip_longest", "itertools.pairwise"].contains n&&vs[0]? == some (rawInt _))=true then _ else _) Q E s;rw[X8 (by intro h;rw[hn] at h;cases h)];exact Qg hQ))
def Nn(K:Ws)(a:Xb):It:=
 ⟨λi H=>∃xs x,aA K H a xs/\xs[i]? = some x,λi H x H'=>H'=H/\∀xs,aA K H a xs->xs[i]? = some x,λi H=>∃xs,aA K H a xs/\xs.length<=i⟩
def yn(K:Ws)(a:Xb):It:=
 ⟨λi H=>∃xs x,aM K H a xs/\xs[i]? = some x,λi H x H'=>H'=H/\∀xs,aM K H a xs->xs[i]? = some x,λi H=>∃xs,aM K H a xs/\xs.length<=i⟩
def vz(lo:Int)(n:Nat):It:=⟨λi _=>i<n,λi H x H'=>H'=H/\x=.int (lo+i),λi _=>n<=i⟩
def Qnj{K:Ws}(a it:Xb):Turn P w K tg (Nn K a) [it] it (λi h=>h.IsListIter it a i) where
 mem:=by simp
 obj:=λi h st b hb=>by
  have e:b=it:=by simpa using hb
  subst e;obtain⟨o,e,c,d⟩:=st;exact⟨o,e,λv z=>by rw[d] at z;cases z⟩
 keep:=λi h h' st k=>st.at λo e=>k it (by simp) o e
 item:=by
  intro X hP hw hK hc i XI s σ H E I hf st hg;subst hP hw hK;obtain⟨xs,x,hq,hx⟩:=hg;obtain⟨ah,rv,p,hz⟩:=I.list hq;obtain⟨u,hu,ru⟩:=rv.get hx;obtain⟨f0,f1,f2,f3,f4,f5⟩:=hf it (by simp);refine wpAny_pyNext_list_item st p.isList (by simpa using hu) λh' bH sb=>?_
  have I1:=I.turned (t':=s.toks) (λb o hb e=>(sb.2 b hb).trans e) f0 f1 f3 f4 f5;obtain⟨o,e,c,d⟩:=id bH;exact⟨u,rfl,wZ e c d (by decide) ⟨x,H,I1,ru,⟨rfl,λys hy=>by rw[I.lG hy hq];exact hx⟩,bH,λb hb=>(hf b hb).1⟩⟩
 done:=by
  intro X hP hw hK hc i XI s σ H E I hf st hg;subst hP hw hK;obtain⟨xs,hq,hx⟩:=hg;obtain⟨ah,rv,p,hz⟩:=I.list hq;obtain⟨f0,f1,f2,f3,f4,f5⟩:=hf it (by simp);have hl:=rv.length;exact wpAny_pyNext_list_end (I.ok.hd hc) st p.isList (by simp;omega) λh' eb=>⟨rfl,I.turned (λb o hb e=>eb b o hb e) f0 f1 f3 f4 f5⟩
 self:=λ_ _ _ _ _ st h=>wpAny_pyIter_listiter st h
def QlQ{K:Ws}(a it:Xb):Turn P w K tg (yn K a) [it] it (λi h=>h.IsTupleIter it a i) where
 mem:=by simp
 obj:=λi h st b hb=>by
  have e:b=it:=by simpa using hb
  subst e;obtain⟨o,e,c,d⟩:=st;exact⟨o,e,λv z=>by rw[d] at z;cases z⟩
 keep:=λi h h' st k=>st.at λo e=>k it (by simp) o e
 item:=by
  intro X hP hw hK hc i XI s σ H E I hf st hg;subst hP hw hK;obtain⟨xs,x,hq,hx⟩:=hg;obtain⟨ah,rv,p,hz⟩:=I.tuple hq;obtain⟨u,hu,ru⟩:=rv.get hx;obtain⟨f0,f1,f2,f3,f4,f5⟩:=hf it (by simp);refine wpAny_pyNext_tuple_item st (p) (by simpa using hu) λh' bH sb=>?_
  have I1:=I.turned (t':=s.toks) (λb o hb e=>(sb.2 b hb).trans e) f0 f1 f3 f4 f5;obtain⟨o,e,c,d⟩:=id bH;exact⟨u,rfl,wZ e c d (by decide) ⟨x,H,I1,ru,⟨rfl,λys hy=>by rw[I.jX hy hq];exact hx⟩,bH,λb hb=>(hf b hb).1⟩⟩
 done:=by
  intro X hP hw hK hc i XI s σ H E I hf st hg;subst hP hw hK;obtain⟨xs,hq,hx⟩:=hg;obtain⟨ah,rv,p,hz⟩:=I.tuple hq;obtain⟨f0,f1,f2,f3,f4,f5⟩:=hf it (by simp);have hl:=rv.length;exact wpAny_pyNext_tuple_end (I.ok.hd hc) st (p) (by simp;omega) λh' eb=>⟨rfl,I.turned (λb o hb e=>eb b o hb e) f0 f1 f3 f4 f5⟩
 self:=λ_ _ _ _ _ st h=>wpAny_pyIter_tupleiter st h
def QlR{K:Ws}(it:Xb)(lo:Int)(n:Nat):Turn P w K tg (vz lo n) [it] it (λi h=>HE h it (lo+(i:Nat)*1) ((n:Int) - (i:Nat)) 1) where
 mem:=by simp
 obj:=λi h st b hb=>by
  have e:b=it:=by simpa using hb
  subst e;exact⟨_,st,λv z=>by
   have z':=z;cases z'⟩
 keep:=λi h h' st k=>k it (by simp) _ st
 item:=by
  intro X hP hw hK hc i XI s σ H E I hf st hg;subst hP hw hK;obtain⟨f0,f1,f2,f3,f4,f5⟩:=hf it (by simp);have W:=QCX (prog:=X.prog) (w:=X.w) (I.ok.hd hc) it lo 1 n;refine W.item i s _ _ hg st λv h' tk hv bH kk=>?_
  obtain⟨t,rfl⟩:=hv;have I1:Inv X XI σ H { s with heap:=h',toks:=tk }:=I.turned (λb o hb e=>kk b o (by simpa using hb) e) f0 f1 f3 f4 f5;refine⟨_,rfl,wZ bH rfl rfl (by decide) ⟨.int<|lo+i,H,I1,⟨t,?_⟩,⟨rfl,rfl⟩,bH,λb hb=>(hf b hb).1⟩⟩;rw[Int.mul_one]
 done:=by
  intro X hP hw hK hc i XI s σ H E I hf st hg;obtain⟨f0,f1,f2,f3,f4,f5⟩:=hf it (by simp);exact S7 (I.ok.hd hc) st (by have:n<=i:=hg;omega) λh' eb=>⟨rfl,I.turned (λb o hb e=>eb b o hb e) f0 f1 f3 f4 f5⟩
 self:=λ_ _ _ _ _ st h=>Mm st h
end L2
set_option genInjectivity false


namespace L2
section
variable{X:Cx}{tg:Zm}
def QD8(K:Ws)(tl:TE):TI:=λσ H R=>tl σ H λx H1=>∃a,x=.ref a/\(∃xs,aA K H1 a xs)/\R (Nn K a) H1
def QE0(K:Ws)(tl:TE):TI:=λσ H R=>tl σ H λx H1=>∃a,x=.ref a/\(∃xs,aM K H1 a xs)/\R (yn K a) H1
def AV(hl:PE X l tl):PI X tg l (QD8 X.K tl):=by
 intro XI s σ H R I h;refine aD (hl XI s σ H _ I h) λv s1 ⟨x,H1,I1,r1,q1⟩=>?_
 obtain⟨a,e,⟨xs,hq⟩,q⟩:=q1;subst e;cases r1;obtain⟨ah,rv,p,hz⟩:=I1.list hq;refine LC p.isList ?_
 refine⟨s1.heap.objs.size,[s1.heap.objs.size],_,_,H1,rfl,I1.kept λb o e=>Qf _ e,Qnj a _,⟨_,Qs _ rfl,rfl,rfl⟩,λb hb=>?_,q⟩;have e:b=s1.heap.objs.size:=by simpa using hb
 subst e;exact I1.h_ (Qd _)<|I1.ar.fresh<|Qd _
def C_(hl:PE X l tl):PI X tg l (QE0 X.K tl):=by
 intro XI s σ H R I h;refine aD (hl XI s σ H _ I h) λv s1 ⟨x,H1,I1,r1,q1⟩=>?_
 obtain⟨a,e,⟨xs,hq⟩,q⟩:=q1;subst e;cases r1;obtain⟨ah,rv,p,hz⟩:=I1.tuple hq;refine ED (p) ?_
 refine⟨s1.heap.objs.size,[s1.heap.objs.size],_,_,H1,rfl,I1.kept λb o e=>Qf _ e,QlQ a _,⟨_,Qs _ rfl,rfl,rfl⟩,λb hb=>?_,q⟩;have e:b=s1.heap.objs.size:=by simpa using hb
 subst e;exact I1.h_ (Qd _)<|I1.ar.fresh<|Qd _
def Qr5{lo:Int}(I:Inv X XI σ H s)(h1 : -(2^62)<=lo)(h2:lo<2^62)(h3 : -(2^62)<=hi)(h4:hi<2^62)
  (q:R (vz lo (hi - lo).toNat) H):Xi (Xg X.prog X.w) X.A (pyIter<|.ref s.heap.objs.size) (PIE X XI σ tg R) E { s with heap:=s.heap.push { cls:=.type "range",data:=.fields #[.int lo t,.int hi u,.int 1 v] },toks:=tk }:=by
 refine wpAny_pyIter_range (IsRange.new ..) (small_one h1 h2 h3 h4) ?_
 have I1:Inv X XI σ H { s with heap:=s.heap.push { cls:=.type "range",data:=.fields #[.int lo t,.int hi u,.int 1 v] },toks:=tk }:=I.kept λb o e=>Qf _ e
 refine⟨(s.heap.push { cls:=.type "range",data:=.fields #[.int lo t,.int hi u,.int 1 v] }).objs.size,[(s.heap.push { cls:=.type "range",data:=.fields #[.int lo t,.int hi u,.int 1 v] }).objs.size],_,_,H,rfl,
  I1.kept λb o e=>Qf _ e,QlR _ lo (hi - lo).toNat,?_,λb hb=>?_,q⟩
 ·have e1:lo+((0:Nat):Int)*1=lo:=by simp
  have e2:(((hi - lo).toNat:Nat):Int) - ((0:Nat):Int)=ZA lo hi 1:=by rw[IG];split<;>omega
  rw[e1,e2];exact Qs _ rfl
 ·have e:b=(s.heap.push { cls:=.type "range",data:=.fields #[.int lo t,.int hi u,.int 1 v] }).objs.size:=by simpa using hb
  subst e;exact I1.h_ (Qd _)<|I1.ar.fresh<|Qd _
def CJ(ta:TA):TI:=λσ H R=>ta σ H λvs H1=>∃j:Int,vs=[.int j] /\ -(2^62)<=j/\j<2^62/\R (vz 0 j.toNat) H1
def pO(hg:Gl X "range")(hm:X.mg "range" = none)(ha:PA X [a] ta)(hs:Xh [a] X.env=[(false,eval a X.env)]:=by rfl):PI X tg (.Call (.Name "range" p) [a] [] pos) (CJ ta):=by
 intro XI s σ H R I h;refine Call_<|rP I hg hm boot_range<|Zi (aD (ha pos XI s σ H _ I h) λus s1 ⟨vs,H1,I1,r1,q1⟩=>?_) hs rfl;obtain⟨j,e,q1,q2,q⟩:=q1;subst e;cases r1 with
 |cons r rr=>
  cases rr;obtain⟨t,rfl⟩:=r;exact call_range_1 (Qr5 I1 (by omega) (by omega) q1 q2<|by simpa using q)
def gp(wi:TI)(g:TG)(tb:TS):TS:=λD σ H=>wi σ H λJ H1=>∃W:Nat->Nat->St->Hp->Prop,(∃m,W 0 m σ H1)/\∀i m σ H,W i m σ H ->
 (J.stop i H/\D.nx σ H)∨(J.go i H/\∃N:St->Hp->Prop,(∀σ' H',N σ' H'->∃m',m'<m/\W (i+1) m' σ' H')/\∀x H',J.ow i H x H'->g x σ H' λσ2 H2=>tb { D with nx:=N,ct:=N,bk:=D.nx } σ2 H2)
def Dc(fp:List Xb)(h:ZF):List (Xb×Xo):=fp.filterMap λb=>(h.get? b).map λo=>(b,o)
def EC(hb:b∈fp)(e:h.get? b=some o):(b,o)∈Dc fp h:=Ms.mpr ⟨b,hb,by rw[e];rfl⟩
def QoZ(hp:p∈Dc fp h):p.1∈fp/\h.get? p.1=some p.2:=by
 obtain⟨b,hb,e⟩:=Ms.mp hp;cases q:h.get? b with
 |none=>rw[q] at e;cases e
 |some o=>
  rw[q] at e;have e':=QL e;subst e';exact⟨hb,q⟩
def Inv.pinned(I:Inv X XI σ H s)(hf:∀b∈fp,bB X XI H b)(ho:∀b∈fp,∃o,s.heap.get? b=some o/\∀v,o.data≠.cell v):Inv X (XI++Dc fp s.heap) σ H s:=
 I.ju λp hp=>(QP.mp hp).elim (λz=>I.pin p<|Jq _ z) λz=>by
  obtain⟨hb,e⟩:=QoZ z;obtain⟨f0,f1,f2,_⟩:=hf p.1 hb;obtain⟨o,e',d⟩:=ho p.1 hb;rw[e] at e';cases e';exact⟨e,f0,f1,f2,d⟩
def Inv.cL(I:Inv X (XI++pl) σ H s):Inv X XI σ H s:=I.ju λp hp=>I.pin p<|Jq _<|Zb _ hp
def rR(hp:xC (Xg X.prog X.w) X.A X.env X.xe)(hc:X.calm=true)(hi:PI X tg iter wi)(hg:PG X tg g)(hb:aV X body tb)
  (hs:∀x,Xn iter X.env x=pure x:=by intro _;rfl):PS X (.For tg iter body [] pos) (gp wi g tb):=by
 intro XI s σ H D I h;refine wpAny_For (aD (hi XI s σ H _ I h) λv s1 h1=>aD h1 λnq s2 h2=>?_) hs;obtain⟨it,fp,tn,J,H2,e,I2,T,iZ,f2,W,⟨m0,w0⟩,turn⟩:=h2;subst e;have iY:∀{H':Hp},(∀b∈fp,H' b=none)->∀b∈fp,bB X XI H' b:=λhn b hb=>⟨hn b hb,(f2 b hb).2⟩
 refine codeAny_forLoop_any (λn s'=>∃i σ' H',Inv X XI σ' H' s'/\tn i s'.heap/\(∀b∈fp,H' b=none)/\W i n σ' H') ?_ m0 ⟨0,σ,H2,I2,iZ,λb hb=>(f2 b hb).1,w0⟩
 rintro n s3 ⟨i,σ3,H3,I3,sO,zM,w3⟩;rcases turn i n σ3 H3 w3 with⟨stop,qn⟩ | ⟨go,N,hN,step⟩
 ·refine vt hp<|aD (T.done X rfl rfl rfl hc i XI s3 σ3 H3 X.xe I3 (iY zM) sO stop) λr s4 ⟨hr,I4⟩=>?_;subst hr;exact yi ⟨σ3,H3,I4,qn⟩
 ·refine vt hp<|aD (T.item X rfl rfl rfl hc i XI s3 σ3 H3 X.xe I3 (iY zM) sO go) λr s4 ⟨u,hr,h4⟩=>?_;subst hr;refine vt hp<|aD h4 λ_ s5 ⟨x,H5,I5,r5,y5,ky,G9⟩=>?_;have Np:=I5.pinned (iY G9)<|T.obj _ _ ky;refine vt hp<|aD (hg _ s5 σ3 H5 x u _ Np r5<|step x H5 y5) λ_ s6 ⟨σ6,H6,I6,q6⟩=>(vt hp<|aD (hb _ s6 σ6 H6 _ I6 q6) λf s7 q7=>?_);have again:∀{σ7:St}{H7:Hp},Inv X (XI++Dc fp s5.heap) σ7 H7 s7->N σ7 H7->∃m,m<n/\∃i σ' H',Inv X XI σ' H' s7/\tn i s7.heap/\(∀b∈fp,H' b=none)/\W i m σ' H':=λ{σ7 H7} I7 n7=>by
   obtain⟨m',hm,w7⟩:=hN σ7 H7 n7;refine⟨m',hm,i+1,σ7,H7,I7.cL,T.keep _ _ _ ky λb hb o e=>(I7.pin (b,o)<|Jq _<|Jq _<|EC hb e).1,λb hb=>?_,w7⟩;obtain⟨o,e,d⟩:=T.obj _ _ ky b hb;exact(I7.pin (b,o)<|Jq _<|Jq _<|EC hb e).2.1
  cases f with
  |next=>obtain⟨σ7,H7,I7,n7⟩:=q7;exact again I7 n7
  |cont=>obtain⟨σ7,H7,I7,n7⟩:=q7;exact again I7 n7
  |brk=>obtain⟨σ7,H7,I7,q7⟩:=q7;exact⟨σ7,H7,I7.cL,q7⟩
  |ret v=>obtain⟨x7,σ7,H7,I7,r7,q7⟩:=q7;exact⟨x7,σ7,H7,I7.cL,r7,q7⟩
end
def Qx9{K:Ws}{g:TG}{tb:TS}{D:Ends}(Pv:Nat->St->Hp->Prop)(h0:Pv 0 σ H)(hl:∀i σ H,i<=xs.length->Pv i σ H->aM K H a xs)
  (hs:∀i x σ H,xs[i]? = some x->Pv i σ H->g x σ H λσ2 H2=>tb { D with nx:=Pv<|i+1,ct:=Pv<|i+1,bk:=D.nx } σ2 H2)(hd:∀σ H,Pv xs.length σ H->D.nx σ H) :
  ∃W:Nat->Nat->St->Hp->Prop,(∃m,W 0 m σ H)/\∀i m σ H,W i m σ H ->
   ((yn K a).stop i H/\D.nx σ H)∨((yn K a).go i H/\∃N:St->Hp->Prop,(∀σ' H',N σ' H'->∃m',m'<m/\W (i+1) m' σ' H')/\∀x H',(yn K a).ow i H x H'->g x σ H' λσ2 H2=>tb { D with nx:=N,ct:=N,bk:=D.nx } σ2 H2):=by
 refine⟨λi m σ H=>m=xs.length - i/\i<=xs.length/\Pv i σ H,⟨xs.length,by simp,Q9 _,h0⟩,?_⟩;rintro i m σ H ⟨rfl,hi,p⟩;have q:=hl i σ H hi p;by_cases c_:i<xs.length
 ·refine .inr ⟨⟨xs,xs[i],q,by simp[c_]⟩,Pv<|i+1,λσ' H' p'=>⟨xs.length - (i+1),by omega,rfl,c_,p'⟩,λx H' y=>?_⟩;obtain⟨e,y⟩:=y;subst e;exact hs i x σ _ (y xs q) p
 ·have e:i=xs.length:=by omega
  subst e;exact .inl ⟨⟨xs,q,Qd _⟩,hd σ H p⟩
def Eo{lo:Int}{g:TG}{tb:TS}{D:Ends}(Pv:Nat->St->Hp->Prop)(h0:Pv 0 σ H)
  (hs:∀i σ H,i<n->Pv i σ H->g (.int<|lo+i) σ H λσ2 H2=>tb { D with nx:=Pv<|i+1,ct:=Pv<|i+1,bk:=D.nx } σ2 H2)(hd:∀σ H,Pv n σ H->D.nx σ H) :
  ∃W:Nat->Nat->St->Hp->Prop,(∃m,W 0 m σ H)/\∀i m σ H,W i m σ H ->
   ((vz lo n).stop i H/\D.nx σ H)∨((vz lo n).go i H/\∃N:St->Hp->Prop,(∀σ' H',N σ' H'->∃m',m'<m/\W (i+1) m' σ' H')/\∀x H',(vz lo n).ow i H x H'->g x σ H' λσ2 H2=>tb { D with nx:=N,ct:=N,bk:=D.nx } σ2 H2):=by
 refine⟨λi m σ H=>m=n - i/\i<=n/\Pv i σ H,⟨n,by simp,Q9 _,h0⟩,?_⟩;rintro i m σ H ⟨rfl,hi,p⟩;by_cases c_:i<n
 ·refine .inr ⟨c_,Pv<|i+1,λσ' H' p'=>⟨n - (i+1),by omega,rfl,c_,p'⟩,λx H' y=>?_⟩;obtain⟨e,y⟩:=y;subst e y;exact hs i σ _ c_ p
 ·have e:i=n:=by omega
  subst e;exact .inl ⟨Qd _,hd σ H p⟩
abbrev R2:=V->V->Hp->VK->Prop
def aI(X:Cx)(f:Xd->Xd->Sem Xd)(r:R2):Prop:=
 ∀(XI:List (Xb×Xo))(s:Xe)(σ:St)(H:Hp)(x y:V)(v u:Xd)(Q:VK),Inv X XI σ H s->RelV x v->RelV y u->r x y H Q ->
  Xi (Xg X.prog X.w) X.A (f v u) (EP X XI σ Q) X.xe s
def HC(X:Cx)(f:Xd->Sem Xd)(r:V->Hp->VK->Prop):Prop:=
 ∀(XI:List (Xb×Xo))(s:Xe)(σ:St)(H:Hp)(x:V)(v:Xd)(Q:VK),Inv X XI σ H s->RelV x v->r x H Q ->
  Xi (Xg X.prog X.w) X.A (f v) (EP X XI σ Q) X.xe s
def aG(X:Cx)(f:Xd)(r:List V->Hp->VK->Prop):Prop:=
 ∀(XI:List (Xb×Xo))(s:Xe)(σ:St)(H:Hp)(xs:List V)(us:List Xd)(Q:VK),Inv X XI σ H s->ai xs us->r xs H Q ->
  Xi (Xg X.prog X.w) X.A (call f us) (EP X XI σ Q) X.xe s
def QFX(X:Cx)(r:V->Hp->(Bool->Hp->Prop)->Prop):Prop:=
 ∀(XI:List (Xb×Xo))(s:Xe)(σ:St)(H:Hp)(x:V)(v:Xd)(Q:Bool->Hp->Prop),Inv X XI σ H s->RelV x v->r x H Q ->
  Xi (Xg X.prog X.w) X.A (XG v) (TP X XI σ Q) X.xe s
def cY(r:R2)(ta tb:TE):TE:=λσ H Q=>ta σ H λx H1=>tb σ H1 λy H2=>r x y H2 Q
def tUn(r:V->Hp->VK->Prop)(ta:TE):TE:=λσ H Q=>ta σ H λx H1=>r x H1 Q
def rI(C:Int->Int->Prop)(g:Int->Int->V):R2:=λx y H Q=>∃i j,x=.int i/\y=.int j/\C i j/\Q (g i j) H
def dU(g:Int->Int->V):R2:=λx y H Q=>∃i j,x=.int i/\y=.int j/\Q (g i j) H
def rU(g:Int->V):V->Hp->VK->Prop:=λx H Q=>∃i,x=.int i/\Q (g i) H
section
variable{X:Cx}{a b c:Zm}{ta tb tc:TE}{pos:Pos}
def MT(ha:PE X a ta)(hb:PE X b tb){R:V->V->Hp->Prop}(I:Inv X XI σ H s)
  (h:ta σ H λx H1=>tb σ H1 λy H2=>R x y H2){f:Xd->Xd->Sem Xd}
  (hf:∀v u s2 x y H2,Inv X XI σ H2 s2->RelV x v->RelV y u->R x y H2->Xi (Xg X.prog X.w) X.A (f v u) Q X.xe s2) :
  Xi (Xg X.prog X.w) X.A (eval a X.env) (λv s₁=>Xi (Xg X.prog X.w) X.A (eval b X.env) (λu s₂=>Xi (Xg X.prog X.w) X.A (f v u) Q X.xe s₂) X.xe s₁) X.xe s:=by
 refine aD (ha XI s σ H _ I h) λv s1 ⟨x,H1,I1,r1,q1⟩=>(aD (hb XI s1 σ H1 _ I1 q1) λu s2 ⟨y,H2,I2,r2,q2⟩=>?_)
 exact hf v u s2 x y H2 I2 r1 r2 q2
def YR(ho:aI X (Xr op) r)(ha:PE X a ta)(hb:PE X b tb):PE X (.BinOp a op b pos) (cY r ta tb):=by
 intro XI s σ H Q I h;exact wpAny_BinOp<|MT ha hb I h λv u s2 x y H2 I2 rx ry q=>ho XI s2 σ H2 x y v u Q I2 rx ry q
def rm(ho:HC X (unaryOp op) r)(ha:PE X a ta):PE X (.UnaryOp op a pos) (tUn r ta):=by
 intro XI s σ H Q I h;exact UnaryOp_<|aD (ha XI s σ H _ I h) λv s1 ⟨x,H1,I1,r1,q1⟩=>ho XI s1 σ H1 x v Q I1 r1 q1
def v_{g:Int->Int->Int}
  (rule:∀(i j:Int)(t u:Tok)(s:Xe)(Q:Xd->Xe->Prop)(E:Xd->Xe->Prop),C i j->Q (.int (g i j) s.toks) { s with toks:=s.toks+1 }->Xi (Xg X.prog X.w) X.A (f (.int i t)<|.int j u) Q E s) :
  aI X f (rI C λi j=>.int<|g i j):=by
 intro XI s σ H x y v u Q I rx ry h;obtain⟨i,j,rfl,rfl,hc,q⟩:=h;obtain⟨t,rfl⟩:=rx;obtain⟨t',rfl⟩:=ry;exact rule i j t t' s _ _ hc ⟨.int<|g i j,H,I.tok _,⟨_,rfl⟩,q⟩
def Fh{g:Int->Int->Int}
  (rule:∀(i j:Int)(t u:Tok)(s:Xe)(Q:Xd->Xe->Prop)(E:Xd->Xe->Prop),Q (.int (g i j) s.toks) { s with toks:=s.toks+1 }->Xi (Xg X.prog X.w) X.A (f (.int i t)<|.int j u) Q E s) :
  aI X f (dU λi j=>.int<|g i j):=by
 intro XI s σ H x y v u Q I rx ry h;obtain⟨i,j,rfl,rfl,q⟩:=h;obtain⟨t,rfl⟩:=rx;obtain⟨t',rfl⟩:=ry;exact rule i j t t' s _ _ ⟨.int<|g i j,H,I.tok _,⟨_,rfl⟩,q⟩
def Fg{g:Int->Int->Bool}
  (rule:∀(i j:Int)(t u:Tok)(s:Xe)(Q:Xd->Xe->Prop)(E:Xd->Xe->Prop),Q (.bool<|g i j) s->Xi (Xg X.prog X.w) X.A (f (.int i t)<|.int j u) Q E s) :
  aI X f (dU λi j=>.bl<|g i j):=by
 intro XI s σ H x y v u Q I rx ry h;obtain⟨i,j,rfl,rfl,q⟩:=h;obtain⟨t,rfl⟩:=rx;obtain⟨t',rfl⟩:=ry;exact rule i j t t' s _ _ ⟨.bl<|g i j,H,I,rfl,q⟩
def QFn(i j:Int):Prop:=0<=j/\j<=1000000/\i.natAbs<2^64
def ni(i j:Int):Prop:=(-(2^64)<i/\i<2^64)∨(-(2^64)<j/\j<2^64)
def ni.ok(h:ni i j):IntMulOk i j:=by
 rcases h with⟨h1,h2⟩ | ⟨h1,h2⟩
 ·exact .of_left<|intBits_le_64 h1 h2
 ·exact .of_right<|intBits_le_64 h1 h2
def pF:aI X (Xr .Add) (dU λi j=>.int<|i+j):=Fh λ_ _ _ _ _ _ _ q=>add_int q
def mn:aI X (Xr .Sub) (dU λi j=>.int<|i - j):=Fh λ_ _ _ _ _ _ _ q=>sub_int q
def xu:aI X (Xr .Mult) (rI ni λi j=>.int<|i*j):=v_ λ_ _ _ _ _ _ _ hc q=>mul_int q hc.ok
def Ap:aI X (Xr .Mod) (rI (λ_ j=>0<j) λi j=>.int<|i % j):=v_ λi j _ _ _ _ _ hc q=>by
 have h1:=hc;exact mod_int' (by omega) (by rw[Int.fmod_eq_emod_of_nonneg i<|by omega];exact q)
def IW:aI X (Xr .Pow) (rI QFn λi j=>.int (i^j.toNat)):=v_ λ_ _ _ _ _ _ _ hc q=>pow_int_small hc.1 hc.2.1 hc.2.2 q
def Dk:aI X (Xr .LShift) (rI QFn λi j=>.int<|i*2^j.toNat):=v_ λ_ _ _ _ _ _ _ hc q=>lshift_int_small hc.1 hc.2.1 hc.2.2 q
def QAI:aI X (Xr .BitAnd) (dU λi j=>.int<|Ei i j):=Fh λ_ _ _ _ _ _ _ q=>and_int q
def QDS:aI X (Xr .BitOr) (dU λi j=>.int<|LH i j):=Fh λ_ _ _ _ _ _ _ q=>or_int q
def unI{g:Int->Int}
  (rule:∀(i:Int)(t:Tok)(s:Xe)(Q:Xd->Xe->Prop)(E:Xd->Xe->Prop),Q (.int (g i) s.toks) { s with toks:=s.toks+1 }->Xi (Xg X.prog X.w) X.A (f<|.int i t) Q E s) :
  HC X f (rU λi=>.int<|g i):=by
 intro XI s σ H x v Q I rx h;obtain⟨i,rfl,q⟩:=h;obtain⟨t,rfl⟩:=rx;exact rule i t s _ _ ⟨.int<|g i,H,I.tok _,⟨_,rfl⟩,q⟩
def rT:HC X (unaryOp .USub) (rU λi=>.int<|-i):=unI λ_ _ _ _ _ q=>neg_int q
def QEI:V->V->Bool
 |.aH,.aH=>true | .aH,.int _=>true | .int _,.aH=>true | .aH,.bl _=>true | .bl _,.aH=>true | .aH,.str _=>true | .str _,.aH=>true
 |.int _,.int _=>true | .bl _,.bl _=>true | .str _,.str _=>true | .jG _,.jG _=>true
 |.int _,.str _=>true | .str _,.int _=>true | .bl _,.str _=>true | .str _,.bl _=>true
 |_,_=>false
def FU:R2:=λx y H Q=>QEI x y=true/\Q (.bl<|decide (x=y)) H
def NW:R2:=λx y H Q=>QEI x y=true/\Q (.bl<|!decide (x=y)) H
def T8:decide (V.int i=V.int j)=(i == j):=by
 rw[Jt];simp
def P0:decide (V.bl i=V.bl j)=(i == j):=by
 rw[Jt];simp
def T9:decide (V.str i=V.str j)=(i == j):=by
 rw[Jt];simp
def T7:decide (V.jG i=V.jG j)=(i.toList == j.toList):=by
 rw[Jt];cases i;cases j;simp
def ZI(I:Inv X XI σ H s)(q:Q (.bl k) H)(e:k=k'):EP X XI σ Q (.bool k') s:=by
 subst e;exact⟨.bl k,H,I,rfl,q⟩
def rj:aI X (Xl .Eq) FU:=by
 intro XI s σ H x y v u Q I rx ry h;obtain⟨hs,q⟩:=h;cases x with
 |aH=>
  cases rx;cases y with
  |aH=>cases ry;exact PySem.EqNone.eq_none_none (ZI I q<|by simp)
  |bl j=>cases ry;exact PySem.EqNone.eq_none_bool (ZI I q<|by simp)
  |int j=>obtain⟨t',rfl⟩:=ry;exact PySem.EqNone.eq_none_int (ZI I q<|by simp)
  |str j=>obtain⟨t',rfl⟩:=ry;exact PySem.EqNone.eq_none_str (ZI I q<|by simp)
  |_=>exact Z_ (hs) Qw
 |bl i=>
  cases rx;cases y with
  |aH=>cases ry;exact PySem.EqNone.eq_bool_none (ZI I q<|by simp)
  |bl j=>cases ry;exact eq_bool<|ZI I q P0
  |str j=>obtain⟨t',rfl⟩:=ry;exact PySem.EqMixed.eq_bool_str (ZI I q<|by simp)
  |_=>exact Z_ (hs) Qw
 |int i=>
  obtain⟨t,rfl⟩:=rx;cases y with
  |aH=>cases ry;exact PySem.EqNone.eq_int_none (ZI I q<|by simp)
  |int j=>obtain⟨t',rfl⟩:=ry;exact eq_int<|ZI I q T8
  |str j=>obtain⟨t',rfl⟩:=ry;exact PySem.EqMixed.eq_int_str (ZI I q<|by simp)
  |_=>exact Z_ (hs) Qw
 |str i=>
  obtain⟨t,rfl⟩:=rx;cases y with
  |aH=>cases ry;exact PySem.EqNone.eq_str_none (ZI I q<|by simp)
  |bl j=>cases ry;exact PySem.EqMixed.eq_str_bool (ZI I q<|by simp)
  |int j=>obtain⟨t',rfl⟩:=ry;exact PySem.EqMixed.eq_str_int (ZI I q<|by simp)
  |str j=>obtain⟨t',rfl⟩:=ry;exact eq_str<|ZI I q T9
  |_=>exact Z_ (hs) Qw
 |jG i=>
  obtain⟨t,rfl⟩:=rx;cases y with
  |jG j=>obtain⟨t',rfl⟩:=ry;exact PySem.W.eq_bytes<|ZI I q T7
  |_=>exact Z_ (hs) Qw
 |_=>cases y<;>exact Z_ (hs) Qw
def QAD:aI X (Xl .NotEq) NW:=by
 intro XI s σ H x y v u Q I rx ry h;obtain⟨hs,q⟩:=h;cases x with
 |aH=>
  cases rx;cases y with
  |aH=>cases ry;exact PySem.EqNone.ne_none_none (ZI I q<|by simp)
  |bl j=>cases ry;exact PySem.EqNone.ne_none_bool (ZI I q<|by simp)
  |int j=>obtain⟨t',rfl⟩:=ry;exact PySem.EqNone.ne_none_int (ZI I q<|by simp)
  |str j=>obtain⟨t',rfl⟩:=ry;exact PySem.EqNone.ne_none_str (ZI I q<|by simp)
  |_=>exact Z_ (hs) Qw
 |bl i=>
  cases rx;cases y with
  |aH=>cases ry;exact PySem.EqNone.ne_bool_none (ZI I q<|by simp)
  |bl j=>cases ry;exact ne_bool<|ZI I q<|congrArg not P0
  |str j=>obtain⟨t',rfl⟩:=ry;exact PySem.EqMixed.ne_bool_str (ZI I q<|by simp)
  |_=>exact Z_ (hs) Qw
 |int i=>
  obtain⟨t,rfl⟩:=rx;cases y with
  |aH=>cases ry;exact PySem.EqNone.ne_int_none (ZI I q<|by simp)
  |int j=>obtain⟨t',rfl⟩:=ry;exact ne_int<|ZI I q<|congrArg not T8
  |str j=>obtain⟨t',rfl⟩:=ry;exact PySem.EqMixed.ne_int_str (ZI I q<|by simp)
  |_=>exact Z_ (hs) Qw
 |str i=>
  obtain⟨t,rfl⟩:=rx;cases y with
  |aH=>cases ry;exact PySem.EqNone.ne_str_none (ZI I q<|by simp)
  |bl j=>cases ry;exact PySem.EqMixed.ne_str_bool (ZI I q<|by simp)
  |int j=>obtain⟨t',rfl⟩:=ry;exact PySem.EqMixed.ne_str_int (ZI I q<|by simp)
  |str j=>obtain⟨t',rfl⟩:=ry;exact ne_str<|ZI I q<|congrArg not T9
  |_=>exact Z_ (hs) Qw
 |jG i=>
  obtain⟨t,rfl⟩:=rx;cases y with
  |jG j=>obtain⟨t',rfl⟩:=ry;exact PySem.W.ne_bytes<|ZI I q<|congrArg not T7
  |_=>exact Z_ (hs) Qw
 |_=>cases y<;>exact Z_ (hs) Qw
def xi:aI X (Xl .Lt) (dU λi j=>.bl<|decide (i<j)):=Fg λ_ _ _ _ _ _ _ q=>lt_int q
def CW:aI X (Xl .LtE) (dU λi j=>.bl<|decide (i<=j)):=Fg λ_ _ _ _ _ _ _ q=>le_int q
def Il:aI X (Xl .Gt) (dU λi j=>.bl<|decide (j<i)):=Fg λ_ _ _ _ _ _ _ q=>gt_int q
def HP:aI X (Xl .GtE) (dU λi j=>.bl<|decide (j<=i)):=Fg λ_ _ _ _ _ _ _ q=>ge_int q
def Sr:aI X (Xl .Is) (λx y H Q=>y=.aH/\Q (.bl<|decide (x=.aH)) H):=by
 intro XI s σ H x y v u Q I rx ry h;obtain⟨rfl,q⟩:=h;cases ry;refine is_none_gen<|ZI I q ?_;cases x<;>first
  |(cases rx;rfl)
  |(obtain⟨t,rfl⟩:=rx;rfl)
def Qw6:aI X (Xl .IsNot) (λx y H Q=>y=.aH/\Q (.bl<|!decide (x=.aH)) H):=by
 intro XI s σ H x y v u Q I rx ry h;obtain⟨rfl,q⟩:=h;cases ry;refine isnot_none_gen<|ZI I q ?_;cases x<;>first
  |(cases rx;rfl)
  |(obtain⟨t,rfl⟩:=rx;rfl)
def isObj:HO->Bool
 |.lst _=>true
 |.ins _ _ _=>true
 |_=>false
def f7{a:Xb}(I:Inv X XI σ H s)(h:H a=some o)(p:isObj o=true):∃ob,s.heap.get? a=some ob/\ob.cls≠.type "tuple" := by
 cases o with
 |lst xs=>
  obtain⟨_,ah,n,_,e⟩:xs.length<=Xj/\∃(ah:List Xd)(n:Nat),ai xs ah/\s.heap.get? a=some { cls:=.type "list",data:=.seq ah.toArray n }:=I.ar a _ h
  exact⟨_,e,(by show AM "list" ≠ .type "tuple";decide)⟩
 |ins C dx fs=>
  have x:=I.ar a _ h;obtain⟨_,_,_,e,_⟩:=x;exact⟨_,e,(by exact λz=>by cases z)⟩
 |_=>exact Z_ (p) Qw
def aI.or(h:aI X f r)(h':aI X f r'):aI X f (λx y H Q=>r x y H Q∨r' x y H Q):=by
 intro XI s σ H x y v u Q I rx ry q;rcases q with q | q
 ·exact h XI s σ H x y v u Q I rx ry q
 ·exact h' XI s σ H x y v u Q I rx ry q
def JL(b:Zm){op:CmpOp}(h:op≠.In:=by decide)(h2:op≠.NotIn:=by decide):behindInMarks op b=false:=by
 have e1:(op == CmpOp.In)=false:=by cases op<;>first | rfl | exact Z_ rfl h
 have e2:(op == CmpOp.NotIn)=false:=by cases op<;>first | rfl | exact Z_ rfl h2
 cases b<;>simp[behindInMarks,e1,e2]
def xH(ho:aI X (Xl op) r)(ha:PE X a ta)(hb:PE X b tb)(hm:behindInMarks op b=false):PE X (.Compare a [op] [b] pos) (cY r ta tb):=by
 intro XI s σ H Q I h;exact wpAny_Compare1 (MT ha hb I h λv u s2 x y H2 I2 rx ry q=>ho XI s2 σ H2 x y v u Q I2 rx ry q) hm
def Am(t:TE):TT:=λσ H Q=>t σ H λx H'=>∃k,x=.bl k/\Q k H'
def Yw(ho:aI X (Xl op) r)(ha:PE X a ta)(hb:PE X b tb)(hm:behindInMarks op b=false):PT X (.Compare a [op] [b] pos) (Am<|cY r ta tb):=by
 intro XI s σ H Q I h;refine wpAny_isTrue_Compare1 (aD (ha XI s σ H _ I h) λv s1 ⟨x,H1,I1,r1,q1⟩=>aD (hb XI s1 σ H1 _ I1 q1) λu s2 ⟨y,H2,I2,r2,q2⟩=>
  aD (ho XI s2 σ H2 x y v u _ I2 r1 r2 q2) λc s3 ⟨z,H3,I3,r3,k,e,q3⟩=>?_) hm
 subst e;cases r3;exact ZC ⟨H3,I3,q3⟩
def R7(r r':R2)(ta tb tc:TE):TE:=λσ H Q=>ta σ H λx H1=>tb σ H1 λy H2=>r x y H2 λz H3=>∃k,z=.bl k /\
 (if k=true then tc σ H3 λw' H4=>r' y w' H4 Q else Q (.bl false) H3)
def Qsm(ho:aI X (Xl op) r)(gw:aI X (Xl qF) r')(ha:PE X a ta)(hb:PE X b tb)(hc:PE X c tc)
  (hm:lastMarks [op,qF] [b,c]=false:=by with_unfolding_all rfl):PE X (.Compare a [op,qF] [b,c] pos) (R7 r r' ta tb tc):=by
 intro XI s σ H Q I h;refine Compare_chain (aD (ha XI s σ H _ I h) λv s1 ⟨x,H1,I1,r1,q1⟩=>chain_link<|aD (hb XI s1 σ H1 _ I1 q1) λu s2 ⟨y,H2,I2,r2,q2⟩=>
  aD (ho XI s2 σ H2 x y v u _ I2 r1 r2 q2) λd s3 ⟨z,H3,I3,r3,k,e,q3⟩=>?_) hm
 subst e;cases r3;refine ZC ?_
 cases k with
 |false=>exact ite_ff ⟨.bl false,H3,I3,rfl,q3⟩
 |true=>exact ite_tt<|chain_last<|aD (hc XI s3 σ H3 _ I3 q3) λw' s4 ⟨z',H4,I4,r4,q4⟩=>gw XI s4 σ H4 y z' u w' Q I4 r2 r4 q4
def MS(K:Ws)(x:V)(H:Hp)(k:Bool):Prop:=
 match x with
 |.aH=>k=false
 |.bl b=>k=b
 |.int i=>k=(i != 0)
 |.str y=>y.length<=Xj/\k=((y.length:Int) != 0)
 |.jG y=>y.size<=Xj/\k=((y.size:Int) != 0)
 |.ref p=>(∃xs,aA K H p xs/\k = !xs.isEmpty)∨(∃xs,aM K H p xs/\k = !xs.isEmpty)∨∃kvs,H p=some (.dK kvs)/\k = !kvs.isEmpty
 |_=>False
def Qmp(r:KV kvs vs):(!vs.isEmpty) = !kvs.isEmpty:=by
 cases r<;>rfl
def QgN(r:ai xs ah):(!ah.toArray.isEmpty) = !xs.isEmpty:=by
 cases r<;>simp
def xo:(Xj:Nat)<2^63:=by rw[ZR];decide
def Qzo:QFX X (λx H Q=>∃k,MS X.K x H k/\Q k H):=by
 intro XI s σ H x v Q I rx h;obtain⟨k,e,q⟩:=h;have hs:=ZR;cases x with
 |aH=>
  cases rx;have e':=e;subst e';exact truthy_none ⟨H,I,q⟩
 |bl b=>
  cases rx;have e':=e;subst e';exact ZC ⟨H,I,q⟩
 |int i=>
  obtain⟨t,rfl⟩:=rx;have e':=e;subst e';exact PySem.P.truthy_int ⟨H,I,q⟩
 |str y=>
  obtain⟨t,rfl⟩:=rx;obtain⟨hy,e'⟩:y.length<=Xj/\k=((y.length:Int) != 0):=e;subst e';exact PySem.P.truthy_str (by omega) ⟨H,I.tok _,q⟩
 |jG y=>
  obtain⟨t,rfl⟩:=rx;obtain⟨hy,e'⟩:y.size<=Xj/\k=((y.size:Int) != 0):=e;subst e';exact PySem.W.truthy_bytes (by omega) ⟨H,I.tok _,q⟩
 |ref p=>
  cases rx;have e':=e;rcases e' with⟨xs,hx,e'⟩ | ⟨xs,hx,e'⟩ | ⟨kvs,hx,e'⟩
  ·subst e';obtain⟨ah,r,pl,hz⟩:=I.list hx;have hlen:=r.length;exact wpAny_truthy_list pl.isList (by simp only[Qm];omega) ⟨H,I.tok _,by rw[QgN r];exact q⟩
  ·subst e';obtain⟨ah,r,pl,hz⟩:=I.tuple hx;have hlen:=r.length;exact truthy_tuple pl (by simp only[Qm];omega) ⟨H,I.tok _,by rw[QgN r];exact q⟩
  ·subst e';obtain⟨hz,hS,vs,r,m⟩:kvs.length<=Xj/\(p == Xq)=false/\∃vs,KV kvs vs/\s.heap.DictOf (aq X.prog X.w) p vs:=I.ar p _ hx
   have hlen:=D8 r;exact wpAny_truthy_dict hS m (by omega) ⟨H,I.tok _,by rw[Qmp r];exact q⟩
 |_=>exact(e).elim
def DZ(ha:PE X a ta)(he:∀whole,isTrue a X.env whole=(do let v <- whole;Xw a.pos;Xs [v]<|XG v)) :
  PT X a (λσ H Q=>ta σ H λx H'=>∃k,MS X.K x H' k/\Q k H'):=by
 intro XI s σ H Q I h;exact isTrue_plain (aD (ha XI s σ H _ I h) λv s1 ⟨x,H1,I1,r1,q1⟩=>Qzo XI s1 σ H1 x v Q I1 r1 q1)<|he _
def Ql9:aI X (Xr .Add) (λx y H Q=>∃i j,x=.str i/\y=.str j/\i.length+j.length<=Xj/\Q (.str<|i++j) H):=by
 intro XI s σ H x y v u Q I rx ry h;obtain⟨i,j,rfl,rfl,hz,q⟩:=h;obtain⟨t,rfl⟩:=rx;obtain⟨t',rfl⟩:=ry;exact add_str (λt' tk=>⟨.str<|i++j,H,I.tok _,⟨_,rfl⟩,q⟩) hz
def vals1(r:ai [x] us):∃u,us=[u]/\RelV x u:=by
 cases r with
 |cons r1 r2=>cases r2;exact⟨_,rfl,r1⟩
def vals2(r:ai [x,y] us):∃u w',us=[u,w']/\RelV x u/\RelV y w':=by
 cases r with
 |cons r1 r2=>
  cases r2 with
  |cons r3 r4=>cases r4;exact⟨_,_,rfl,r1,r3⟩
def Qp5(hc:X.calm=true):aG X (.builtin "max") (λxs H Q=>∃i j,xs=[.int i,.int j]/\Q (.int<|if j > i then j else i) H):=by
 intro XI s σ H xs us Q I r h;obtain⟨i,j,rfl,q⟩:=h;obtain⟨u,w',rfl,⟨t,rfl⟩,⟨t',rfl⟩⟩:=vals2 r;refine max_two_ints (I.ok.hd hc) λh' tk k=>⟨_,H,I.kept k,?_,q⟩
 by_cases hj:j > i
 ·rw[X9 hj,X9 hj];exact⟨_,rfl⟩
 ·rw[X8 hj,X8 hj];exact⟨_,rfl⟩
def L8(hc:X.calm=true):aG X (.builtin "min") (λxs H Q=>∃i j,xs=[.int i,.int j]/\Q (.int<|if j<i then j else i) H):=by
 intro XI s σ H xs us Q I r h;obtain⟨i,j,rfl,q⟩:=h;obtain⟨u,w',rfl,⟨t,rfl⟩,⟨t',rfl⟩⟩:=vals2 r;refine min_two_ints (I.ok.hd hc) λh' tk k=>⟨_,H,I.kept k,?_,q⟩
 by_cases hj:j<i
 ·rw[X9 hj,X9 hj];exact⟨_,rfl⟩
 ·rw[X8 hj,X8 hj];exact⟨_,rfl⟩
def D2:aG X (.type "int") (λxs H Q=>(∃i,xs=[.int i]/\Q (.int i) H)∨∃k,xs=[.bl k]/\Q (.int<|if k then 1 else 0) H):=by
 intro XI s σ H xs us Q I r h;rcases h with⟨i,rfl,q⟩ | ⟨k,rfl,q⟩
 ·obtain⟨u,rfl,t,rfl⟩:=vals1 r;exact call_int_int ⟨.int i,H,I,⟨_,rfl⟩,q⟩
 ·obtain⟨u,rfl,r1⟩:=vals1 r;cases r1;exact call_int_bool ⟨.int<|if k then 1 else 0,H,I.tok _,⟨_,rfl⟩,q⟩
def ZJ:aG X (.type "str") (λxs H Q=>∃i,xs=[.int i]/\i.natAbs.log2<1920/\Q (.str<|toString i) H):=by
 intro XI s σ H xs us Q I r h;obtain⟨i,rfl,hz,q⟩:=h;obtain⟨u,rfl,t,rfl⟩:=vals1 r;exact PySem.P.str_of_int hz ⟨.str _,H,I.tok _,⟨_,rfl⟩,q⟩
end
structure jk (h:ZF) (x dx C:Xb) (mA:Str->Option Xd):Prop where
 obj:h.get? x=some (WG C dx)
 ns:h.Ns1 dx mA
 ne:dx≠x
def Qo9{h:ZF}(n:h.Ns1 dx mA):∃od,h.get? dx=some od/\∀name,WR name od=some (mA name):=by
 obtain⟨o,es,ep,ho,hd,hk,_,hm⟩:=n;refine⟨o,ho,λname=>?_⟩;have e:=hm name;unfold nsFind findBy at e;rw[<- Array.find?_toList] at e;unfold WR;rw[hd]
 dsimp only
 split
 ·rename_i y q
  rw[q] at e;exact congrArg some e
 ·rename_i q
  rw[q] at e;have a:es.toList.any (·.refKey)=false:=by
   rw[S3];intro y hy;obtain⟨z,t,GQ⟩:=hk y<|Mz.mp hy;simp[DictEntry.refKey,GQ]
  have a':¬es.toList.any (·.refKey)=true:=by rw[a];exact Qw
  rw[X8 a'];exact congrArg some e
def jk.look(I:jk h x dx C mA):∃od,PySem.W.InstAt h x (WG C dx) C (some od)/\∀name,WR name od=some (mA name):=
 let ⟨od,ho,hl⟩:=Qo9 I.ns
 ⟨od,⟨I.obj,rfl,rfl,ho⟩,hl⟩
section
variable{prog:QB}{w:Jh}{A:Jo}{E:Xd->Xe->Prop}{s:Xe}{K:Ws}{x dx C f:Xb}{mA:Str->Option Xd}{name:Str}{v:Xd}
def Qx7(X:K.In s.heap)(I:jk s.heap x dx C mA)(hg:WK K C name=true)(hh:WS K C=true)
  (ha:Wv K (.ref C) name=some none)(hv:mA name=some v)(ze:XW v=true)(h:Q v { s with toks:=s.toks+1 }) :
  Xi (Xg prog w) A (getAttr (.ref x) name expr) Q E s:=by
 obtain⟨od,J,hl⟩:=I.look;exact PySem.W.get_value X J (WX hg).1 (PySem.W.findObj_own hh ha rfl<|by rw[hl,hv]) ze h
def Qtz(X:K.In s.heap)(I:jk s.heap x dx C mA)(hg:WK K C name=true)
  (hf:Wv K (.ref C) name=some (some<|.ref f))(ht:WT K (.ref f)=true)(hv:mA name=none)(h:Q (.ref f,[.ref x]) s) :
  Xi (Xg prog w) A (XC (.ref x) name pl) Q E s:=by
 obtain⟨od,J,hl⟩:=I.look;exact PySem.W.method_fn X J (WX hg).1 (WX hg).2 hf (beq_iff_eq.mp ht) (by show(WR name od).map (·.isSome)=some false;rw[hl,hv];rfl) h
def Qwd(X:K.In s.heap)(I:jk s.heap x dx C mA)
  (hs:Wv K (.ref C) "__setattr__" = some (some<|.builtin "object.__setattr__"))(hp:WY K C=true)(ht:WZ K C name=some none)(hh:WS K C=true)
  (hw:WW mA ns)(qM:ns.length<=Xj)
  (h:∀h',jk h' x dx C (λy=>if y=name then some v else mA y)->Ya dx s.heap h'->Q () { s with heap:=h',toks:=s.toks+2 }) :
  Xi (Xg prog w) A (setAttr (.ref x) name v) Q E s:=by
 obtain⟨od,J,hl⟩:=I.look;refine PySem.W.set_plain X J hs<|PySem.W.osa_open X J hp ht λb=>?_;obtain⟨cd,hc,dB⟩:=PySem.W.any_some hh;have hx:=I.obj;refine Xa<|Qg<|Xa<|Xa<|Kl hx<|Xa<|PySem.W.Looks.here (PySem.W.looks_clsIn X hc) ?_;rw[dB];refine Qg<|Xa<|Qg<|Xa ?_;refine wpAny_nsSet1 I.ns λh' i5 wu=>?_
 obtain⟨oD,esD,epD,hoD,hdD,hcD⟩:=i5.count<|PySem.Within.cons name v hw;refine Xa (wpAny_lookBehind hoD (by rw[hdD];exact pastItsLine_dict<|QK hcD (by rw[Qz];omega)) ?_);exact Qg<|h _ ⟨(wu.2 _<|iM I.ne).trans I.obj,i5,I.ne⟩ wu
def Qtn(X:K.In s.heap)(hm:W4 K C=true)
  (hi:Wv K (.ref C) "__init__" = some (some<|.ref f))(hf:W5 K (.ref f)=some (.type "function"))
  (h:Xu (Xg prog w) (A.under<|.builtin "type.__call__" ⟨.ref C::vs,kw⟩) (.call (.ref f) ⟨.ref (s.heap.objs.size+1)::vs,kw⟩) (PySem.W.InitBack (s.heap.objs.size+1) R)
   { s with heap:=(s.heap.push WH).push (WG C s.heap.objs.size) }) :
  Xu (Xg prog w) A (.call (.ref C) ⟨vs,kw⟩) R s:=by
 exact PySem.W.make_core (PySem.W.makes_of X hm) (PySem.W.looks_findIn X hi) (λself=>PySem.W.bind_fn X self hf) (.inl rfl) h
end
def dF(f:Str)(v:V):List (Str×V)->List (Str×V)
 |[]=>[(f,v)]
 |(g,x)::r=>if g=f then(g,v)::r else(g,x)::dF f v r
def Yr(f g:Str)(v:V):∀fs:List (Str×V),(dF f v fs).lookup g=if g=f then some v else fs.lookup g
 |[]=>by
  show Yz g [(f,v)]=_;by_cases h:g=f
  ·have hb:=beq_iff_eq.mpr h;simp only[Yz,hb,X9 h]
  ·have hb:=beq_eq_false_iff_ne.mpr h;simp only[Yz,hb,X8 h]
 |(k,x)::r=>by
  have ih:=Yr f g v r;rw[show dF f v ((k,x)::r)=(if k=f then(k,v)::r else(k,x)::dF f v r) from rfl];by_cases hk:k=f
  ·rw[X9 hk];by_cases h:g=k
   ·have hb:=beq_iff_eq.mpr h;simp only[Yz,hb,X9<|h.trans hk]
   ·have hb:=beq_eq_false_iff_ne.mpr h;simp only[Yz,hb,X8 λe:g=f=>h<|e.trans hk.symm]
  ·rw[X8 hk];by_cases h:g=k
   ·have hb:=beq_iff_eq.mpr h;simp only[Yz,hb,X8 λe:g=f=>hk<|h.symm.trans e]
   ·have hb:=beq_eq_false_iff_ne.mpr h;simp only[Yz,hb];exact ih
def L_(f:Str)(v:V):∀fs:List (Str×V),f∈(dF f v fs).map (·.1)/\∀g,g∈fs.map (·.1)->g∈(dF f v fs).map (·.1)
 |[]=>⟨by simp[dF],λg h=>by simp at h⟩
 |(k,x)::r=>by
  obtain⟨i1,i2⟩:=L_ f v r;rw[show dF f v ((k,x)::r)=(if k=f then(k,v)::r else(k,x)::dF f v r) from rfl];by_cases hk:k=f
  ·rw[X9 hk];subst hk;exact⟨by simp,λg h=>by simpa using h⟩
  ·rw[X8 hk];refine⟨?_,λg h=>?_⟩
   ·rw[JU];exact QQ _ i1
   ·rw[JU] at h ⊢;rcases Qt.mp h with e | e
    ·exact Qt.mpr<|.inl e
    ·exact QQ _<|i2 g e
def QfL(f:Str)(v:V):∀fs:List (Str×V),(dF f v fs).length<=fs.length+1
 |[]=>by simp[dF]
 |(k,x)::r=>by
  have ih:=QfL f v r;rw[show dF f v ((k,x)::r)=(if k=f then(k,v)::r else(k,x)::dF f v r) from rfl];by_cases hk:k=f
  ·rw[X9 hk,Qz,Qz];omega
  ·rw[X8 hk,Qz,Qz];omega
def b_.some_of(r:b_ (some v) o):∃u,o=some u/\RelV v u:=by
 cases o with
 |none=>exact(r).elim
 |some u=>exact⟨u,rfl,r⟩
def b_.none_of(r:b_ none o):o=none:=by
 cases o with
 |none=>rfl
 |some u=>exact(r).elim
def Qpt(r:RelV v u):XW u=true:=by
 cases v with
 |aH=>cases(r);rfl
 |bl b=>cases(r);rfl
 |int i=>obtain⟨t,e⟩:=(r);cases e;rfl
 |str x=>obtain⟨t,e⟩:=(r);cases e;rfl
 |jG b=>obtain⟨t,e⟩:=(r);cases e;rfl
 |ug b=>obtain⟨t,e⟩:=(r);cases e;rfl
 |ref a=>cases(r);rfl
 |ty n=>cases(r);rfl
section
variable{P:QB}{w:Jh}{H H':Hp}{h h':ZF}{a C dx:Xb}{fs fs':List (Str×V)}
def Dv(ar:cg P w H h)(e:H a=some (.ins C dx fs)):∃mA,jk h a dx C mA/\(∀f,b_ (fs.lookup f)<|mA f)/\WW mA (fs.map (·.1))/\fs.length<=1000/\H dx=some (.own a):=by
 obtain⟨d,z,ne,ob,mA,n,r,q⟩:=(ar a _ e);exact⟨mA,⟨ob,n,ne⟩,r,q,z,d⟩
end
structure jn (K:Ws) (C:Xb):Prop where
 pg:WK K C r8=true
 hd:WS K C=true
 po:WY K C=true
 sa:Wv K (.ref C) "__setattr__" = some (some<|.builtin "object.__setattr__")
def jn.get{K:Ws}(c:jn K C)(f:Str):WK K C f=true:=c.pg
def bN(K:Ws)(C:Xb)(f:Str):Prop:=Wv K (.ref C) f=some none
def bN.yu{K:Ws}(n:bN K C f):WZ K C f=some none:=by
 unfold WZ;rw[n];rfl
structure jl (K:Ws) (C:Xb) (m:Str) (f:Xb):Prop where
 at_:Wv K (.ref C) m=some (some<|.ref f)
 fn:WT K (.ref f)=true
 kp:Wu K (.ref f)=true
section
variable{X:Cx}{XI:List (Xb×Xo)}{σ:St}{H:Hp}{s:Xe}{a C dx:Xb}{fs:List (Str×V)}{f:Str}{v:V}{A:Jo}{E:Xd->Xe->Prop}
def Qmu(I:Inv X XI σ H s)(e:H a=some (.ins C dx fs))(c:jn X.K C)(n:bN X.K C f)(l:fs.lookup f=some v)
  (h:∀u s',Inv X XI σ H s'->RelV v u->Q u s'):Xi (Xg X.prog X.w) A (getAttr (.ref a) f b) Q E s:=by
 obtain⟨mA,O,r,_,_,_⟩:=Dv I.ar e;obtain⟨u,hu,ru⟩:=b_.some_of (by rw[<- l];exact r f);exact Qx7 I.bX O (c.get f) c.hd n hu (Qpt ru)<|h u _ (I.tok _) ru
def Mh(I:Inv X XI σ H s)(e:H a=some (.ins C dx fs))(c:jn X.K C)(k:jl X.K C m g)(l:fs.lookup m=none)
  (h:Q (.ref g,[.ref a]) s):Xi (Xg X.prog X.w) A (XC (.ref a) m pl) Q E s:=by
 obtain⟨mA,O,r,_,_,_⟩:=Dv I.ar e;have hn:=b_.none_of (by rw[<- l];exact r m);exact Qtz I.bX O (c.get m) k.at_ k.fn hn h
def QlZ(I:Inv X XI σ H s)(e:H a=some (.ins C dx fs))(c:jn X.K C)(n:bN X.K C f)(hl:fs.length<1000)(ry:RelV y u)
  (h:∀s',Inv X XI σ (upd H a<|.ins C dx<|dF f y fs) s'->Q () s'):Xi (Xg X.prog X.w) A (setAttr (.ref a) f u) Q E s:=by
 obtain⟨mA,O,r,wi,_,ho⟩:=Dv I.ar e;have hz:(fs.map (·.1)).length<=Xj:=by rw[Qb,ZR];omega
 refine Qwd I.bX O c.sa c.po n.yu c.hd wi hz λh' O' sb=>h _ ?_
 have hd:∃o,h'.get? dx=some o:=let ⟨o,_,_,e',_⟩:=O'.ns;⟨o,e'⟩
 refine I.write (by rw[e];exact Ju) (.inr ho) (λb q hb z=>(sb.2 b hb).trans z) hd ?_
 refine⟨by rw[QY O.ne];exact ho,?_,O.ne,O'.obj,_,O'.ns,λg=>?_,λg hg=>?_⟩
 ·have:=QfL f y fs;omega
 ·rw[Yr];by_cases q:g=f
  ·rw[X9 q,X9 q];exact ry
  ·rw[X8 q,X8 q];exact r g
 ·by_cases q:g=f
  ·rw[q];exact(L_ f y fs).1
  ·refine(L_ f y fs).2 g<|wi g λz=>hg ?_;show(if g=f then some u else mA g)=none;rw[X8 q];exact z
def Inv.made(I:Inv X XI σ H s):Inv X XI σ (upd (upd H s.heap.objs.size<|.own<|s.heap.objs.size+1) (s.heap.objs.size+1)<|.ins C s.heap.objs.size [])
  { s with heap:=(s.heap.push WH).push (WG C s.heap.objs.size) }:=by
 have e1:(s.heap.push WH).get? s.heap.objs.size=some WH:=Qs s.heap rfl;have e2:((s.heap.push WH).push<|WG C s.heap.objs.size).get? (s.heap.objs.size+1)=some (WG C s.heap.objs.size):=by
  have:=Qs (s.heap.push WH) (o:=WG C s.heap.objs.size) rfl
  rwa [xY] at this
 have e3:(s.heap.push WH).Ns s.heap.objs.size (λ_=>none):=⟨WH,#[],_,e1,rfl,(λe he=>Z_ he<|by simp),λ_=>rfl⟩;have I1:=I.laid (o:=.own<|s.heap.objs.size+1) (t':=s.toks) (λb u q=>Qf _ q) (Qd _) ⟨_,e1⟩;refine I1.laid (λb u q=>Qf _ q) (Y1<|xY _ _) ?_
 have ne:s.heap.objs.size≠s.heap.objs.size+1:=QZ<|PJ _;refine⟨by rw[QY ne,af],Q9 _,ne,e2,λ_=>none,(Heap.Ns1.of_empty e3).at λo q=>Qf _ q,λ_=>Ju,λy hy=>Z_ rfl hy⟩
def QyD(hb:attributeBase e f env (eval e env)=eval e env)
  (h:Xi (Xg prog w) A (eval e env) (λo s₁=>Xi (Xg prog w) A (getAttr o f true) Q E s₁) E s):Xi (Xg prog w) A (eval (.Attribute e f pos) env) Q E s:=
 Attribute_any_ h (by rw[arm_eval_Attribute,hb])
end
def QFv(K:Ws)(ta:TE)(f:Str):TE:=λσ H Q=>ta σ H λx H1=>∃a C dx fs v,x=.ref a/\H1 a=some (.ins C dx fs)/\jn K C/\bN K C f/\fs.lookup f=some v/\Q v H1
def QFz(K:Ws)(ta tv:TE)(f:Str):TS:=λD σ H=>tv σ H λy H1=>ta σ H1 λx H2=>∃a C dx fs,x=.ref a/\H2 a=some (.ins C dx fs)/\jn K C/\bN K C f/\fs.length<1000 /\
 D.nx σ (upd H2 a<|.ins C dx<|dF f y fs)
section
variable{X:Cx}{o e value:Zm}{f:Str}{pos pos' cM:Pos}{ta tv:TE}
def iq(he:PE X e ta)(hb:attributeBase e f X.env (eval e X.env)=eval e X.env):PE X (.Attribute e f pos) (QFv X.K ta f):=by
 intro XI s σ H Q I h;refine QyD hb<|aD (he XI s σ H _ I h) λu s1 ⟨x,H1,I1,rx,a,C,dx,fs,v,ex,ea,c,n,l,q⟩=>?_;subst ex;obtain rfl:u=JT a:=rx;exact Qmu I1 ea c n l λu' s2 I2 ru=>⟨v,H1,I2,ru,q⟩
def Au(ha:PE X o ta)(hv:PE X value tv)(hs:Xt value (some<|.Attribute o f pos') pos.line X.env=pure false):PS X (.Assign [.Attribute o f pos'] value pos) (QFz X.K ta tv f):=by
 intro XI s σ H D I h;refine plainObj_wpAny_Assign_Attribute (aD (hv XI s σ H _ I h) λu s1 ⟨y,H1,I1,ry,q⟩=>aD (ha XI s1 σ H1 _ I1 q) λov s2 ⟨x,H2,I2,rx,a,C,dx,fs,ex,ea,c,n,l,q2⟩=>?_) hs;subst ex;obtain rfl:ov=JT a:=rx;exact QlZ I2 ea c n l ry λs3 I3=>⟨σ,_,I3,q2⟩
def sX:V->V->Hp->VK->Prop:=λx y H Q=>∃i j,x=.int i/\y=.int j/\Q (.int<|i+j) H
end
section
variable{X:Cx}{XI:List (Xb×Xo)}{σ:St}{H:Hp}{s:Xe}{A:Jo}{E:Xd->Xe->Prop}{Q:Xd->Xe->Prop}{c:Xd}{b:Bool}
inductive cW (K:Ws) (H:Hp):V->Xd->Prop where
 |aH:cW K H .aH<|.type "NoneType"
 |bl (x:Bool):cW K H (.bl x)<|.type "bool"
 |int (i:Int):cW K H (.int i)<|.type "int"
 |str (x:Str):cW K H (.str x)<|.type "str"
 |ug (x:UInt64):cW K H (.ug x)<|.type "float"
 |lst {a:Xb} {xs:List V} (e:H a=some (.lst xs)):cW K H (.ref a)<|.type "list"
 |cE {a:Xb} {o:Xo} {xs:List V} (e:H a=some (.cE o<|.lst xs)):cW K H (.ref a)<|.type "list"
 |tup {a:Xb} {xs:List V} (e:H a=some (.tup xs)):cW K H (.ref a)<|.type "tuple"
 |dK {a:Xb} {kvs:List (Key×V)} (e:H a=some (.dK kvs)):cW K H (.ref a)<|.type "dict"
 |dT {a:Xb} {kvs:List (List Key×V)} (e:H a=some (.dT kvs)):cW K H (.ref a)<|.type "dict"
 |ins {a C dx:Xb} {fs:List (Str×V)} (e:H a=some (.ins C dx fs)) (cl:jn K C) (ha:Wv K (.ref C) "__class__" = some (some<|.builtin "object.__class__"))
   (hn:XX K (.builtin "object.__class__") "__get__" = some (some<|.builtin "getset_descriptor.__get__")) (Om:XY K (.builtin "object.__class__")=some true)
   (hm:WI K C (.type "object")=some true):cW K H (.ref a)<|.ref C
def Qpl(I:Inv X XI σ H s)(rx:RelV x u)(ty:cW X.K H x t)(e:Wy X.K t c=some b)(h:∀tk,Q (.bool b) { s with toks:=tk }) :
  Xi (Xg X.prog X.w) A (call (.builtin "isinstance") [u,c]) Q E s:=by
 cases ty with
 |aH=>cases(rx);exact Wx PySem.W.kitx_none I.bX Ju e nofun h
 |bl y=>cases(rx);exact Wx PySem.W.kitx_bool I.bX Ju e nofun h
 |int i=>obtain⟨t,q⟩:=(rx);cases q;exact Wx PySem.W.kitx_int I.bX Ju e nofun h
 |str y=>obtain⟨t,q⟩:=(rx);cases q;exact Wx PySem.W.kitx_str I.bX Ju e nofun h
 |ug y=>obtain⟨t,q⟩:=(rx);cases q;exact Wx PySem.W.kitx_float I.bX Ju e nofun h
 |@lst a xs ea=>
  cases(rx);obtain⟨_,_,n,_,h1⟩:=(I.ar a _ ea);exact Wx XZ I.bX ⟨_,h1,rfl⟩ e nofun h
 |@cE a ob xs ea=>
  cases(rx);obtain⟨_,_,_,n,_,h1⟩:=(I.ar a _ ea);exact Wx XZ I.bX ⟨_,h1,rfl⟩ e nofun h
 |@tup a xs ea=>
  cases(rx);obtain⟨_,_,_,p⟩:=(I.ar a _ ea);obtain⟨o,h1,h2,_⟩:=p;exact Wx PySem.W.kitx_tuple I.bX ⟨o,h1,h2⟩ e nofun h
 |@dK a kvs ea=>
  cases(rx);obtain⟨_,_,vs,_,p⟩:=(I.ar a _ ea);obtain⟨o,es,ep,h1,h2,_⟩:=p;exact Wx X0 I.bX ⟨o,h1,h2.1⟩ e nofun h
 |@dT a kvs ea=>
  cases(rx);obtain⟨_,_,xs,_,o,es,ep,h1,h2,_⟩:=(I.ar a _ ea);exact Wx X0 I.bX ⟨o,h1,h2.1⟩ e nofun h
 |@ins a C dx fs ea cl ha hn Om hm=>
  cases(rx);obtain⟨mA,O,_⟩:=Dv I.ar ea;obtain⟨od,J,_⟩:=O.look;exact Wx (PySem.W.kitx_own (cl.get _) cl.hd ha hn Om hm) I.bX J e nofun h
end
end L2


namespace L2
structure az (k:Nat) (A:Jo):Prop where
 hd:A.handled=none
 dp:A.depth+3*k+5<recursionLimit
 un:A.units+16*k+200<cLine
 gd:A.guards=some []
def az.mono(r:az k A)(h:j<=k):az j A:=⟨r.hd,by have:=r.dp;omega,by have:=r.un;omega,r.gd⟩
def az.deeper(r:az (k+1) A)(env:Env):az k (A.deeper env):=
 ⟨r.hd,by have:=r.dp;show A.depth+1+3*k+5<_;omega,by have:=r.un;show A.units+3+16*k+200<_;omega,r.gd⟩
def Qmm{A:Jo}:(A.under<|.builtin "type.__call__" ⟨.ref C::us,kw⟩).depth=A.depth+1:=by
 first | rfl | simp[Code.weight]
def Qml{A:Jo}:(A.under<|.builtin "type.__call__" ⟨.ref C::us,kw⟩).units=A.units+1:=by
 first | rfl | simp[Code.cUnits]
def az.make(r:az (k+1) A)(C:Xb)(us:List Xd)(kw:List (Str×Xd)):az k (A.under<|.builtin "type.__call__" ⟨.ref C::us,kw⟩):=
 ⟨r.hd,by have:=r.dp;rw[Qmm];omega,by have:=r.un;rw[Qml];omega,by have:=r.gd;first | exact this | simpa [Code.isGuard] using this⟩
def az.depth(r:az k A):A.depth<recursionLimit:=by have:=r.dp;omega
def az.units(r:az k A):A.units+64<cLine:=by have:=r.un;omega
def bD:TA:=λ_ H Q=>Q [] H
def ZM(ta:TE)(tr:TA):TA:=λσ H Q=>ta σ H λx H1=>tr σ H1 λxs H2=>Q (x::xs) H2
section
variable{X:Cx}{e:Zm}{es:List Zm}{te:TE}{t:TA}{pos:Pos}
def Qu:PA X [] bD:=λ_ _ _ _ H Q I h=>Ey ⟨[],H,I,.nil,h⟩
def Ql(ha:PE X e te)(hr:PA X es t)(hs:Xh (e::es) X.env=(false,eval e X.env)::Xh es X.env:=by rfl):PA X (e::es) (ZM te t):=by
 intro pos XI s σ H Q I h;rw[hs];exact YL<|aD (ha XI s σ H _ I h) λu s1 ⟨x,H1,I1,r1,q1⟩=>(aD (hr pos XI s1 σ H1 _ I1 q1) λus s2 ⟨xs,H2,I2,r2,q2⟩=>⟨x::xs,H2,I2,.cons r1 r2,q2⟩)
def QFt(t:TA):TE:=λσ H Q=>t σ H λxs H1=>xs.length<=Xj/\∀p,H1 p=none->Q (.ref p) (upd H1 p<|.lst xs)
def Sw(h:PA X es t):PE X (.List es pos) (QFt t):=by
 intro XI s σ H Q I hq;refine QCs (aD (h pos XI s σ H _ I hq) λus s1 ⟨xs,H1,I1,r,z,q⟩=>⟨by rw[<- r.length];exact z,?_⟩);have hf:=I1.ar.fresh<|Qd _;refine⟨.ref s1.heap.objs.size,upd H1 s1.heap.objs.size<|.lst xs,I1.laid (λb u e=>Qf _ e) (Qd _) ?_,rfl,q _ hf⟩;exact⟨z,us,0,r,Qs _ rfl⟩
end
abbrev Sp:=List V->Hp->VK->XK->Prop
abbrev iV:=List Env->Hp->Xe->XK->Xd->Xe->Prop
structure fW (P:QB) (w:Jh) (K:Ws) (mg:Str->Option Xd) (base:ZF) (A:Jo) (outer:List Env) (s:Xe) (H:Hp):Prop where
 frames:A.frames=some outer
 mod:Mod K mg base
 bs:∀b o,base.get? b=some o->s.heap.get? b=some o/\H b=none
 j9:base.objs.size<=s.heap.objs.size
 cw:s.heap.FunFrames base outer
 nv:∀b∈gT outer,H b=none
 ar:cg P w H s.heap
 bare:nT s.gens
def CE(outer:List Env)(P:QB)(w:Jh)(H:Hp)(s:Xe)(Q:VK)(u:Xd)(s':Xe):Prop:=
 ∃v H',s'.os=s.os/\nT s'.gens/\Un (gT outer) [] H H' s.heap s'.heap/\cg P w H' s'.heap/\RelV v u/\Q v H'
def CR(CX:iV)(outer:List Env)(P:QB)(w:Jh)(H:Hp)(s:Xe)(Q:VK)(E:XK)(r:Result)(s':Xe):Prop:=
 match r with
 |.ok (.ret u)=>CE outer P w H s Q u s'
 |.ok _=>False
 |.error e=>CX outer H s E e s'
structure aO (P:QB) (w:Jh) (K:Ws) (mg:Str->Option Xd) (base:ZF) (CX:iV) (k:Nat) (f:Xb) (fd:Z3) (ps:List Str) (sp:Sp):Prop where
 len:∀vs H Q E,sp vs H Q E->vs.length=ps.length
 run:∀(A:Jo)(outer:List Env)(s:Xe)(H:Hp)(args:Args)(us:List Xd)(vs:List V)(Q:VK)(E:XK),az k A->fW P w K mg base A outer s H->pB s fd args (ps.zip us)->ai vs us->sp vs H Q E ->
  Xu (Xg P w) A (.call (.ref f) args) (CR CX outer P w H s Q E) s
def aO.imp{K:Ws}(F:aO P w K mg base CX k f fd ps sp)
  (h:∀vs H Q E,FJ vs H Q E->sp vs H Q E):aO P w K mg base CX k f fd ps FJ:=
 ⟨λvs H Q E q=>F.len vs H Q E<|h _ _ _ _ q,λA outer s H args us vs Q E hr he hb hv hs=>F.run A outer s H args us vs Q E hr he hb hv<|h _ _ _ _ hs⟩
def fW.make{K:Ws}(e:fW P w K mg base A outer s H)(C:Xb)(us:List Xd)(kw:List (Str×Xd)) :
  fW P w K mg base (A.under<|.builtin "type.__call__" ⟨.ref C::us,kw⟩) outer s H:=⟨by first | exact e.frames | (simpa [Code.envs] using e.frames),e.mod,e.bs,e.j9,e.cw,e.nv,e.ar,e.bare⟩
section
variable{X:Cx}{XI:List (Xb×Xo)}{σ:St}{H:Hp}{s s':Xe}
def Inv.oS(I:Inv X XI σ H s):fW X.prog X.w X.K X.mg X.base X.A X.stack s H:=
 ⟨I.ok.frames,I.ok.mod,I.bs,QK I.ok.j9 I.sz,I.stack,I.gq,I.ar,I.bare⟩
def Inv.after(I:Inv X XI σ H s)(h:CE X.stack X.prog X.w H s Q u s'):EP X XI σ Q u s':=by
 obtain⟨v,H',os,bare,un,ar,r,q⟩:=h;obtain⟨hh,g,d,t,os'⟩:=s';obtain rfl:os'=s.os:=os;exact⟨v,H',I.call un ar bare λb z=>Z_ z<|by simp,r,q⟩
end
def Ai(sp:Sp)(f9:List V)(E:XK)(t:TA):TE:=λσ H Q=>t σ H λvs H1=>sp (vs++f9) H1 Q E
def C1(C:Xb)(m:Str)(sp:Sp)(f9:List V)(E:XK)(ta:TE)(t:TA):TE:=λσ H Q=>ta σ H λx H1=>∃a dx fs,x=.ref a/\H1 a=some (.ins C dx fs)/\fs.lookup m=none /\
 t σ H1 λvs H2=>sp (x::(vs++f9)) H2 Q E
def OV(C:Xb)(sp:Sp)(f9:List V)(E:XK)(t:TA):TE:=λσ H Q=>t σ H λvs H1=>∀x dx,H1 x=none->H1 dx=none->dx≠x ->
 sp (.ref x::(vs++f9)) (upd (upd H1 dx<|.own x) x<|.ins C dx []) (λv H2=>v=.aH/\Q (.ref x) H2) E
def Binds(K:Ws)(fd:Z3)(ps:List Str)(ds:List Xd):Prop:=
 ∀(s:Xe)(us:List Xd),K.In s.heap->(us++ds).length=ps.length->pB s fd ⟨us,[]⟩ (ps.zip<|us++ds)
def Binds.all{K:Ws}(h:∀us:List Xd,us.length=ps.length->bindArgs fd ⟨us,[]⟩=pure (ps.zip us)):Binds K fd ps []:=λs us _ hl=>by
 rw[J4] at hl ⊢;exact .of_eq<|h us hl
def g7(CX:iV)(X:Cx)(E:XK):Prop:=∀(XI:List (Xb×Xo))(σ:St)(H:Hp)(s:Xe)(e:Xd)(s':Xe),Inv X XI σ H s->CX X.stack H s E e s'->X.xe e s'
section
variable{X:Cx}{CX:iV}{k:Nat}{f C:Xb}{fd:Z3}{ps:List Str}{sp:Sp}{f9:List V}{ds:List Xd}{E:XK}{x m:Str}{p pos apos:Pos}{e o:Zm}{es:List Zm}{ta:TE}{t:TA}
def De(F:aO X.prog X.w X.K X.mg X.base CX k f fd ps sp)(hr:az k X.A)(hb:Binds X.K fd ps ds)(hd:ai f9 ds)(hx:g7 CX X E)
  (I:Inv X XI σ H s)(r:ai vs us)(h:sp (vs++f9) H Q E):Xi (Xg X.prog X.w) X.A (call (.ref f) us) (EP X XI σ Q) X.xe s:=by
 have r2:=r.append hd;have hl:(us++ds).length=ps.length:=by rw[<- r2.length];exact F.len _ _ _ _ h
 refine xO<|sv (F.run X.A X.stack s H ⟨us,[]⟩ (us++ds) (vs++f9) Q E hr I.oS (hb s us I.bX hl) r2 h) λr s' hq=>?_;cases r with
 |error e=>exact hx XI σ H s e s' I hq
 |ok fl=>
  cases fl with
  |ret u=>exact I.after hq
  |next=>exact Jr hq
  |brk=>exact Jr hq
  |cont=>exact Jr hq
def K6(F:aO X.prog X.w X.K X.mg X.base CX k f fd ps sp)(hr:az k X.A)(hg:Gl X x)(hm:X.mg x=some (.ref f))(hk:Wu X.K (.ref f)=true)(hb:Binds X.K fd ps ds)(hd:ai f9 ds)(hx:g7 CX X E)
  (ha:PA X (e::es) t)(bO:(x == ("__debug__" : Str))=false:=by decide)(he:Xh (e::es) X.env=(false,eval e X.env)::Xh es X.env:=by rfl)(hpl:(Xp pos<|Xh es X.env).any (·.1)=false:=by rfl) :
  PE X (.Call (.Name x p) (e::es) [] pos) (Ai sp f9 E t):=by
 intro XI s σ H Q I h;refine Yq<|xE I hg hm ?_ bO;refine WL I.ok.mod.oH hk (aD (ha pos XI s σ H _ I h) λus s1 ⟨vs,H1,I1,r,q⟩=>⟨I1.bX,?_⟩) he hpl;exact De F hr hb hd hx I1 r q
def QwD(he:PE X o ta)(c:jn X.K C)(hm:jl X.K C m f)(F:aO X.prog X.w X.K X.mg X.base CX k f fd ps sp)(hr:az k X.A)(hb:Binds X.K fd ps ds)(hd:ai f9 ds)(hx:g7 CX X E)(ha:PA X (e::es) t)
  (fJ:Xh (e::es) X.env=(false,eval e X.env)::Xh es X.env:=by rfl)(hpl:(Xp pos<|Xh es X.env).any (·.1)=false:=by rfl)
  (ht:eval (.Call (.Attribute o m apos) (e::es) [] pos) X.env=(do
   let ov <- eval o X.env
   Xw apos.atName
   let (f,first) <- Xs [ov] (XC ov m pl)
   XH pos f first (Xp pos<|Xh (e::es) X.env) (Xz pos<|Xx [] X.env)):=by rfl) :
  PE X (.Call (.Attribute o m apos) (e::es) [] pos) (C1 C m sp f9 E ta t):=by
 intro XI s σ H Q I h;refine W6 (aD (he XI s σ H _ I h) λu s1 ⟨x,H1,I1,rx,a,dx,fs,ex,ea,l,q⟩=>?_) ht;subst ex;obtain rfl:u=JT a:=rx;refine Mh I1 ea c hm l ?_
 refine WL I.ok.mod.oH hm.kp (aD (ha pos XI s1 σ H1 _ I1 q) λus s2 ⟨vs,H2,I2,r,q2⟩=>⟨I2.bX,?_⟩) fJ hpl;exact De (vs:=.ref a::vs) F hr hb hd hx I2 (.cons rfl r) q2
def Qsi(he:PE X o ta)(c:jn X.K C)(hm:jl X.K C m f)(F:aO X.prog X.w X.K X.mg X.base CX k f fd ps sp)(hr:az k X.A)(hb:Binds X.K fd ps ds)(hd:ai f9 ds)(hx:g7 CX X E)
  (ht:eval (.Call (.Attribute o m apos) [] [] pos) X.env=(do
   let ov <- eval o X.env
   Xw apos.atName
   let (f,first) <- Xs [ov] (XC ov m pl)
   XH pos f first (Xp pos<|Xh [] X.env) (Xz pos<|Xx [] X.env)):=by rfl) :
  PE X (.Call (.Attribute o m apos) [] [] pos) (C1 C m sp f9 E ta bD):=by
 intro XI s σ H Q I h;refine W6 (aD (he XI s σ H _ I h) λu s1 ⟨x,H1,I1,rx,a,dx,fs,ex,ea,l,q⟩=>?_) ht;subst ex;obtain rfl:u=JT a:=rx;refine Mh I1 ea c hm l ?_
 exact X1 I1.bX hm.kp<|De (vs:=[.ref a]) F hr hb hd hx I1 (.cons rfl .nil) q
structure Mk (K:Ws) (C f:Xb):Prop where
 makes:W4 K C=true
 init:Wv K (.ref C) "__init__" = some (some<|.ref f)
 fn:WT K (.ref f)=true
 kp:Wu K (.ref C)=true
def QrX(M:Mk X.K C f)(F:aO X.prog X.w X.K X.mg X.base CX k f fd ps sp)(hr:az (k+1) X.A)(hb:Binds X.K fd ps ds)(hd:ai f9 ds)
  (hx:g7 CX X E)(I:Inv X XI σ H s)(r:ai vs us)
  (h:∀x dx,H x=none->H dx=none->dx≠x->sp (.ref x::(vs++f9)) (upd (upd H dx<|.own x) x<|.ins C dx []) (λv H2=>v=.aH/\Q (.ref x) H2) E) :
  Xi (Xg X.prog X.w) X.A (call (.ref C) us) (EP X XI σ Q) X.xe s:=by
 have hq:=h (s.heap.objs.size+1) s.heap.objs.size (I.ar.fresh<|IC _) (I.ar.fresh<|Qd _)<|QZ<|PJ _;have I2:=Inv.made (C:=C) I;have r2:ai (V.ref (s.heap.objs.size+1)::(vs++f9)) (JT (s.heap.objs.size+1)::(us++ds)):=.cons rfl<|r.append hd;have hl:(JT (s.heap.objs.size+1)::us++ds).length=ps.length:=by
  have e:=r2.length;rw[F.len _ _ _ _ hq] at e;exact e.symm
 refine xO (Qtn I.bX M.makes M.init (beq_iff_eq.mp M.fn)<|sv (F.run _ X.stack _ _ ⟨JT (s.heap.objs.size+1)::us,[]⟩ (JT (s.heap.objs.size+1)::(us++ds)) _ _ E (hr.make C us [])
  (I2.oS.make C us []) (hb _ (JT (s.heap.objs.size+1)::us) I2.bX hl) r2 hq) λr s' zi=>?_)
 cases r with
 |error e=>exact hx XI σ _ _ e s' I2 zi
 |ok fl=>
  cases fl with
  |ret u=>
   obtain⟨v,H',I3,rv,ev,q3⟩:=I2.after zi;subst ev;exact⟨rv,⟨V.ref<|s.heap.objs.size+1,H',I3,rfl,q3⟩⟩
  |next=>exact Jr zi
  |brk=>exact Jr zi
  |cont=>exact Jr zi
def Qsj(M:Mk X.K C f)(F:aO X.prog X.w X.K X.mg X.base CX k f fd ps sp)(hr:az (k+1) X.A)(hg:Gl X x)(hm:X.mg x=some (.ref C))(hb:Binds X.K fd ps ds)(hd:ai f9 ds)(hx:g7 CX X E)
  (bO:(x == ("__debug__" : Str))=false:=by decide):PE X (.Call (.Name x p) [] [] pos) (OV C sp f9 E bD):=by
 intro XI s σ H Q I h;refine Yq<|xE I hg hm ?_ bO;exact X1 I.bX M.kp<|QrX M F hr hb hd hx I .nil h
end
section
variable{X:Cx}{CX:iV}{k:Nat}{f C:Xb}{fd:Z3}{ps ks:List Str}{sp:Sp}{E:XK}{x m:Str}{p pos apos kpos:Pos}{e o:Zm}{es:List Zm}{kws:List ml}{te ta:TE}{t tk:TA}{nm:Option Str}
variable{g:List Xd->List Xd->List Xd}{gV:List V->List V->List V}
end
structure Yx (N P:List Str) (sc:jd):Prop where
 kind:sc.kind=.function
 co:sc.isCoroutine=false
 gen:sc.isGenerator=false
 nd:N.Nodup
 pre:N.take P.length=P
 par:∀x∈P,sc.names.lookup x=some .local∨sc.names.lookup x=some .cell
 s_:∀y∈sc.names,y.2≠.free
def Qi9{kindOf:Str->Option mE}:∀{binds:List (Str×Xd)}{m:Str->Option Xd},(∀v,(x,v)∉binds)->bindL kindOf binds m x=m x
 |[],_,_=>rfl
 |(n,v)::r,m,h=>by
  unfold bindL;rw[Qi9 λw hw=>h w<|QQ _ hw];split
  ·have:x≠n:=by rintro rfl;exact h v Q1
   simp[this]
  ·rfl
def Qjb{kindOf:Str->Option mE}:∀{binds:List (Str×Xd)}{m:Str->Option Xd},(∀v,(x,v)∉binds)->bindC kindOf binds m x=m x
 |[],_,_=>rfl
 |(n,v)::r,m,h=>by
  unfold bindC;rw[Qjb λw hw=>h w<|QQ _ hw];split
  ·rfl
  ·have:x≠n:=by rintro rfl;exact h v Q1
   simp[this]
def Qja{kindOf:Str->Option mE}:∀{P:List Str}{vs:List Xd}{i:Nat}{m:Str->Option Xd},P.Nodup->P[i]? = some x->vs[i]? = some v->kindOf x=some .local ->
  bindL kindOf (P.zip vs) m x=some v
 |[],_,_,_,_,h,_,_=>by simp at h
 |_::_,[],_,_,_,_,h,_=>by simp at h
 |p::P,w::vs,0,m,nd,h1,h2,hk=>by
  simp at h1 h2;subst h1;subst h2;show bindL kindOf ((p,w)::P.zip vs) m p=_;unfold bindL;rw[Qi9 λv hv=>(JI.mp nd).1 (Ek hv).1,X9 hk];simp
 |p::P,w::vs,i+1,m,nd,h1,h2,hk=>by
  unfold bindL;exact Qja (JI.mp nd).2 (by simpa using h1) (by simpa using h2) hk
def Qjc{kindOf:Str->Option mE}:∀{P:List Str}{vs:List Xd}{i:Nat}{m:Str->Option Xd},P.Nodup->P[i]? = some x->vs[i]? = some v->kindOf x≠some .local ->
  bindC kindOf (P.zip vs) m x=some v
 |[],_,_,_,_,h,_,_=>by simp at h
 |_::_,[],_,_,_,_,h,_=>by simp at h
 |p::P,w::vs,0,m,nd,h1,h2,hk=>by
  simp at h1 h2;subst h1;subst h2;show bindC kindOf ((p,w)::P.zip vs) m p=_;unfold bindC;rw[Qjb λv hv=>(JI.mp nd).1 (Ek hv).1,X8 hk];simp
 |p::P,w::vs,i+1,m,nd,h1,h2,hk=>by
  unfold bindC;exact Qjc (JI.mp nd).2 (by simpa using h1) (by simpa using h2) hk
def start(N:List Str)(vs:List V):St:=vs.map some++Jc (N.length - vs.length) none
def bP(CX:iV)(P:QB)(w:Jh)(K:Ws)(mg:Str->Option Xd)(base:ZF)(N:List Str)(qual:Str)(scope:jd)(f:Xb)(cd:Xd)(A:Jo)(outer:List Env)(s:Xe)(H:Hp)(E:XK):Cx where
 prog:=P
 w:=w
 K:=K
 mg:=mg
 base:=base
 A:=A.deeper<|envOfC qual scope s.heap.objs.size f cd
 N:=N
 s₀:=s
 H₀:=H
 env:=envOfC qual scope s.heap.objs.size f cd
 outer:=outer
 stack:=envOfC qual scope s.heap.objs.size f cd::outer
 ex:=[]
 calm:=true
 fn:=λ_=>true
 pn:=[]
 xe:=λe s'=>Xi (Xg P w) (A.deeper<|envOfC qual scope s.heap.objs.size f cd) (leaving (envOfC qual scope s.heap.objs.size f cd) e) (λ_ sS=>CX outer H s E e sS) (λe' sS=>CX outer H s E e' sS) s'
def Vi{sc:jd}(h:sc.names.lookup x=some .cell):∃c,(cellsFrom n sc.names []).lookup x=some c:=by
 have q:=W' sc.names n []<|.inl h;exact Option.isSome_iff_exists.mp q
def QiL{K:Ws} 
  (S:Yx N ps scope)(hd:A.handled=none)(e0:fW P w K mg base A outer s H)(hl:vs.length=ps.length)(r:ai vs us)
  (x:InCallC s s.heap.objs.size (bindL (envOfC qual scope s.heap.objs.size f cd).kindOf (ps.zip us) λ_=>none) (cellsFrom (s.heap.objs.size+1) scope.names []) (bindC (envOfC qual scope s.heap.objs.size f cd).kindOf (ps.zip us) λ_=>none) s1) :
  Inv (bP CX P w K mg base N qual scope f cd A outer s H E) [] (start N vs) H s1:=by
 have hpl:ps.length<=N.length:=by have:=congrArg List.length S.pre;rw[yd] at this;omega
 obtain⟨h1,tk,rfl,hk⟩:=x.done;have yN:∀b:Xb,b∉(bP CX P w K mg base N qual scope f cd A outer s H E).ex:=λb z=>Z_ (show b∈([]:List Xb) from z) (by simp)
 refine⟨⟨e0.mod,S.kind,rfl,rfl,Qd _,λy z c h1 h2=>?_,λy hy=>?_,λy c _ h=>?_,λ_=>hd,Around.frames_deeper e0.frames,.inr ⟨rfl,rfl⟩,λb z=>Z_ z<|yN b,e0.bs,e0.j9,λb _ _=>yN b,λb z=>Z_ z<|yN b,e0.cw,e0.nv⟩,
  rfl,e0.bare,Un.kept hk,⟨_,x.toInCall.ns,λi y v h1 h2 h3=>?_⟩,λy c h=>⟨_,x.cell y c h⟩,e0.ar.fresh<|Qd _,λy c h=>?_,λp hp=>Z_ (show p∈([]:List (Xb×Xo)) from hp)<|by simp,e0.ar.kept hk,?_⟩
 ·exact name_of_addr x.apart (WM h1)<|WM h2
 ·have hy:=hy;rcases hy with hy | hy
  ·exact Vi hy
  ·exact Z_ rfl<|S.s_ _<|WM hy
 ·exact JG<|x.above y c<|WM h
 ·have hi:i<vs.length:=by
   unfold start at h2;by_cases hi:i<vs.length
   ·exact hi
   ·rw[MM<|by simpa using hi] at h2;rw[EW] at h2;split at h2<;>cases h2
  have ha:vs[i]? = some v:=by
   unfold start at h2;rw[ET<|by simpa using hi,Qq] at h2;cases e:vs[i]? with
   |none=>rw[e] at h2;cases h2
   |some a=>rw[e] at h2;cases h2;rfl
  obtain⟨u,hu,rv⟩:=r.get ha;have hp:ps[i]? = some y:=by
   rw[<- S.pre,List.getElem?_take_of_lt<|by omega];exact h1
  have N4:ps.Nodup:=by rw[<- S.pre];exact S.nd.sublist<|Ew _ _
  refine⟨u,rv,?_⟩;rcases S.par y (Jb hp) with k | k
  ·exact .inl ⟨k,Qja N4 hp hu k⟩
  ·obtain⟨c,e⟩:=Vi k;refine .inr ⟨.inl k,c,e,?_⟩;have q:=x.cell y c e;rw[Qjc N4 hp hu (by show scope.names.lookup y≠_;rw[k];decide)] at q;exact q
 ·exact e0.ar.fresh<|JG<|x.above y c<|WM h
 ·unfold start;show _=N.length;rw[Qj,Qb,EK];omega
def QBr{K:Ws}{kV:Xd} 
  (lk:K.lookup f=some ⟨oc,od,.func<|WB name qual params body scope dV kV doc pm an ao ct,oC⟩)(bG:WN K ao qual=true)(S:Yx N ps scope)
  (len:∀vs H Q E,sp vs H Q E->vs.length=ps.length)
  (XL:∀(A:Jo)(outer:List Env)(s:Xe)(H:Hp)(vs:List V)(Q:VK)(E:XK),az k (A.deeper<|envOfC qual scope s.heap.objs.size f ao)->sp vs H Q E ->
   ∃t,aV (bP CX P w K mg base N qual scope f ao A outer s H E) body t/\t { nx:=λ_ H'=>Q .aH H',rt:=Q } (start N vs) H) :
  aO P w K mg base CX (k+1) f (WB name qual params body scope dV kV doc pm an ao ct) ps sp:=by
 refine⟨len,λA outer s H args us vs Q E hr e0 hb r ba=>?_⟩;have hl:=len _ _ _ _ ba;have KX:=e0.mod.oH.keeps λb o e=>(e0.bs b o e).1
 have lim:=e0.mod.nolimit.keeps λb o e=>(e0.bs b o e).1
 have hZ:∀y∈ps.zip us,scope.names.lookup y.1=some .local∨(scope.names.lookup y.1=some .cell/\((cellsFrom (s.heap.objs.size+1) scope.names []).lookup y.1).isSome=true):=λ⟨n,v⟩ hy=>by
  rcases S.par n (Ek hy).1 with q | q
  ·exact .inl q
  ·exact .inr ⟨q,W' _ _ _<|.inl q⟩
 refine RB hr.depth (KX _ _ lk) rfl S.co S.gen rfl (X2 KX bG)<|hb _ _ _ _<|Vd S.kind hZ λenv he s1 x=>?_;subst he;refine⟨lim.keeps x.toInCall.keep,codeAny_func ?_⟩;obtain⟨t,ht,hq⟩:=XL A outer s H vs Q E (hr.deeper _) ba;have I:Inv (bP CX P w K mg base N qual scope f ao A outer s H E) [] (start N vs) H s1:=QiL S hr.hd e0 hl r x;refine Xk (ht [] s1 (start N vs) H _ I hq) (λfl s' hs=>?_) λe s' hs=>hs
 have fin:∀{σ':St}{H':Hp}{v:V}{u:Xd},Inv (bP CX P w K mg base N qual scope f ao A outer s H E) [] σ' H' s'->RelV v u->Q v H'->CE outer P w H s Q u s':=
  λ{σ' H' v u} J rv q=>⟨v,H',J.os,J.bare,J.base,J.ar,rv,q⟩
 cases fl with
 |ret u=>
  obtain⟨v,σ',H',J,rv,q⟩:=hs;exact fin J rv q
 |next=>
  obtain⟨σ',H',J,q⟩:=hs;exact fin (v:=V.aH) J rfl q
 |brk=>
  obtain⟨_,_,_,q⟩:=hs;exact Jr q
 |cont=>
  obtain⟨_,_,_,q⟩:=hs;exact Jr q
section
variable{X:Cx}{x:Str}{p pos:Pos}{e:Zm}{es:List Zm}{t:TA}{id T:String}{r:List V->Hp->VK->Prop}
def fZ(r:List V->Hp->VK->Prop)(t:TA):TE:=λσ H Q=>t σ H λvs H1=>r vs H1 Q
def Z4(hc:aG X (.builtin id) r)(hg:Gl X x)(hm:X.mg x=none)(hv:Xm x=some (.builtin id))(ha:PA X (e::es) t)(hn:x ≠ "__name__" := by decide)(bO:(x == ("__debug__" : Str))=false:=by decide)
  (he:Xh (e::es) X.env=(false,eval e X.env)::Xh es X.env:=by rfl)(hpl:(Xp pos<|Xh es X.env).any (·.1)=false:=by rfl):PE X (.Call (.Name x p) (e::es) [] pos) (fZ r t):=by
 intro XI s σ H Q I h;exact Yq<|rP I hg hm hv (PyProof.Rows.callWith_builtin1 (aD (ha pos XI s σ H _ I h) λus s1 ⟨vs,H1,I1,r1,q1⟩=>hc XI s1 σ H1 vs us Q I1 r1 q1) he hpl) hn bO
def Zg(hc:aG X (.type T) r)(hg:Gl X x)(hm:X.mg x=none)(hv:Xm x=some (.type T))(ha:PA X (e::es) t)(hn:x ≠ "__name__" := by decide)(bO:(x == ("__debug__" : Str))=false:=by decide)
  (he:Xh (e::es) X.env=(false,eval e X.env)::Xh es X.env:=by rfl)(hpl:(Xp pos<|Xh es X.env).any (·.1)=false:=by rfl):PE X (.Call (.Name x p) (e::es) [] pos) (fZ r t):=by
 intro XI s σ H Q I h;exact Yq<|rP I hg hm hv (Zi (aD (ha pos XI s σ H _ I h) λus s1 ⟨vs,H1,I1,r1,q1⟩=>hc XI s1 σ H1 vs us Q I1 r1 q1) he hpl) hn bO
end
end L2
namespace HT
section
open PySem.SeqAt
open PySem.AutoSeq1 (wpAny_loadPart')
open PySem.MeetsSeq PySem.MeetsSeq2 PySem.MeetsSeq3
end
section
variable{prog:QB}{w:Jh}{A:Jo}{E:Xd->Xe->Prop}{s:Xe}
def Qyx(ht:IsTup s.heap t vs.toArray)(hb:IsTup s.heap b ws.toArray)(hv:vs≠[])
  (h1:ws=[]->Q (.ref t) s)(h2:ws≠[]->Q (.ref s.heap.objs.size) { s with heap:=s.heap.push { cls:=.type "tuple",data:=.seq (vs++ws).toArray } })
  (qM:vs.length+ws.length<=Xj):Xi (Xg prog w) A (Xr .Add (.ref t)<|.ref b) Q E s:=by
 obtain⟨⟨cls,dd,data,sl⟩,ho,hc,n,hd⟩:=id ht;obtain⟨⟨Hj,Ct,data2,sP⟩,tV,i7,n2,hd2⟩:=id hb;subst hc hd i7 hd2;have e:vs.toArray++ws.toArray=(vs++ws).toArray:=by simp
 by_cases hw:ws=[]
 ·exact Im ⟨_,ho,rfl⟩ ⟨_,tV,rfl⟩ KL Iw W_ XM (XN _ _)
   (tuple_addW1 t b vs.toArray ws.toArray n n2 dd Ct sl sP (by simpa using hv)<|by simp[hw]) ⟨ho,tV,h1 hw⟩
 ·refine Im ⟨_,ho,rfl⟩ ⟨_,tV,rfl⟩ KL Iw W_ XM (XN _ _)
   (tuple_addW2 t b vs.toArray ws.toArray n n2 dd Ct sl sP (by simpa using hv) (by simpa using hw) (by rw[Qm];exact qM)) ⟨ho,tV,?_⟩
  rw[e];exact h2 hw
def aT(n d:Nat):Option Int->Nat
 |none=>d
 |some v=>if v<0 then(v+(n:Int)).toNat else min v.toNat n
def V4(n d:Nat):aT n d none=d:=rfl
def UU(n d k:Nat):aT n d (some (k:Int))=min k n:=by
 show(if k<0 then(k+(n:Int)).toNat else min (k:Int).toNat n)=min k n;rw[X8<|by omega,Qx]
def QEJ(n d:Nat)(hd:d<=n)(o:Option Int):aT n d o<=n:=by
 cases o with
 |none=>exact hd
 |some v=>
  show(if v<0 then(v+n).toNat else min v.toNat n)<=n;by_cases hv:v<0
  ·rw[X9 hv];omega
  ·rw[X8 hv];exact LZ _ _
def T3(v:Int)(n d:Nat):(if v<0 then max (v+(n:Int)) 0 else min v (n:Int))=((aT n d (some v):Nat):Int):=by
 show(if v<0 then max (v+n) 0 else min v n)=(((if v<0 then(v+n).toNat else min v.toNat n):Nat):Int);by_cases hv:v<0
 ·simp only[X9 hv];omega
 ·simp only[X8 hv];omega
def QmE(lo hi:Option Int)(n:Nat):QeT lo hi 1 (n:Int)=(((aT n 0 lo:Nat):Int),((aT n n hi:Nat):Int)):=by
 have h1:¬(1<0):=by omega
 refine rV ?_ ?_
 ·cases lo with
  |none=>rfl
  |some v=>exact T3 v n 0
 ·cases hi with
  |none=>rfl
  |some v=>exact T3 v n n
def Ql4(i j:Nat):YQ (i:Int) (j:Int) 1=j - i:=by
 unfold YQ;have h1:1 > 0:=by omega
 split<;>omega
def QgE(p:nM v o)(h:Q o s):Xi (Xg prog w) A (QDi v) Q E s:=by
 cases p with
 |none=>exact slicePart_none h
 |int i t=>exact slicePart_int h
def Qb6{lo:Option Int}{Q:Int×Int×Nat->Xe->Prop}(hs:s.heap.IsSliceOf sl vl vu .none)(pl:nM vl lo)(pu:nM vu hi)
  (h:Q (((aT n 0 lo:Nat):Int),1,aT n n hi - aT n 0 lo) s):Xi (Xg prog w) A (QDj (.ref sl)<|pure (n:Int)) Q E s:=by
 obtain⟨os,tQ,Cm,cI⟩:=id hs;refine Xa<|Xa<|om tQ cI rfl<|Xa<|om tQ cI rfl<|Xa<|om tQ cI rfl<|Qg ?_;refine Xa<|slicePart_none ?_;refine Xa<|QgE pl<|Xa<|QgE pu<|Xa<|Qg ?_;show Xi _ _ (match QeT lo hi 1 n with | (lo,hi)=>pure (lo,(1:Int),YQ lo hi 1)) _ _ s;rw[QmE lo hi n];show Xi _ _ (pure (((aT n 0 lo:Nat):Int),1,YQ ((aT n 0 lo:Nat):Int) ((aT n n hi:Nat):Int) 1)) _ _ s;rw[Ql4];exact Qg h
def Qsc(xs:Array Xd)(i k:Nat):((Qv k).filterMap λ(m:Nat)=>xs[((i:Int)+(m:Int)*1).toNat]?).toArray=((xs.toList.drop i).take k).toArray:=by
 have e:(λ(m:Nat)=>xs[(i+(m:Int)*1).toNat]?)=λm=>xs[i+m]? := by
  funext m
  have:(i+(m:Int)*1).toNat=i+m:=by omega
  rw[this]
 rw[e];have:=pick_run xs i k;rw[Z9] at this;have e2:((λx=>xs[x]?)∘λx=>i+x)=λm=>xs[i+m]? := rfl
 rw[e2] at this;rw[this]
def Qev{lo:Option Int}(ht:IsTup s.heap t items)(hs:s.heap.IsSliceOf sl vl vu .none)(pl:nM vl lo)(pu:nM vu hi)
  (hw:¬(aT items.size 0 lo=0/\aT items.size items.size hi=items.size))
  (h:Q (.ref s.heap.objs.size) { s with heap:=s.heap.push { cls:=.type "tuple",data:=.seq ((items.toList.drop<|aT items.size 0 lo).take<|aT items.size items.size hi - aT items.size 0 lo).toArray } })
  (qM:items.size<=Xj):Xi (Xg prog w) A (XA (.ref t)<|.ref sl) Q E s:=by
 have jz:sizeOk (.seq ((items.toList.drop<|aT items.size 0 lo).take<|aT items.size items.size hi - aT items.size 0 lo).toArray):=by
  show((items.toList.drop<|aT items.size 0 lo).take<|aT items.size items.size hi - aT items.size 0 lo).toArray.size<=Xj;rw[Qm,yd,yb,Jd];omega
 obtain⟨os,tQ,Cm,cI⟩:=id hs;have G5:s.TypeIs (.ref sl) "slice" := ⟨os,tQ,Cm⟩;unfold XA
 try with_reducible refine ZE ?_
 first | refine Xa (Qg ?_) | skip
 refine Xa (QCR ht.typeIs (by decide) ?_);refine Xa (Z2 ht.typeIs JW
  (ZQ JW ht.typeIs PR ?_<|QCt _ _))
 show Xi _ _ (QeD (.ref t) >>= _) _ _ s;refine Xa<|tupleItemsOf_ ht<|Xa<|Dn G5 ?_;refine Xa<|Qb6 hs pl pu ?_;have hno:¬((((aT items.size 0 lo:Nat):Int) == 0&&(1:Int) == 1&&(aT items.size items.size hi - aT items.size 0 lo) == items.size)=true):=by
  intro q;rw[Js,Js] at q;have q1:=eq_of_beq q.1.1;have q2:=eq_of_beq q.2;exact hw ⟨by omega,by omega⟩
 show Xi _ _ (if(((aT items.size 0 lo:Nat):Int) == 0&&1 == 1&&(aT items.size items.size hi - aT items.size 0 lo) == items.size)=true then _ else _) _ _ s;rw[X8 hno,Qsc]
 first
  |exact Xa<|JC (Qg ⟨_,rfl,Qg h⟩) jz
  |exact Xa<|JC (Xa<|Qg<|Qg ⟨_,rfl,Qg h⟩) jz
  |exact Xa<|Xa<|JC (Qg<|Qg ⟨_,rfl,Qg h⟩) jz
  |exact Xa<|Xa<|JC (Qg ⟨_,rfl,Qg h⟩) jz
end
end HT
namespace L2
abbrev TO:=St->Hp->(Option Int->Hp->Prop)->Prop
def PO(X:Cx)(e:Option Zm)(t:TO):Prop:=
 ∀(XI:List (Xb×Xo))(s:Xe)(σ:St)(H:Hp)(Q:Option Int->Hp->Prop),Inv X XI σ H s->t σ H Q ->
  Xi (Xg X.prog X.w) X.A (evalPart e X.env) (λu s'=>∃o H',Inv X XI σ H' s'/\nM u o/\Q o H') X.xe s
def Qv3:TO:=λ_ H Q=>Q none H
def QDn(t:TE):TO:=λσ H Q=>t σ H λx H1=>∃i,x=.int i/\Q (some i) H1
def intsAre_of:∀{us:List Xd},ai (ns.map V.int) us->rM us ns:=by
 induction ns with
 |nil=>intro us r;rw[A_] at r;cases r;exact .nil
 |cons n ns ih=>
  intro us r;cases r with
  |cons r1 r2=>
   obtain⟨t,e⟩:=r1;subst e;exact .cons n t<|ih r2
section
variable{X:Cx}{e:Zm}{te:TE}{lo hi:Option Zm}{tl th:TO}{pos p2:Pos}
def Up:PO X none Qv3:=by
 intro XI s σ H Q I h;exact Qg ⟨none,H,I,.none,h⟩
def Uq(h:PE X e te):PO X (some e) (QDn te):=by
 intro XI s σ H Q I hw;refine aD (h XI s σ H _ I hw) λu s1 ⟨x,H1,I1,r1,q1⟩=>?_
 obtain⟨i,rfl,q⟩:=q1;obtain⟨t,rfl⟩:=r1;exact⟨some i,H1,I1,.int i t,q⟩
def nJ(X:Cx)(r:V->Option Int->Option Int->Hp->VK->Prop):Prop:=
 ∀(XI:List (Xb×Xo))(s:Xe)(σ:St)(H:Hp)(x:V)(v vl vu:Xd)(lo hi:Option Int)(sl:Xb)(Q:VK),Inv X XI σ H s->RelV x v->s.heap.IsSliceOf sl vl vu .none->nM vl lo->nM vu hi->r x lo hi H Q ->
  ∃T id,typeLookup (.type T) "__getitem__" = pure (some<|.builtin id)/\s.TypeIs v T/\Xi (Xg X.prog X.w) X.A (XA v<|.ref sl) (EP X XI σ Q) X.xe s
def tSl(r:V->Option Int->Option Int->Hp->VK->Prop)(te:TE)(tl th:TO):TE:=λσ H Q=>te σ H λx H1=>tl σ H1 λl H2=>th σ H2 λu H3=>r x l u H3 Q
def Wq(hr:nJ X r)(he:PE X e te)(hl:PO X lo tl)(hu:PO X hi th):PE X (.Subscript e (.Slice lo hi none p2) pos) (tSl r te tl th):=by
 intro XI s σ H Q I h;refine Ni<|aD (he XI s σ H _ I h) λv s1 ⟨x,H1,I1,r1,q1⟩=>(wpAny_Slice<|aD (hl XI s1 σ H1 _ I1 q1) λvl s2 ⟨l,H2,I2,pl,q2⟩=>aD (hu XI s2 σ H2 _ I2 q2) λvu s3 ⟨u,H3,I3,pu,q3⟩=>?_);refine Qg ?_
 have I4:Inv X XI σ H3 { s3 with heap:=s3.heap.push { cls:=.type "slice",data:=.fields #[vl,vu,.none] } }:=I3.kept λb ob q=>Qf _ q
 obtain⟨T,id,hT,ht,hg⟩:=hr XI { s3 with heap:=s3.heap.push { cls:=.type "slice",data:=.fields #[vl,vu,.none] } } σ H3 x v vl vu l u s3.heap.objs.size Q I4 r1 (QCB ..) pl pu q3;exact tail_any ht hT hg (by with_unfolding_all rfl)
def jI(xs:List V)(lo hi:Option Int):List V:=(xs.drop<|HT.aT xs.length 0 lo).take<|HT.aT xs.length xs.length hi - HT.aT xs.length 0 lo
def QfW(xs:List V)(lo hi:Option Int):(jI xs lo hi).length<=xs.length:=by
 unfold jI;rw[yd,yb];omega
def QFA(K:Ws):V->Option Int->Option Int->Hp->VK->Prop:=λx lo hi H Q=>∃a xs,x=.ref a/\aM K H a xs /\
 ¬(HT.aT xs.length 0 lo=0/\HT.aT xs.length xs.length hi=xs.length)/\∀p,H p=none->Q (.ref p) (upd H p<|.tup<|jI xs lo hi)
def QzG:nJ X (QFA X.K):=by
 intro XI s σ H x v vl vu lo hi sl Q I rx hs pl pu h;obtain⟨a,xs,rfl,hx,hw,q⟩:=h;cases rx;obtain⟨ah,r,ht,hz⟩:=I.tuple hx;have hlen:ah.toArray.size=xs.length:=by rw[Qm];exact r.length.symm
 refine⟨"tuple",_,JW.lookup,ht.typeIs,(HT.Qev ht hs pl pu (by rw[hlen];exact hw) ?_ (by rw[hlen];exact hz))⟩;rw[hlen];refine⟨.ref s.heap.objs.size,_,I.laid (λb ob q=>Qf _ q) (Qd _) ?_,rfl,q _<|I.ar.fresh<|Qd _⟩;exact⟨QK (QfW xs lo hi) hz,_,(r.drop<|HT.aT xs.length 0 lo).take<|HT.aT xs.length xs.length hi - HT.aT xs.length 0 lo,d_.new _ _⟩
def QDE(K:Ws):R2:=λx y H Q=>∃a b xs ys,x=.ref a/\y=.ref b/\aM K H a xs/\aM K H b ys/\xs≠[]/\xs.length+ys.length<=Xj /\
 (ys=[]->Q (.ref a) H)/\(ys≠[]->∀p,H p=none->Q (.ref p) (upd H p<|.tup<|xs++ys))
def ai.gu(r:ai xs us):us=[]↔xs=[]:=by
 cases r with
 |nil=>simp
 |cons _ _=>simp
def Qxb:aI X (Xr .Add) (QDE X.K):=by
 intro XI s σ H x y v u Q I rx ry h;obtain⟨a,b,xs,ys,rfl,rfl,ha,hb,hx,hz,q1,q2⟩:=h;cases rx;cases ry;obtain⟨ah,r1,p1,_⟩:=I.tuple ha;obtain⟨fP,r2,p2,_⟩:=I.tuple hb;refine HT.Qyx p1 p2 (λz=>hx<|r1.gu.mp z) (λz=>⟨.ref a,H,I,rfl,q1<|r2.gu.mp z⟩) (λz=>?_) (by rw[<- r1.length,<- r2.length];exact hz);refine⟨.ref s.heap.objs.size,_,I.laid (λb ob q=>Qf _ q) (Qd _) ?_,rfl,q2 (λw=>z<|r2.gu.mpr w) _<|I.ar.fresh<|Qd _⟩;exact⟨by rw[Qj];exact hz,_,r1.append r2,d_.new _ _⟩
end
def jx(n:Nat)(i:Int):Option Nat:=if 0<=i then(if i<n then some i.toNat else none) else if -(n:Int)<=i then some (i+n).toNat else none
def gb{α:Type}(xs:List α)(i:Int):Option α:=(jx xs.length i).bind λj=>xs[j]?
def TQ(h:jx n i=some j):seqIndex? i n=some j/\j<n /\ -(n:Int)<=i/\i<n:=by
 unfold jx at h;by_cases h0:0<=i
 ·rw[X9 h0] at h;by_cases h1:i<n
  ·rw[X9 h1] at h;have e:=QL h;exact⟨by rw[C5 h0 h1,e],by omega,by omega,h1⟩
  ·rw[X8 h1] at h;cases h
 ·rw[X8 h0] at h;by_cases h1 : -n<=i
  ·rw[X9 h1] at h;have e:=QL h;exact⟨by rw[Dm (by omega) h1,e],by omega,h1,by omega⟩
  ·rw[X8 h1] at h;cases h
def DK(h:gb xs i=some v):∃j,seqIndex? i xs.length=some j/\xs[j]? = some v/\j<xs.length /\ -(xs.length:Int)<=i/\i<xs.length:=by
 unfold gb at h;cases e:jx xs.length i with
 |none=>rw[e] at h;cases h
 |some j=>
  rw[e] at h;obtain⟨h1,h2,h3,h4⟩:=TQ e;exact⟨j,h1,h,h2,h3,h4⟩
def QX{α:Type}{xs:List α}{j:Nat}{v:α}(h:xs[j]? = some v):gb xs (j:Int)=some v:=by
 have hj:=(QR.mp h).1;have e:jx xs.length j=some j:=by
  unfold jx;rw[X9<|by omega,X9<|by omega];simp
 unfold gb;rw[e];exact h
def sf(xs:List α)(v:α):gb (xs++[v]) (-1)=some v:=by
 have hl:(xs++[v]).length=xs.length+1:=by simp
 have e:jx (xs++[v]).length (-1)=some xs.length:=by
  unfold jx;rw[X8<|by decide,X9<|by omega]
  congr 1
  omega
 unfold gb;rw[e];simp
def Kx(b:Zm):Prop:=∀o i,subscripted b false o i=operate [o,i] (XA o i)
def iU(X:Cx)(r:R2):Prop:=
 ∀(value slice:Zm)(XI:List (Xb×Xo))(s:Xe)(σ:St)(H:Hp)(x y:V)(v u:Xd)(Q:VK),Inv X XI σ H s->RelV x v->RelV y u->r x y H Q ->
  subscripted slice false v u=operate [v,u] (XA v u)->Xi (Xg X.prog X.w) X.A (subscriptTail value slice v u) (EP X XI σ Q) X.xe s
def ym(X:Cx)(id:String)(r:V->List V->Hp->VK->Prop):Prop:=
 ∀(XI:List (Xb×Xo))(s:Xe)(σ:St)(H:Hp)(x:V)(xs:List V)(v:Xd)(us:List Xd)(Q:VK),Inv X XI σ H s->RelV x v->ai xs us->r x xs H Q ->
  Xi (Xg X.prog X.w) X.A (call (.builtin id) (v::us)) (EP X XI σ Q) X.xe s
section
variable{X:Cx}{a b:Zm}{ta tb:TE}{pos:Pos}
def Z8(hr:iU X r)(ha:PE X a ta)(hb:PE X b tb)(hs:Kx b):PE X (.Subscript a b pos) (cY r ta tb):=by
 intro XI s σ H Q I h;exact Ni<|MT ha hb I h λv u s2 x y H2 I2 rx ry q=>hr a b XI s2 σ H2 x y v u Q I2 rx ry q<|hs _ _
def qZ(K:Ws):R2:=λx y H Q=>∃p xs i v,x=.ref p/\y=.int i/\aA K H p xs/\gb xs i=some v/\Q v H
def Ng(K:Ws):R2:=λx y H Q=>∃p xs i v,x=.ref p/\y=.int i/\aM K H p xs/\gb xs i=some v/\Q v H
def QEP:R2:=λx y H Q=>∃z i c,x=.str z/\y=.int i/\z.length<=Xj/\gb z.cps.toList i=some c/\Q (.str ⟨#[c]⟩) H
def Za:iU X (qZ X.K):=by
 intro value slice XI s σ H x y v u Q I rx ry h hs;obtain⟨p,xs,i,z,rfl,rfl,hq,he,q⟩:=h;cases rx;obtain⟨t,rfl⟩:=ry;obtain⟨ah,r,pl,hz⟩:=I.list hq;obtain⟨j,h1,h2,h3,h4,h5⟩:=DK he;obtain⟨w,ew,gr⟩:=r.get h2;have hl:=r.length;have hn:=xo;have fin:EP X XI σ Q w s:=⟨z,H,I,gr,q⟩;by_cases h0:0<=i
 ·have hj:i.toNat=j:=by
   rw[C5 h0 h5] at h1;exact QL h1
  exact item_listR pl.isList h0 (by omega) (by rw[hj];simpa using ew) fin hs
 ·have hj:(i+ah.toArray.size).toNat=j:=by
   rw[Dm (by omega) h4] at h1;rw[Qm,<- hl];exact QL h1
  exact S5 pl.isList.typeIs QCV.lookup
   (S6 pl.isList (by omega) (by rw[Qm]<;>omega) (by omega) (by rw[hj];simpa using ew) ⟨rfl,fin⟩) hs
def nV:iU X (Ng X.K):=by
 intro value slice XI s σ H x y v u Q I rx ry h hs;obtain⟨p,xs,i,z,rfl,rfl,hq,he,q⟩:=h;cases rx;obtain⟨t,rfl⟩:=ry;obtain⟨ah,r,pl,hz⟩:=I.tuple hq;obtain⟨j,h1,h2,h3,h4,h5⟩:=DK he;obtain⟨w,ew,gr⟩:=r.get h2;have hl:=r.length;have hn:=xo;have fin:EP X XI σ Q w s:=⟨z,H,I,gr,q⟩;exact S5 pl.typeIs slot_tuple_getitem.lookup
  (getItem_tuple pl (by omega) (by omega) (by rw[Qm,<- hl];exact h1) (by simpa using ew) ⟨rfl,fin⟩) hs
def QBf:iU X QEP:=by
 intro value slice XI s σ H x y v u Q I rx ry h hs;obtain⟨z,i,c,rfl,rfl,hz,he,q⟩:=h;obtain⟨t,rfl⟩:=rx;obtain⟨t',rfl⟩:=ry;obtain⟨j,h1,h2,h3,h4,h5⟩:=DK he;have hl:z.cps.toList.length=z.length:=by simp[Str.length]
 rw[hl] at h1 h4 h5;have hn:=xo;exact tail_any (AE s z t) slot_str_getitem.lookup (getItem_str (by
  have e1:decide (i < -(2^63:Int))=false:=X' (by omega);have e2:decide (i≥2^63)=false:=X' (by omega);rw[e1,e2,Bool.or_false]) (by rw[h1];simpa using h2) ⟨.str ⟨#[c]⟩,H,I.tok _,⟨_,rfl⟩,q⟩) hs
def Qmk(ah:List Xd)(n j:Nat)(u:Xd):pI (·.setIfInBounds j u) { cls:=.type "list",data:=.seq ah.toArray n }={ cls:=.type "list",data:=.seq (ah.set j u).toArray n }:=by
 simp[pI]
def Inv.lst(I:Inv X XI σ H s)(h:H p=some (.lst xs)) :
  ∃(ah:List Xd)(n:Nat),ai xs ah/\s.heap.get? p=some { cls:=.type "list",data:=.seq ah.toArray n }/\xs.length<=Xj:=by
 obtain⟨z,ah,n,r,e⟩:=I.ar p _ h;exact⟨ah,n,r,e,z⟩
def Inv.tu{ah:List Xd}(I:Inv X XI σ H s)(h:H p=some (.lst xs))
  (ho:s.heap.get? p=some { cls:=.type "list",data:=.seq ah.toArray n })(hf:f { cls:=.type "list",data:=.seq ah.toArray n }={ cls:=.type "list",data:=.seq fQ.toArray n' })(r:ai ys fQ)(hz:ys.length<=Xj)(t:Nat) :
  Inv X XI σ (upd H p<|.lst ys) { s with heap:=s.heap.update p f,toks:=t }:=by
 have e:(s.heap.update p f).get? p=some { cls:=.type "list",data:=.seq fQ.toArray n' }:=by
  rw[EJ f ho (by rw[hf]<;>rfl),hf]
 refine I.write (by rw[h];trivial) (.inl rfl) (λb u hb q=>(VH _ _<|iM hb).trans q) ⟨_,e⟩ ?_
 exact⟨hz,fQ,n',r,e⟩
def An:V->V->V->Hp->(Hp->Prop)->Prop:=λo i v H Q=>∃p xs k j,o=.ref p/\i=.int k/\H p=some (.lst xs)/\jx xs.length k=some j/\Q (upd H p<|.lst<|xs.set j v)
def A8:MR X An:=by
 intro XI s σ H o i v ov iv u Q I ro ri rv h;obtain⟨p,xs,k,j,rfl,rfl,hp,hj,q⟩:=h;cases ro;obtain⟨t,rfl⟩:=ri;obtain⟨ah,n,r,ho,hz⟩:=I.lst hp;obtain⟨h1,h2,h3,h4⟩:=TQ hj;have hl:=r.length;have hn:=xo;have I':=
  I.tu hp ho (Qmk ah n j u) (r.set rv j) (by rw[Zn];exact hz) s.toks
 by_cases h0:0<=k
 ·have hk:k.toNat=j:=by
   rw[C5 h0 h4] at h1;exact QL h1
  exact PySem.W.ki_setAt ho h0 (by omega) (by rw[Qm,<- hl];exact h4) (by rw[hk];exact⟨_,I',q⟩)
 ·have hk:(k+ah.toArray.size).toNat=j:=by
   rw[Dm (by omega) h3] at h1;rw[Qm,<- hl];exact QL h1
  exact PySem.W.ki_setBack ho (by omega) (by rw[Qm,<- hl];exact h3) (by omega) (by rw[hk];exact⟨_,I',q⟩)
def Qij(lo hi:Option Int)(n:Nat):(sliceBounds lo hi none n).1=((HT.aT n 0 lo:Nat):Int)/\(sliceBounds lo hi none n).2.1=((HT.aT n n hi:Nat):Int)/\(sliceBounds lo hi none n).2.2=1:=by
 refine⟨?_,?_,rfl⟩
 ·cases lo with
  |none=>simp[sliceBounds,HT.aT]
  |some i=>
   simp only[sliceBounds,HT.aT,TC,show 1 > 0 by decide];by_cases h:i<0
   ·simp only[h,if_true]<;>omega
   ·simp only[h,if_false]<;>omega
 ·cases hi with
  |none=>simp[sliceBounds,HT.aT]
  |some i=>
   simp only[sliceBounds,HT.aT,TC,show 1 > 0 by decide];by_cases h:i<0
   ·simp only[h,if_true]<;>omega
   ·simp only[h,if_false]<;>omega
def Qhf(ah:List Xd)(lo hi:Option Int):slicePick ah.toArray lo hi none=((ah.drop<|HT.aT ah.length 0 lo).take<|HT.aT ah.length ah.length hi - HT.aT ah.length 0 lo).toArray:=by
 obtain⟨h1,h2,h3⟩:=Qij lo hi ah.toArray.size;unfold slicePick;rw[h1,h2,h3];simp only[sliceRange_one,pick_run]<;>rfl
def QFB(K:Ws):V->Option Int->Option Int->Hp->VK->Prop:=λx lo hi H Q=>∃a xs,x=.ref a/\aA K H a xs/\∀p,H p=none->Q (.ref p) (upd H p<|.lst<|jI xs lo hi)
def Qwc:nJ X (QFB X.K):=by
 intro XI s σ H x v vl vu lo hi sl Q I rx hs pl pu h;obtain⟨a,xs,rfl,hx,q⟩:=h;cases rx;obtain⟨ah,r,ht,hz⟩:=I.list hx;have hlen:=r.length;refine⟨"list",_,QCV.lookup,ht.isList.typeIs,(wpAny_getItem_list_slice ht.isList hs pl pu .none (by simp) ?_ (by rw[Qm]<;>omega))⟩;rw[Qhf,<- hlen];refine⟨.ref s.heap.objs.size,_,I.laid (λb ob q=>Qf _ q) (Qd _) ?_,rfl,q _<|I.ar.fresh<|Qd _⟩;exact⟨QK (QfW xs lo hi) hz,_,0,(r.drop<|HT.aT xs.length 0 lo).take<|HT.aT xs.length xs.length hi - HT.aT xs.length 0 lo,Qs _ rfl⟩
def rF:V->Bool
 |.aH=>true
 |.bl _=>true
 |.int _=>true
 |.str _=>true
 |_=>false
def qR:V->V->Bool
 |.aH,.aH=>true
 |.bl a,.bl b=>a == b
 |.bl a,.int b=>(if a then 1 else 0) == b
 |.int a,.bl b=>a == (if b then 1 else 0)
 |.int a,.int b=>a == b
 |.str a,.str b=>a == b
 |_,_=>false
def QBw(ry:RelV y u)(rx:RelV x v)(fy:rF y=true)(fx:rF x=true):IE A s u v (qR y x):=by
 cases y with
 |aH=>
  cases ry;cases x with
  |aH=>cases rx;exact SeqAt.EqAt.same _
  |bl b=>cases rx;exact SeqAt.EqAt.none_bool b
  |int b=>obtain⟨t,rfl⟩:=rx;exact SeqAt.EqAt.none_int b t
  |str b=>obtain⟨t,rfl⟩:=rx;exact SeqAt.EqAt.none_str b t
  |_=>exact Z_ (fx) Qw
 |bl a=>
  cases ry;cases x with
  |aH=>cases rx;exact SeqAt.EqAt.bool_none a
  |bl b=>cases rx;exact MF a b
  |int b=>obtain⟨t,rfl⟩:=rx;exact SeqAt.EqAt.bool_int a b t
  |str b=>obtain⟨t,rfl⟩:=rx;exact SeqAt.EqAt.bool_str a b t
  |_=>exact Z_ (fx) Qw
 |int a=>
  obtain⟨t',rfl⟩:=ry;cases x with
  |aH=>cases rx;exact SeqAt.EqAt.int_none a t'
  |bl b=>cases rx;exact SeqAt.EqAt.int_bool a t' b
  |int b=>obtain⟨t,rfl⟩:=rx;exact SeqAt.EqAt.int_int a t' b t
  |str b=>obtain⟨t,rfl⟩:=rx;exact Qju a t' b t
  |_=>exact Z_ (fx) Qw
 |str a=>
  obtain⟨t',rfl⟩:=ry;cases x with
  |aH=>cases rx;exact SeqAt.EqAt.str_none a t'
  |bl b=>cases rx;exact SeqAt.EqAt.str_bool a t' b
  |int b=>obtain⟨t,rfl⟩:=rx;exact Qjt a t' b t
  |str b=>obtain⟨t,rfl⟩:=rx;exact SeqAt.EqAt.str_str a t' b t
  |_=>exact Z_ (fx) Qw
 |_=>exact Z_ (fy) Qw
def i8(x:V)(u:Xd):Bool:=match u with
 |.none=>qR .aH x
 |.bool b=>qR (.bl b) x
 |.int i _=>qR (.int i) x
 |.str z _=>qR (.str z) x
 |_=>false
def P8(r:RelV y u)(f:rF y=true):i8 x u=qR y x:=by
 cases y with
 |aH=>cases r;rfl
 |bl b=>cases r;rfl
 |int i=>obtain⟨t,rfl⟩:=r;rfl
 |str z=>obtain⟨t,rfl⟩:=r;rfl
 |_=>exact Z_ (f) Qw
def AZ:∀{xs:List V}{us:List Xd},ai xs us->xs.all rF=true->us.any (i8 x)=xs.any λy=>qR y x
 |_,_,.nil,_=>rfl
 |y::xs,u::us,.cons r t,f=>by
  rw[Bg,Js] at f;rw[Y3,Y3,P8 r f.1,AZ t f.2]
def Ba(rx:RelV x v)(fx:rF x=true):∀{xs:List V}{us:List Xd},ai xs us->xs.all rF=true->∀u∈us,IE A s u v (i8 x u)
 |_,_,.nil,_=>λu hu=>by cases hu
 |y::xs,u::us,.cons r t,f=>λu' hu=>by
  rw[Bg,Js] at f;rcases Qt.mp hu with rfl | hu
  ·rw[P8 r f.1];exact QBw r rx f.1 fx
  ·exact Ba rx fx t f.2 u' hu
def tE(x:V)(xs:List V):Bool:=xs.any λy=>qR y x
def yG(K:Ws)(neg:Bool):R2:=λx y H Q=>∃p xs,y=.ref p/\(aA K H p xs∨aM K H p xs)/\rF x=true/\xs.all rF=true/\Q (.bl<|if neg then !tE x xs else tE x xs) H
def QoM:aI X (Xl .In) (yG X.K false):=by
 intro XI s σ H x y v u Q I rx ry h;obtain⟨p,xs,rfl,hq,fx,fs,q⟩:=h;cases ry;rcases hq with hq | hq
 ·obtain⟨ah,r,pl,hz⟩:=I.list hq;refine RA (i8 x) pl.isList (λw hw=>Ba rx fx r fs w<|by simpa using hw) ⟨.bl _,H,I,rfl,?_⟩;rw[show ah.toArray.any (i8 x)=ah.any (i8 x) by simp,AZ r fs];exact q
 ·obtain⟨ah,r,pl,hz⟩:=I.tuple hq;refine S4 (i8 x) pl (λw hw=>Ba rx fx r fs w<|by simpa using hw) ⟨.bl _,H,I,rfl,?_⟩;rw[show ah.toArray.any (i8 x)=ah.any (i8 x) by simp,AZ r fs];exact q
def Qiw:aI X (Xl .NotIn) (yG X.K true):=by
 intro XI s σ H x y v u Q I rx ry h;obtain⟨p,xs,rfl,hq,fx,fs,q⟩:=h;cases ry;rcases hq with hq | hq
 ·obtain⟨ah,r,pl,hz⟩:=I.list hq;refine Tc (i8 x) pl.isList (λw hw=>Ba rx fx r fs w<|by simpa using hw) ⟨.bl _,H,I,rfl,?_⟩;rw[show ah.toArray.any (i8 x)=ah.any (i8 x) by simp,AZ r fs];exact q
 ·obtain⟨ah,r,pl,hz⟩:=I.tuple hq;refine Vh (i8 x) pl (λw hw=>Ba rx fx r fs w<|by simpa using hw) ⟨.bl _,H,I,rfl,?_⟩;rw[show ah.toArray.any (i8 x)=ah.any (i8 x) by simp,AZ r fs];exact q
def Yp:aG X (.builtin "len") (λxs H Q=>∃p ys,xs=[.ref p]/\(aA X.K H p ys∨aM X.K H p ys)/\Q (.int ys.length) H):=by
 intro XI s σ H xs us Q I r h;obtain⟨p,ys,rfl,hq,q⟩:=h;obtain⟨u,rfl,rx⟩:=vals1 r;cases rx;have hn:=xo;rcases hq with hq | hq
 ·obtain⟨ah,r',pl,hz⟩:=I.list hq;have hlen:=r'.length;exact Calls.call_len_list pl.isList (by simp only[Qm]<;>omega) ⟨.int ys.length,H,I.tok _,⟨s.toks+1,by rw[Qm,hlen]⟩,q⟩
 ·obtain⟨ah,r',pl,hz⟩:=I.tuple hq;have hlen:=r'.length;exact len_tuple pl (by simp only[Qm]<;>omega) ⟨.int ys.length,H,I.tok _,⟨s.toks+1,by rw[Qm,hlen]⟩,q⟩
def Qi6:aG X (.type "list") (λxs H Q=>∃p ys,xs=[.ref p]/\(aA X.K H p ys∨aM X.K H p ys)/\∀l,H l=none->Q (.ref l) (upd H l<|.lst ys)):=by
 intro XI s σ H xs us Q I r h;obtain⟨p,ys,rfl,hq,q⟩:=h;obtain⟨u,rfl,rx⟩:=vals1 r;cases rx;have fin:∀(ah:List Xd),ai ys ah->ys.length<=Xj->∀(h':ZF)(c':Nat),(∀b o',s.heap.get? b=some o'->h'.get? b=some o') ->
   h'.get? s.heap.objs.size=some { cls:=.type "list",dict:=none,data:=.seq ah.toArray c',slots:=#[] }->EP X XI σ Q (.ref s.heap.objs.size) { s with heap:=h' }:=λah r' hz h' c' kp e=>
  ⟨.ref s.heap.objs.size,_,I.laid kp (Qd _)<|show aQ X.prog X.w _ h' _ (.lst ys) from⟨hz,ah,c',r',e⟩,rfl,q _<|I.ar.fresh<|Qd _⟩
 rcases hq with hq | hq
 ·obtain⟨ah,r',pl,hz⟩:=I.list hq;have hlen:=r'.length;obtain⟨o,ho,hc,n,hd⟩:=pl.isList;exact call_list_seq p (.inl rfl) ho hc hd (λh' c' kp e=>fin ah r' hz h' c' kp e) (by simp only[Qm]<;>omega)
 ·obtain⟨ah,r',pl,hz⟩:=I.tuple hq;have hlen:=r'.length;obtain⟨o,ho,hc,n,hd⟩:=pl;exact call_list_seq p (.inr rfl) ho hc hd (λh' c' kp e=>fin ah r' hz h' c' kp e) (by simp only[Qm]<;>omega)
def QhE:aG X (.type "tuple") (λxs H Q=>∃p ys,xs=[.ref p]/\((aA X.K H p ys/\∀l,H l=none->Q (.ref l) (upd H l<|.tup ys))∨(aM X.K H p ys/\Q (.ref p) H))):=by
 intro XI s σ H xs us Q I r h;obtain⟨p,ys,rfl,h⟩:=h;obtain⟨u,rfl,rx⟩:=vals1 r;cases rx;rcases h with⟨hq,q⟩ | ⟨hq,q⟩
 ·obtain⟨ah,r',pl,hz⟩:=I.list hq;have hlen:=r'.length;refine call_tuple_list pl.isList (λh' kp=>?_) (by simp only[Qm]<;>omega);have I1:=I.kept (t':=s.toks) kp;have I2:=
   I1.laid (t':=s.toks) (λb o e=>Qf _ e) (Qd _) (show aQ X.prog X.w _ _ _ (.tup ys) from⟨hz,ah,r',d_.new _ _⟩)
  exact⟨.ref h'.objs.size,_,I2,rfl,q _<|I1.ar.fresh<|Qd _⟩
 ·obtain⟨ah,r',pl,hz⟩:=I.tuple hq;exact call_tuple_same pl ⟨.ref p,H,I,rfl,q⟩
def Fy(K:Ws)(T:String)(x:V)(H:Hp):Prop:=match x with
 |.str _=>T = "str"
 |.int _=>T = "int"
 |.ref p=>(T = "list" /\ ∃xs,aA K H p xs)∨(T = "tuple" /\ ∃o,K.lookup p=some o/\o.cls=.type "tuple" /\ o.dict=none) ∨
   (T = "dict" /\ ((∃kvs,H p=some (.dK kvs))∨∃kvs,H p=some (.dT kvs)))∨(T = "set" /\ ∃S n,H p=some (.set S n))
 |_=>False
def Sd(I:Inv X XI σ H s)(r:RelV x v)(ty:Fy X.K T x H) :
  s.TypeIs v T/\∀a,v=.ref a->∃ob,s.heap.get? a=some ob/\ob.dict=none:=by
 cases x with
 |str z=>
  obtain⟨t,rfl⟩:=r;cases(ty);exact⟨AE s z t,λ_ e=>nomatch e⟩
 |int i=>
  obtain⟨t,rfl⟩:=r;cases(ty);exact⟨Nj s i t,λ_ e=>nomatch e⟩
 |ref p=>
  cases r;rcases ty with⟨rfl,xs,hq⟩ | ⟨rfl,o,hk,hc,hd⟩ | ⟨rfl,hk⟩ | ⟨rfl,S,n,hk⟩
  ·obtain⟨ah,_,pl,_⟩:=I.list hq;refine⟨pl.isList.typeIs,λa e=>?_⟩;cases e;obtain⟨o,n,e,c,hd,_⟩:=pl;exact⟨o,e,hd⟩
  ·refine⟨⟨o,I.bX p o hk,hc⟩,λa e=>?_⟩;cases e;exact⟨o,I.bX _ o hk,hd⟩
  ·have z:∃o,s.heap.get? p=some o/\o.ExactDict:=by
    rcases hk with⟨kvs,hk⟩ | ⟨kvs,hk⟩
    ·obtain⟨_,_,_,_,o,_,_,e,ex,_⟩:=I.ar p _ hk;exact⟨o,e,ex⟩
    ·obtain⟨_,_,_,_,o,_,_,e,ex,_⟩:=I.ar p _ hk;exact⟨o,e,ex⟩
   obtain⟨o,e,ex⟩:=z;refine⟨⟨o,e,ex.1⟩,λa e2=>?_⟩;cases e2;exact⟨o,e,ex.2.1⟩
  ·obtain⟨o,_,_,_,e,ex,_⟩:=I.ar p _ hk;refine⟨⟨o,e,ex.1⟩,λa e2=>?_⟩;cases e2;exact⟨o,e,ex.2.1⟩
 |_=>exact Jr ty
def QFx(K:Ws)(T:String)(r:V->List V->Hp->VK->Prop)(to:TE):TE:=λσ H Q=>to σ H λx H1=>Fy K T x H1/\r x [] H1 Q
def BZ(K:Ws)(T:String)(r:V->List V->Hp->VK->Prop)(to:TE)(t:TA):TE:=λσ H Q=>to σ H λx H1=>Fy K T x H1/\t σ H1 λxs H2=>r x xs H2 Q
variable{o e:Zm}{es:List Zm}{to:TE}{t:TA}{name:Str}{apos XJ:Pos}{T id:String}{r:V->List V->Hp->VK->Prop}
def Sv(pa:PlainAttrs T)(slot:Slot T name id)(Gx:typeOf (.builtin id)=pure (.type "method_descriptor"))(hm:ym X id r)(ho:PE X o to)
  (cT:attributeBase o name X.env (eval o X.env)=eval o X.env:=by rfl)(cR:(apos.endLine == XJ.line)=true:=by rfl):PE X (.Call (.Attribute o name apos) [] [] XJ) (QFx X.K T r to):=by
 intro XI s σ H Q I h;refine wpAny_Call_method0_late cT cR<|aD (ho XI s σ H _ I h) λv s1 ⟨x,H1,I1,r1,ty,q1⟩=>?_;obtain⟨h1,h2⟩:=Sd I1 r1 ty;exact⟨T,id,pa,slot,Gx,h1,h2,MJ rfl<|PySem.evalArgs_none<|hm XI s1 σ H1 x [] v [] Q I1 r1 .nil q1⟩
def gZ(pa:PlainAttrs T)(slot:Slot T name id)(Gx:typeOf (.builtin id)=pure (.type "method_descriptor"))(hm:ym X id r)(ho:PE X o to)(ha:PA X (e::es) t)
  (cT:attributeBase o name X.env (eval o X.env)=eval o X.env:=by rfl)
  (i6:((Xp XJ<|Xh (e::es) X.env).all (λx => !x.1)&&(Xz XJ<|Xx [] X.env).all (λx=>x.1.isSome)
   && decide ((e::es).length+([]:List ml).length+(if([]:List ml).isEmpty then 0 else 1)<30))=true:=by rfl)
  (cR:(apos.endLine == XJ.line)=true:=by rfl) (hs:Xh (e::es) X.env=(false,eval e X.env)::Xh es X.env:=by rfl) (tM:(Xp XJ<|Xh es X.env).any (·.1)=false:=by rfl) :
  PE X (.Call (.Attribute o name apos) (e::es) [] XJ) (BZ X.K T r to t):=by
 intro XI s σ H Q I h;refine wpAny_Call_method_late cT i6 cR rfl<|aD (ho XI s σ H _ I h) λv s1 ⟨x,H1,I1,r1,ty,q1⟩=>?_;obtain⟨h1,h2⟩:=Sd I1 r1 ty;refine⟨T,id,pa,slot,Gx,h1,h2,?_⟩;have hA:=ha XJ XI s1 σ H1 _ I1 q1;rw[hs] at hA ⊢;refine MJ (by show(false||(Xp XJ<|Xh es X.env).any (·.1))=false;rw[tM]<;>rfl)<|MA ?_;exact aD hA λus s2 ⟨vs,H2,I2,r2,q2⟩=>hm XI s2 σ H2 x vs v us Q I2 r1 r2 q2
end
end L2


namespace L2
def Fs(X:Cx)(id:String)(r:V->List V->Hp->VK->Prop):Prop:=
 ∀(XI:List (Xb×Xo))(s:Xe)(σ:St)(H:Hp)(x:V)(xs:List V)(v:Xd)(us:List Xd)(Q:VK),Inv X XI σ H s->RelV x v->ai xs us->r x xs H Q ->
  Xi (Xg X.prog X.w) X.A (call (.builtin id) (v::us)) (EP X XI σ Q) X.xe s
def ai.one(h:ai [x] us):∃u,us=[u]/\RelV x u:=vals1 h
def ai.two(h:ai [x,y] us):∃u v,us=[u,v]/\RelV x u/\RelV y v:=vals2 h
def ai.zero:∀{us:List Xd},ai [] us->us=[]
 |_,.nil=>rfl
def ai.dropLast(h:ai xs us):ai xs.dropLast us.dropLast:=by
 induction h with
 |nil=>exact .nil
 |cons r t ih=>
  cases t with
  |nil=>exact .nil
  |cons q t'=>exact .cons r ih
def ai.rep(h:ai xs us):∀k:Nat,ai (Jc k xs).flatten (Jc k us).flatten
 |0=>.nil
 |k+1=>by
  exact ai.append h<|ai.rep h k
def Qmw(l:List α):l.eraseIdx (l.length - 1)=l.dropLast:=by
 induction l with
 |nil=>rfl
 |cons a r ih=>
  cases r with
  |nil=>rfl
  |cons b r=>
   have e:(a::b::r).length - 1=((b::r).length - 1)+1:=by
    have h1:(a::b::r).length=r.length+2:=rfl;have h2:(b::r).length=r.length+1:=rfl;omega
   rw[e,List.eraseIdx_cons_succ,ih]
   all_goals rfl
def foldl_rep(ah:List Xd):∀(k:Nat)(acc:List Xd),
  List.foldl (λx1 x2=>x1++x2) acc.toArray (Jc k ah.toArray)=(acc++(Jc k ah).flatten).toArray
 |0,acc=>by simp
 |k+1,acc=>by
  have e:acc.toArray++ah.toArray=(acc++ah).toArray:=by simp
  have e2:(acc++ah)++(Jc k ah).flatten=acc++(Jc (k+1) ah).flatten:=by
   rw[Yy,Zy,LP]
  rw[<- e2,<- foldl_rep ah k (acc++ah),<- e,Yy,PB]
section
variable{X:Cx}{XI:List (Xb×Xo)}{σ:St}{H:Hp}{s:Xe}{l b:Xb}{xs ys zs:List V}
def Inv.oG{ah:List Xd}(I:Inv X XI σ H s)(hH:H l=some (.lst xs))
  (e:s.heap.get? l=some { cls:=.type "list",data:=.seq ah.toArray n })(hf:f ah.toArray=fQ.toArray)(hv:ai ys fQ)(hz:ys.length<=Xj) :
  Inv X XI σ (upd H l<|.lst ys) { s with heap:=s.heap.update l<|pI f,toks:=t' }:=by
 have q:=PySem.IsL.update e f;rw[hf] at q;refine I.write (by rw[hH];exact trivial) (.inl rfl) (λb' u hb hu=>(VH s.heap (pI f)<|iM hb).trans hu) ⟨_,q⟩ ?_
 exact⟨hz,fQ,_,hv,q⟩
def Inv.lF(I:Inv X XI σ H s)(hv:ai ys ah)(hz:ys.length<=Xj) :
  Inv X XI σ (upd H s.heap.objs.size<|.lst ys) { s with heap:=s.heap.push { cls:=.type "list",data:=.seq ah.toArray },toks:=t' }:=
 I.laid (λ_ _ q=>Qf _ q) (Qd _) ⟨hz,ah,0,hv,Qs _ rfl⟩
def Inv.fresh(I:Inv X XI σ H s):H s.heap.objs.size=none:=I.ar.fresh<|Qd _
def Inv.fO(I:Inv X XI σ H s)(hH:H l=some (.lst xs)):xs.length<=Xj/\∃(ah:List Xd)(n:Nat),ai xs ah/\xs.length=ah.length/\s.heap.get? l=some { cls:=.type "list",data:=.seq ah.toArray n }:=by
 obtain⟨z,ah,n,r,e⟩:=I.ar l _ hH;exact⟨z,ah,n,r,r.length,e⟩
def Wm(h:n<=Xj):MK n=false:=by
 exact X' (by omega)
end
section
variable{X:Cx}
def U5:V->List V->Hp->VK->Prop:=λx vs H Q=>∃l xs y,x=.ref l/\vs=[y]/\H l=some (.lst xs)/\xs.length<Xj/\Q .aH (upd H l<|.lst<|xs++[y])
def Bj:Fs X "list.append" U5:=by
 intro XI s σ H x vs v us Q I rx rv h;obtain⟨l,xs,y,rfl,rfl,hH,hz,q⟩:=h;cases rx;obtain⟨u,rfl,ru⟩:=rv.one;obtain⟨z,ah,n,r,hl,e⟩:=I.fO hH;refine mG F.slot_list_append ⟨_,e,rfl⟩ F.entry_list_append (F.args_list_append_2 _ _) (PySem.list_append l ah.toArray n u (by rw[Qm];omega)) ⟨e,?_⟩;refine⟨.aH,_,I.oG hH e (by simp) (r.append<|.cons ru .nil) ?_,rfl,q⟩;rw[Qj,List.length_singleton];omega
def U6:V->List V->Hp->VK->Prop:=λx vs H Q=>∃l b xs zs,x=.ref l/\vs=[.ref b]/\H l=some (.lst xs)/\H b=some (.lst zs)/\xs.length+zs.length<=Xj/\Q .aH (upd H l<|.lst<|xs++zs)
def Qo4:Fs X "list.extend" U6:=by
 intro XI s σ H x vs v us Q I rx rv h;obtain⟨l,b,xs,zs,rfl,rfl,hH,hB,hz,q⟩:=h;cases rx;obtain⟨u,rfl,ru⟩:=rv.one;cases ru;obtain⟨z,ah,n,r,hl,e⟩:=I.fO hH;obtain⟨z2,fP,n2,r2,GO,e2⟩:=I.fO hB;have qM:ah.toArray.size+fP.toArray.size<=Xj:=by rw[Qm,Qm];omega
 have lJ:¬(!ah.toArray.isEmpty&&MK (ah.toArray.size+fP.toArray.size))=true:=by
  rw[Wm qM,KO];exact Qw
 refine mG F.slot_list_extend ⟨_,e,rfl⟩ F.entry_list_extend (F.args_list_extend_2 _ _)
  (AutoSeq1.list_extend_list_list_0 l ah.toArray n b fP.toArray n2 lJ (by rw[Qm];omega)<|by omega) ⟨e,e2,?_⟩
 refine⟨.aH,_,I.oG hH e (by simp) (r.append r2) ?_,rfl,q⟩;rw[Qj];omega
def QFC:V->List V->Hp->VK->Prop:=λx vs H Q=>∃l xs y,x=.ref l/\vs=[]/\H l=some (.lst xs)/\xs[xs.length - 1]? = some y/\Q y (upd H l<|.lst xs.dropLast)
def SU:Fs X "list.pop" QFC:=by
 intro XI s σ H x vs v us Q I rx rv h;obtain⟨l,xs,y,rfl,rfl,hH,hy,q⟩:=h;cases rx;have hus:=rv.zero;subst hus;obtain⟨z,ah,n,r,hl,e⟩:=I.fO hH;obtain⟨u,hu,ru⟩:=r.get hy;have hy':ah.toArray[ah.toArray.size - 1]? = some u:=by
  show ah.toArray[ah.length - 1]? = some u;rw[<- Mu,<- hl];exact hu
 refine mG F.slot_list_pop ⟨_,e,rfl⟩ F.entry_list_pop (F.args_list_pop_1 _) (MeetsSeq.list_pop_last l ah.toArray n u hy' (by rw[Qm];omega)) ⟨e,?_⟩;refine⟨y,_,I.oG hH e ?_ r.dropLast ?_,ru,q⟩
 ·rw[Qm,List.eraseIdxIfInBounds_toArray,Qmw]
 ·rw[UP];omega
def QEU:R2:=λx y H Q=>∃l b xs zs,x=.ref l/\y=.ref b/\H l=some (.lst xs)/\H b=some (.lst zs)/\xs.length+zs.length<=Xj/\∀p,H p=none->Q (.ref p) (upd H p<|.lst<|xs++zs)
def Sk:aI X (Xr .Add) QEU:=by
 intro XI s σ H x y v u Q I rx ry h;obtain⟨l,b,xs,zs,rfl,rfl,hH,hB,hz,q⟩:=h;cases rx;cases ry;obtain⟨z,ah,n,r,hl,e⟩:=I.fO hH;obtain⟨z2,fP,n2,r2,GO,e2⟩:=I.fO hB;refine PySem.P.add_list e e2 ?_ (by rw[Qm,Qm];omega)
 have ea:ah.toArray++fP.toArray=(ah++fP).toArray:=by simp
 rw[ea];exact⟨.ref _,_,I.lF (r.append r2) (by rw[Qj];omega),rfl,q _ I.fresh⟩
def QEM:R2:=λx y H Q=>∃l k xs,x=.ref l/\y=.int k/\H l=some (.lst xs) /\ -(2^63)<=k/\k<2^63/\xs.length*k.toNat<=Xj /\
 ∀p,H p=none->Q (.ref p) (upd H p<|.lst (Jc k.toNat xs).flatten)
def QxU(xs:List α)(k:Nat):(Jc k xs).flatten.length=k*xs.length:=by
 induction k with
 |zero=>simp
 |succ k ih=>rw[Yy,Zy,Qj,ih,Ks,Nat.add_comm]
def Ss:aI X (Xr .Mult) QEM:=by
 intro XI s σ H x y v u Q I rx ry h;obtain⟨l,k,xs,rfl,rfl,hH,h1,h2,hz,q⟩:=h;cases rx;obtain⟨t,rfl⟩:=ry;obtain⟨z,ah,n,r,hl,e⟩:=I.fO hH;have hlen:ah.toArray.size*k.toNat<=Xj:=by rw[Qm,<- hl];exact hz
 have G2:¬ah.toArray.size*k.toNat > (2^63 - 1) / 8:=by
  have:Xj<=(2^63 - 1) / 8:=by decide
  omega
 have GU:¬(!Builtin.List.listFitsIndex k)=true:=by
  rw[fitsIndex_both h1 h2];exact Qw
 have lJ:¬MK (ah.toArray.size*k.toNat)=true:=by
  rw[Wm hlen];exact Qw
 have GG:List.foldl (λx1 x2=>x1++x2) #[] (Jc (if ah.toArray.isEmpty=true then 0 else k.toNat) ah.toArray)=(Jc k.toNat ah).flatten.toArray:=by
  have f0:=λm=>by
   have:=foldl_rep ah m [];rw[PD] at this;exact this
  rw[f0];cases ah with
  |nil=>simp
  |cons a r'=>rw[X8<|by simp]
 refine wpAny_binaryOp_repeat_ref (by decide) ⟨_,e,rfl⟩ (λs'=>Nj s' k t) noFill_list_mul F.fills_int_mul QDg repeat_list F.slot_int_index.lookup
  (mG QDg (Nj s k t) F.entry_int_rmul (F.args_int_rmul_2 _ _) (int___rmul___int_list k t l ah.toArray n)
   ⟨e,rfl,⟨_,e,rfl⟩,mG F.slot_list_mul ⟨_,e,rfl⟩ F.entry_list_mul (F.args_list_mul_2 _ _) (AutoListH.list___mul___list_int_3 l ah.toArray n k t GU G2 lJ) ⟨e,?_⟩⟩)
 rw[GG];exact⟨.ref _,_,I.lF (r.rep k.toNat) (by rw[QxU,Nat.mul_comm];exact hz),rfl,q _ I.fresh⟩
end
section
variable{prog:QB}{w:Jh}{A:Jo}{E:Xd->Xe->Prop}{s:Xe}
end
section
variable{X:Cx}
end
end L2
namespace Att
open PySem.W PySem.Calls
def QfP:∀(ns:List Int)(vs:List Xd),WellAll P h vs (ns.map WData.int)->rM vs ns:=by
 intro ns;induction ns with
 |nil=>
  intro vs w;cases w;exact .nil
 |cons n ns ih=>
  intro vs w;cases w with
  |cons a b=>
   cases a;exact .cons _ _<|ih _ b
def QnR{l:OpenLaw}(hn:l.most=some n) 
  (oM:l.row.toRowW.claim.pre args=true)(Gw:WellAll P h vals args) :
  ∃a vs ns,vals=[JT a]/\args=[WData.list<|ns.map WData.int]/\h.get? a=some { cls:=.type "list",data:=.seq vs.toArray }/\rM vs ns/\ns.length<=n:=by
 have hsh:=(pre_splitW oM).1;have hc:l.pre.holds [] { args:=args }=true:=(pre_splitW oM).2;obtain⟨d,r,rfl,h1,h2⟩:=hasAllW_cons hsh;obtain rfl:=hasAllW_nil h2;obtain⟨xs,rfl,h3⟩:=hasW_list h1;obtain⟨ns,rfl⟩:=items_int h3;have hlen:ns.length<=n:=by
  have h4:(WTm.not<|.lt (.lit<|.int n)<|.len<|.arg 0).holds [] { args:=[.list<|ns.map .int] }=true:=by
   have h4:=(holds_andW hc).1;rw[hn] at h4;exact h4
  have h5:=condW_of h4<|w_not<|w_lt w_lit<|w_len_list<|w_arg rfl;refine Nat.le_of_not_lt λq=>?_
  have q':n<(ns.length:Int):=by omega
  first
   |(rw[X_ q'] at h5;exact Z_ h5<|by decide)
   |(simp at h5;omega)
 cases Gw with
 |cons w1 w2=>
  cases w2;cases w1 with
  |list ho lM=>exact⟨_,_,ns,rfl,rfl,ho,QfP ns _ lM,hlen⟩
def Qok(l:OpenLaw)(args:List WData):l.row.toRowW.claim.post args (.bool true) args=true:=
 postW_of
  (by first | rfl | decide | simp[WShape.arms])
  (w_eq_bool (w_res rfl) w_lit) rfl
def Qkh{l:OpenLaw} 
  (hn:l.most=some n)(zy:d.params.defaults=[])
  (call:∀(w:Jh)(s₀ s₁:Xe)(mg mb:Str->Option Xd)(fa:Xb)(o:Xo)(pm cd doc:Xd)(a:Xb)(vs:List Xd)(ns:List Int),
   Ground q loose [] XP w s₀ mg mb s₁.heap->YP w s₁.heap ->
   s₁.heap.get? fa=some o->o.data=.func (docDef d.name d.params d.body d.scope pm cd doc)->s₁.heap.CodeRec cd d.name->mg d.name=some (.ref fa) ->
   s₁.heap.get? a=some { cls:=.type "list",data:=.seq vs.toArray }->rM vs ns->ns.length<=n->s₁.gens=#[] ->
   Xu (Xg l.prog w) callerA (.call (.ref fa) ⟨[.ref a],[]⟩) (λr s'=>r=.ok (.ret<|.bool true)/\OldK s₁.heap s'.heap/\s'.os=s₁.os/\nT s'.gens) s₁) :
  WalkO q loose XP YP l.row.toRowW d [] (λf vs=>XO f vs):=by
 intro w s₀ s₁ mg mb G Y fa o pm cd doc dV kV ho hd bG hD zp hg args vals as oM hlay hrd Gw hlo;obtain rfl:dV=.none:=Dflts.none hD zy;obtain rfl:kV=.none:=Dflts.noKw hD;obtain⟨a,vs,ns,rfl,rfl,tU,hints,hlen⟩:=QnR hn oM Gw;refine enter_call<|sv (call w s₀ s₁ mg mb fa o pm cd doc a vs ns G Y ho (fd_plain hd) bG zp tU hints hlen hg) λr s' hq=>?_;obtain⟨rfl,h2,h3,h4⟩:=hq;exact⟨.inl ⟨.bool true,.bool true,[],rfl,λ_=>rfl,.bool true,Qok l _,λ_=>⟨QDa,λ_ hm=>(nomatch hm)⟩⟩,h2,h3,h4⟩
section
variable{prog:QB}{w:Jh}{A:Jo}{E:Xd->Xe->Prop}{s:Xe}{K:Frag}
end
end Att
namespace L2
def Qh9:∀{vs:List Xd}{ns:List Int},rM vs ns->ai (ns.map V.int) vs
 |_,_,.nil=>.nil
 |_,_,.cons n t h=>.cons ⟨t,rfl⟩<|Qh9 h
def M7(H:Hp):Prop:=∀b,H b=none∨∃o xs,H b=some (.cE o<|.lst xs)
def Qtq{K:Ws} 
  (KX:K.In s₁.heap)(Ci:s₁.heap.Ns Xf mg)(hb:s₁.heap.Ns builtinsNs mb)(zF:∀x:Str,x ≠ "__name__" -> mb x=Xm x)(GN:s₁.heap.NoLimit)(hg:s₁.gens=#[])
  (ha:s₁.heap.get? a=some { cls:=.type "list",data:=.seq vs.toArray })(hi:rM vs ns)(hl:ns.length<=Xj)(hr:az k callerA)
  (F:∀base:ZF,K.In base->base.Ns Xf mg->aO P w K mg base CX k fa fd [x] sp)(zE:∀(s:Xe)(u:Xd),pB s fd ⟨[u],[]⟩ [(x,u)])
  (ba:∀H:Hp,M7 H->aA K H a (ns.map V.int)->sp [.ref a] H (λv _=>v=.bl true) λ_ _ _=>False)
  (G6:∀H e s',CX [] H s₁ (λ_ _ _=>False) e s'->False) :
  Xu (Xg P w) callerA (.call (.ref fa) ⟨[.ref a],[]⟩) (λr s'=>r=.ok (.ret<|.bool true)/\OldK s₁.heap s'.heap/\s'.os=s₁.os/\nT s'.gens) s₁:=by
 have rv:=Qh9 hi;have Gh:=hi.length;have core:∀H:Hp,M7 H->aA K H a (ns.map V.int)->cg P w H s₁.heap->(∀b,H b≠none->b=a)->(H a≠none->K.lookup a=none) ->
   Xu (Xg P w) callerA (.call (.ref fa) ⟨[.ref a],[]⟩) (λr s'=>r=.ok (.ret<|.bool true)/\OldK s₁.heap s'.heap/\s'.os=s₁.os/\nT s'.gens) s₁:=by
  intro H hO hS ar hA hK;have jH:∀{b:Xb}{o:Xo},s₁.heap.get? b=some o->H b=none->(qV s₁.heap H).get? b=some o:=λe n=>Qtw e n
  have yN:∀{b:Xb}{o:Xo}{es:Array XD}{ep:Nat},s₁.heap.get? b=some o->o.data=.dict es ep->H b=none:=λ{b o es ep} e d=>by
   cases q:H b with
   |none=>rfl
   |some u=>
    have e':=hA b (by rw[q];simp);subst e';rw[ha] at e;cases e;have d':=d;cases d'
  have B_:∀{b:Xb}{m:Str->Option Xd},s₁.heap.Ns b m->(qV s₁.heap H).Ns b m:=λ{b m} ⟨o,es,ep,e,d,r⟩=>⟨o,es,ep,jH e<|yN e d,d,r⟩
  have Oy:=λb o e=>jH (KX b o e) (by
   cases q:H b with
   |none=>rfl
   |some u=>
    have e':=hA b (by rw[q];simp);subst e';rw[hK (by rw[q];simp)] at e;cases e)
  have hM:Mod K mg (qV s₁.heap H):=⟨Oy,B_ Ci,⟨mb,B_ hb,zF⟩,let ⟨mc,h1,h2⟩:=GN;⟨mc,B_ h1,h2⟩⟩;have e0:fW P w K mg (qV s₁.heap H) callerA [] s₁ H:=⟨rfl,hM,λb o e=>QxD e,Y1<|Qps _ _,trivial,λb hb=>Z_ (show b∈([]:List Xb) from hb)<|by simp,ar,.of_eq hg⟩;refine sv ((F _ Oy<|B_ Ci).run callerA [] s₁ H ⟨[.ref a],[]⟩ [.ref a] [.ref a] _ _ hr e0 (zE s₁<|.ref a) (.cons rfl .nil)<|ba H hO hS) λr s' h=>?_
  cases r with
  |error e=>exact(G6 H e s' h).elim
  |ok fl=>
   cases fl with
   |next=>exact Jr h
   |brk=>exact Jr h
   |cont=>exact Jr h
   |ret u=>
    obtain⟨v,H',os,bare,un,GC,r',q⟩:=h;have q':=q;subst q';obtain rfl:u=vf true:=r';refine⟨rfl,OldK.of_keep λb o e=>?_,os,bare⟩;cases q:H b with
    |none=>exact un.keep b o e q (by intro z;exact Z_ (show b∈([]:List Xb) from z)<|by simp) (by simp)
    |some u=>
     rcases hO b with z | ⟨ob,xs,z⟩
     ·rw[q] at z;cases z
     ·have z2:=un.dD b ob _ z;obtain⟨e1,_⟩:=ar b _ z;obtain⟨e2,_⟩:=GC b _ z2;rw[e] at e1;cases e1;exact e2
 cases hk:K.lookup a with
 |some o=>
  have e:=KX a o hk;rw[ha] at e;cases e;refine core (λ_=>none) (λ_=>.inl rfl) (.inr ⟨_,vs.toArray,_,hk,rfl,rfl,rfl,by rw[Qm,Gh];exact hl,by simpa using rv⟩) (λb u z=>by have z':=z;cases z') (λb z=>Z_ rfl z) λz=>Z_ rfl z
 |none=>
  refine core (λb=>if b=a then some (.cE { cls:=.type "list",data:=.seq vs.toArray } (.lst<|ns.map V.int)) else none) (λb=>?_) (.inl<|.inr ⟨{ cls:=.type "list",data:=.seq vs.toArray },X9 rfl⟩) (λb u z=>?_) (λb z=>?_) λ_=>hk
  ·by_cases hb:b=a
   ·exact .inr ⟨_,_,X9 hb⟩
   ·exact .inl<|X8 hb
  ·by_cases hb:b=a
   ·have z':=(X9 hb).symm.trans z;cases z';subst hb;exact⟨ha,by rw[Qb];exact hl,vs,_,rv,ha⟩
   ·have z':=(X8 hb).symm.trans z;cases z'
  ·by_cases hb:b=a
   ·exact hb
   ·exact Z_ (X8 hb) z
def Qv1{l:XQ}{K:Params->Ws}{CX:Jh->iV}{sp:Jh->Sp} 
  (hn:l.most=some n)(i5:n<=Xj)(zy:d.params.defaults=[])(hr:az k callerA)
  (hY:∀(w:Jh)(h:ZF),YP w h->(K w.params).In h)
  (F:∀(w:Jh)(mg:Str->Option Xd)(fa:Xb)(h:ZF),(K w.params).In h->h.Ns Xf mg->mg d.name=some (.ref fa) ->
   ∃fd:Z3,(∀(s:Xe)(u:Xd),pB s fd ⟨[u],[]⟩ [(x,u)]) /\
    ∀base:ZF,(K w.params).In base->base.Ns Xf mg->aO l.prog w (K w.params) mg base (CX w) k fa fd [x] (sp w))
  (ba:∀(w:Jh)(H:Hp)(a:Xb)(ns:List Int),ns.length<=n->M7 H->aA (K w.params) H a (ns.map V.int)->sp w [.ref a] H (λv _=>v=.bl true) λ_ _ _=>False)
  (G6:∀(w:Jh)(H:Hp)(s:Xe)(e:Xd)(s':Xe),CX w [] H s (λ_ _ _=>False) e s'->False) :
  PySem.W.WalkO q loose XP YP l.row.toRowW d [] (λf vs=>XO f vs):=by
 refine Att.Qkh hn zy λw s₀ s₁ mg mb fa o pm cd doc a vs ns G Y ho hd bG zp tU hints hlen hg=>?_
 have KX:=hY w _ Y;obtain⟨fd,hb,hF⟩:=F w mg fa _ KX G.T.g zp;exact Qtq KX G.T.g G.T.b G.T.builtins G.T.nolimit hg tU hints (QK hlen i5) hr hF hb (λH hO hS=>ba w H a ns hlen hO hS) λH e s'=>G6 w H s₁ e s'
def jP(s:Zo)(j:Nat):Zo:=match s with
 |.ClassDef _ _ _ body _ _ _ _ _ _ _=>body.getD j<|.Pass ⟨0,0,0,0⟩
 |_=>.Pass ⟨0,0,0,0⟩
def u_(s:Zo):Arguments:=match s with
 |.FunctionDef _ a _ _ _ _ _ _ _ _=>a
 |_=>{ posonlyargs:=[],args:=[],vararg:=none,kwonlyargs:=[],kw_defaults:=[],kwarg:=none,defaults:=[] }
def Yk(s:Zo):List Zo:=match s with
 |.FunctionDef _ _ b _ _ _ _ _ _ _=>b
 |_=>[]
def Q4(s:Zo):jd:=match s with
 |.FunctionDef _ _ _ _ _ _ sc _ _ _=>sc
 |_=>{ kind:=.function,names:=[],isGenerator:=false,isCoroutine:=false }
abbrev ax:iV:=λ_ _ _ _ _ _=>False
abbrev E0:XK:=λ_ _ _=>False
def jN:g7 ax X E0:=λ_ _ _ _ _ _ _ h=>h.elim
structure iw (K:Ws) (x qual:Str) (st:Zo) (f:Xb) (fd:Z3):Prop where
 ex:∃(oc:Xd)(od:Option Xb)(kV doc pm:Xd)(an:Option Xb)(ao ct:Xd)(oC:Array<|Option Xd),
  fd=WB x qual (u_ st) (Yk st) (Q4 st) .none kV doc pm an ao ct/\K.lookup f=some ⟨oc,od,.func fd,oC⟩/\WN K ao qual=true
 kp:Wu K (.ref f)=true
section
variable{P:QB}{w:Jh}{K:Ws}{mg:Str->Option Xd}{base:ZF}
def iw.ok{st:Zo}(F:iw K x qual st f fd)(S:Yx N ps<|Q4 st)(len:∀vs H Q E,sp vs H Q E->vs.length=ps.length)
  (XL:∀(ao:Xd)(A:Jo)(outer:List Env)(s:Xe)(H:Hp)(vs:List V)(Q:VK)(E:XK),az k (A.deeper<|envOfC qual (Q4 st) s.heap.objs.size f ao)->sp vs H Q E ->
   ∃t,aV (bP ax P w K mg base N qual (Q4 st) f ao A outer s H E).iF (Yk st) t/\t { nx:=λ_ H'=>Q .aH H',rt:=Q } (start N vs) H):aO P w K mg base ax (k+1) f fd ps sp:=by
 obtain⟨oc,od,kV,doc,pm,an,ao,ct,oC,rfl,lk,bG⟩:=F.ex;refine QBr lk bG S len λA outer s H vs Q E hr ba=>?_
 obtain⟨t,h,q⟩:=XL ao A outer s H vs Q E hr ba;exact⟨t,h.iF,q⟩
def iw.binds{st:Zo}(F:iw K x qual st f fd)
  (h:∀(kV doc pm:Xd)(an:Option Xb)(ao ct:Xd)(us:List Xd),us.length=ps.length->bindArgs (WB x qual (u_ st) (Yk st) (Q4 st) .none kV doc pm an ao ct) ⟨us,[]⟩=pure (ps.zip us)):Binds K fd ps []:=by
 obtain⟨oc,od,kV,doc,pm,an,ao,ct,oC,rfl,lk,bG⟩:=F.ex;exact .all<|h kV doc pm an ao ct
def Q_{st:Zo}{kV:Xd}(l:K.lookup f=some ⟨oc,od,.func<|WB x qual (u_ st) (Yk st) (Q4 st) .none kV doc pm an ao ct,oC⟩)
  (c:WN K ao qual=true)(k:Wu K (.ref f)=true):iw K x qual st f (WB x qual (u_ st) (Yk st) (Q4 st) .none kV doc pm an ao ct):=⟨⟨oc,od,kV,doc,pm,an,ao,ct,oC,rfl,l,c⟩,k⟩
end
def rH(hr:az k A):A.units+1<cLine:=JK (TB (by decide) _) hr.units
def Eg(h:n<=1000):n<Xj:=JK h (by decide)
section
variable{X:Cx}
def pv(i:Nat)(hN:X.N[i]? = some x:=by rfl)(hv:gU X.env.scope x:=by first | exact QM rfl | exact QV (QM rfl) | exact QV<|QV rfl)(hd:(x == ("__debug__" : Str))=false:=by decide)
  (bG:(x == ("__classdict__" : Str))=false:=by decide):PE X (.Name x pos) (Yu i):=Sz hN hv hd bG
end
def dO{B:Prop}(h:B):if false=true then A else B:=by
 exact h
def df{B:Prop}(h:A):if true=true then A else B:=by
 exact h
def QEY{B:Prop}[Decidable c](h1:c->A)(h2:¬c->B):if c then A else B:=by
 by_cases h:c
 ·rw[X9 h];exact h1 h
 ·rw[X8 h];exact h2 h
def QD3{B:Prop}[Decidable c](hc:c)(h:B):if(!decide c)=true then A else B:=by
 rw[X_ hc];exact dO h
def ag(H H':Hp):Prop:=∀b o,H b=some o->H' b=some o
def ag.refl(H:Hp):ag H H:=λ_ _ h=>h
def ag.trans(a:ag H H1)(b:ag H1 H2):ag H H2:=λc o h=>b c o<|a c o h
def ag.free(e:ag H H')(h:H' l=QCw):H l=QCw:=by
 cases q:H l with
 |none=>rfl
 |some o=>
  rw[e l o q] at h;cases h
def ag.seq{K:Ws}(e:ag H H')(h:aA K H a xs):aA K H' a xs:=by
 rcases h with(h | ⟨o,h⟩) | h
 ·exact .inl<|.inl<|e _ _ h
 ·exact .inl<|.inr ⟨o,e _ _ h⟩
 ·exact .inr h
def bV(X:Cx)(M:List Str)(scope:jd)(cl:List (Str×Xb))(ex:List Xb)(s3:Xe)(H3:Hp)(C:Xb):Cx where
 prog:=X.prog
 w:=X.w
 K:=X.K
 mg:=X.mg
 base:=X.base
 A:=X.A
 N:=M
 s₀:=s3
 H₀:=H3
 env:=compEnvC scope cl C X.env
 outer:=X.stack
 stack:=X.stack
 ex:=ex
 fn:=λ_=>false
 calm:=X.calm
 pn:=[]
 xe:=λ_ _=>False
def cC(env:Env):List (Str×mE)->List (Str×Xb)->List (Str×Xb)
 |[],acc=>acc
 |(n,k)::r,acc=>cC env r (if k=.free then(n,(env.cells.lookup n).getD 0)::acc else acc)
def KH:∀(l:List (Str×mE))(acc:List (Str×Xb)),(∀x∈l,x.2=.free->∃c,env.cells.lookup x.1=some c) ->
  (forIn (m:=Sem) l acc λx cs=>(if(x.2 == Jw)=true then do let a <- cellOf env x.1;pure (ya ((x.1,a)::cs)) else pure<|ya cs))=pure (cC env l acc)
 |[],acc,_=>rfl
 |(n,k)::r,acc,h=>by
  rw[List.forIn_cons];by_cases hk:k=.free
  ·subst hk;obtain⟨c,hc⟩:=h (n,.free) Q1 rfl;have e1:cellOf env n=pure c:=by unfold cellOf;rw[hc]
   have e2:cC env ((n,.free)::r) acc=cC env r ((n,c)::acc):=by
    show cC env r (if Jw=.free then(n,(env.cells.lookup n).getD 0)::acc else acc)=_;rw[hc];rfl
   rw[e2];show((if(Jw == Jw)=true then do let a <- cellOf env n;pure (ya ((n,a)::acc)) else pure<|ya acc) >>= _)=_;rw[X9<|by decide,e1];exact KH r _ λx hx=>h x<|QQ _ hx
  ·have hb:(k == Jw)=false:=by simpa using hk
   have e2:cC env ((n,k)::r) acc=cC env r acc:=by
    show cC env r (if k=.free then(n,(env.cells.lookup n).getD 0)::acc else acc)=_;rw[X8 hk]
   rw[e2];rw[hb];exact KH r _ λx hx=>h x<|QQ _ hx
def KG(h:∀x∈scope.names,x.2=.free->∃c,env.cells.lookup x.1=some c):closureFor scope env=pure (cC env scope.names []):=by
 have e:=KH scope.names [] h;have e':=e
 first
  |(rw[e'];rfl)
  |(refine CI (congrArg (λt=>t >>= _) e') ?_;rfl)
def KC:∀(l:List (Str×mE))(acc:List (Str×Xb)),(∀x∈l,x.2=.free->∃c,env.cells.lookup x.1=some c)->(∀x c,acc.lookup x=some c->env.cells.lookup x=some c) ->
  (∀x c,(cC env l acc).lookup x=some c->env.cells.lookup x=some c)/\(∀x c,acc.lookup x=some c->(cC env l acc).lookup x=some c)/\∀x,(x,Jw)∈l->∃c,(cC env l acc).lookup x=some c
 |[],acc,_,ha=>⟨ha,λ_ _ h=>h,λ_ h=>nomatch h⟩
 |(n,k)::r,acc,h,ha=>by
  have hr:=λx hx=>h x<|QQ _ hx
  by_cases hk:k=.free
  ·subst hk;obtain⟨c,hc⟩:=h (n,.free) Q1 rfl;have e2:cC env ((n,.free)::r) acc=cC env r ((n,c)::acc):=by
    show cC env r (if Jw=.free then(n,(env.cells.lookup n).getD 0)::acc else acc)=_;rw[hc];rfl
   rw[e2];have zI:∀x c',((n,c)::acc).lookup x=some c'->env.cells.lookup x=some c':=λx c' q=>by
    rw[Jn] at q;cases hx:x == n with
    |true=>
     rw[hx] at q;have z:=QL q;have y:x=n:=by simpa using hx
     rw[y,<- z];exact hc
    |false=>rw[hx] at q;exact ha x c' q
   obtain⟨i1,i2,i3⟩:=KC r ((n,c)::acc) hr zI;refine⟨i1,λx c' q=>?_,λx hx=>?_⟩
   ·refine i2 x c' ?_
    rw[Jn];cases hx:x == n with
    |true=>
     have y:x=n:=by simpa using hx
     have:=ha x c' q;rw[y,hc] at this;exact this
    |false=>exact q
   ·rcases Qt.mp hx with z | z
    ·cases z;exact⟨c,i2 n c<|by rw[Jn,beq_self_eq_true]⟩
    ·exact i3 x z
  ·have e2:cC env ((n,k)::r) acc=cC env r acc:=by
    show cC env r (if k=.free then(n,(env.cells.lookup n).getD 0)::acc else acc)=_;rw[X8 hk]
   rw[e2];obtain⟨i1,i2,i3⟩:=KC r acc hr ha;refine⟨i1,i2,λx hx=>?_⟩;rcases Qt.mp hx with z | z
   ·cases z;exact Z_ rfl hk
   ·exact i3 x z
def EB{l:List (Str×mE)}(h:l.lookup x=some k):(x,k)∈l:=by
 induction l with
 |nil=>cases h
 |cons p r ih=>
  obtain⟨n,q⟩:=p;rw[Jn] at h;cases hx:x == n with
  |true=>
   rw[hx] at h;have y:x=n:=by simpa using hx
   have z:=QL h;subst y z;exact Q1
  |false=>rw[hx] at h;exact QQ _<|ih h
def MN{env:Env}:∀{names:List (Str×mE)}{x:Str}{k:mE},(names.map λ(n,k)=>if(k == Jw&&env.scope.kind == .function&&env.kindOf n == some .cell) then(n,vw) else(n,k)).lookup x=some k ->
  names.lookup x=some k∨(k=.cell/\names.lookup x=some .free)
 |[],x,k,h=>by cases h
 |(n,q)::r,x,k,h=>by
  have ih:=@MN env r x k;have h':Yz x ((if(q == Jw&&env.scope.kind == .function&&env.kindOf n == some .cell)=true then(n,vw) else(n,q))::_)=some k:=h;cases hx:x == n with
  |true=>
   by_cases hc:(q == Jw&&env.scope.kind == .function&&env.kindOf n == some .cell)=true
   ·rw[X9 hc,Jn,hx] at h';have z:=QL h';have y:q=.free:=by simp at hc;exact hc.1.1
    refine .inr ⟨z.symm,?_⟩;rw[Jn,hx,y]
   ·rw[X8 hc,Jn,hx] at h';refine .inl ?_
    rw[Jn,hx];exact h'
  |false=>
   have h2:Yz x (r.map λ(n,k)=>if(k == Jw&&env.scope.kind == .function&&env.kindOf n == some .cell) then(n,vw) else(n,k))=some k:=by
    by_cases hc:(q == Jw&&env.scope.kind == .function&&env.kindOf n == some .cell)=true
    ·rw[X9 hc,Jn,hx] at h';exact h'
    ·rw[X8 hc,Jn,hx] at h';exact h'
   rw[Jn,hx];exact ih h2
def cQ{env:Env}:∀{names:List (Str×mE)}{x:Str},names.lookup x=some .free->(names.map λ(n,k)=>if(k == Jw&&env.scope.kind == .function&&env.kindOf n == some .cell) then(n,vw) else(n,k)).lookup x=some .cell ∨
   (names.map λ(n,k)=>if(k == Jw&&env.scope.kind == .function&&env.kindOf n == some .cell) then(n,vw) else(n,k)).lookup x=some .free
 |[],x,h=>by cases h
 |(n,q)::r,x,h=>by
  have ih:=@cQ env r x;show Yz x ((if(q == Jw&&env.scope.kind == .function&&env.kindOf n == some .cell)=true then(n,vw) else(n,q))::_)=some .cell∨Yz x ((if(q == Jw&&env.scope.kind == .function&&env.kindOf n == some .cell)=true then(n,vw) else(n,q))::_)=some .free;cases hx:x == n with
  |true=>
   rw[Jn,hx] at h;have z:=QL h;subst z;by_cases hc:(Jw == Jw&&env.scope.kind == .function&&env.kindOf n == some .cell)=true
   ·rw[X9 hc,Jn,hx];exact .inl rfl
   ·rw[X8 hc,Jn,hx];exact .inr rfl
  |false=>
   rw[Jn,hx] at h;by_cases hc:(q == Jw&&env.scope.kind == .function&&env.kindOf n == some .cell)=true
   ·rw[X9 hc,Jn,hx];exact ih h
   ·rw[X8 hc,Jn,hx];exact ih h
def pz(N:List Str)(sc:jd)(M:List Str)(scope:jd)(cap:List<|Option Nat):Bool:=
 cap.length == M.length&&(M.zip cap).all (λ(x,o)=>match o with
  |none=>scope.names.lookup x == some .local
  |some j=>N[j]? == some x&&(scope.names.lookup x == some .free&&(sc.names.lookup x == some .cell||sc.names.lookup x == some .free))) &&
 (scope.kind == .function&&scope.names.all λy=>y.2 != .cell&&((y.2 != .free||(sc.names.lookup y.1 == some .cell||sc.names.lookup y.1 == some .free))&&(y.2 != .local||scope.names.lookup y.1 == some .local)))
def dE(cap:List<|Option Nat)(σ:St):St:=cap.map λo=>match o with
 |none=>none
 |some j=>(σ[j]?).getD none
structure fB (N:List Str) (sc:jd) (M:List Str) (scope:jd) (cap:List<|Option Nat):Prop where
 len:cap.length=M.length
 own:∀(i j:Nat)(x:Str),M[i]? = some x->cap[i]? = some (some j)->N[j]? = some x/\scope.names.lookup x=some .free/\(sc.names.lookup x=some .cell∨sc.names.lookup x=some .free)
 kind:scope.kind=.function
 cell:∀y∈scope.names,y.2≠.cell
 free:∀y∈scope.names,y.2=.free->sc.names.lookup y.1=some .cell∨sc.names.lookup y.1=some .free
 loc:∀y∈scope.names,y.2=.local->scope.names.lookup y.1=some .local
def fB.of(h:pz N sc M scope cap=true):fB N sc M scope cap:=by
 unfold pz at h;simp only[Js,ZG,beq_iff_eq] at h;obtain⟨⟨h1,h2⟩,h3,h4⟩:=h;refine⟨h1,λi j x e1 e2=>?_,h3,λy hy z=>?_,λy hy z=>?_,λy hy z=>?_⟩
 ·have hm:(x,some j)∈M.zip cap:=by
   have:(M.zip cap)[i]? = some (x,some j):=by rw[List.getElem?_zip_eq_some];exact⟨e1,e2⟩
   exact Jb this
  have:=h2 _ hm;simp only[Js,beq_iff_eq,yg] at this;exact this
 ·have:=(h4 y hy).1;simp[z] at this
 ·have:=(h4 y hy).2.1
  simpa [z] using this
 ·have:=(h4 y hy).2.2
  simpa [z] using this
section
variable{X:Cx}{XI:List (Xb×Xo)}{σ:St}{H H3:Hp}{s3:Xe}{M:List Str}{scope:jd}{cap:List (Option Nat)}{fp:List Xb}{h4:ZF}{t4:Nat}
def Cx.Ok.cells(ok:X.Ok){N:List Str}(c:fB N X.env.scope M scope cap):∀y∈scope.names,y.2=.free->∃d,X.env.cells.lookup y.1=some d:=λy hy z=>ok.has y.1<|c.free y hy z
def Mf(I:Inv X XI σ H3 s3)(c:fB X.N X.env.scope M scope cap)(hf:∀b∈fp,bB X XI H3 b)(hb:∀b∈fp,b<s3.heap.objs.size)
  (hn:h4.Ns s3.heap.objs.size λ_=>none)(hk:∀b o,s3.heap.get? b=some o->h4.get? b=some o) :
  Inv (bV X M scope (cC X.env scope.names []) fp s3 H3 s3.heap.objs.size) [] (dE cap σ) H3 { s3 with heap:=h4,toks:=t4 }:=by
 obtain⟨c1,c2,c3⟩:=KC scope.names [] (I.ok.cells c) (λx d q=>by cases q);refine⟨⟨I.ok.mod,c.kind,I.ok.glob,I.ok.blt,Qd _,λx y d e1 e2=>I.ok.inj x y d (c1 x d e1)<|c1 y d e2,λx hx=>?_,(λx d z=>nomatch z),I.ok.hd,I.ok.frames,.inl rfl,λb fS=>?_,I.bs,
  QK I.ok.j9 I.sz,λb o e z=>?_,λb fS z=>?_,I.stack,I.gq⟩,rfl,I.bare,Un.kept hk,⟨_,hn,λi x v e1 e2 e3=>?_⟩,λx d e=>?_,I.ar.fresh<|Qd _,λx d e=>I.bg x d<|c1 x d e,λp hp=>(nomatch hp),I.ar.kept hk,?_⟩
 ·have iG:=hx;rcases iG with q | q
  ·rcases MN q with z | ⟨_,z⟩
   ·exact Z_ rfl<|c.cell _<|EB z
   ·exact c3 x<|EB z
  ·rcases MN q with z | ⟨z,_⟩
   ·exact c3 x<|EB z
   ·cases z
 ·obtain⟨f0,f1,f2,f3,f4,f5⟩:=hf b fS;exact⟨QZ<|hb b fS,λx d e=>f4 x d<|c1 x d e⟩
 ·obtain⟨f0,f1,f2,f3,f4,f5⟩:=hf b z;rcases f3 with q | q
  ·exact I.ok.i4 b o e q
  ·exact Z_ (Q2 (Qr e)<|QK I.ok.j9 q)<|ZT _
 ·obtain⟨f0,f1,f2,f3,f4,f5⟩:=hf b fS;rcases Qt.mp (I.iX b z) with q | q
  ·exact f1 q
  ·exact f2 q
 ·have wK:(cap.map λo=>match o with | none=>none | some j=>(σ[j]?).getD none)[i]? = some (some v):=e2;rw[Qq] at wK;cases q:cap[i]? with
  |none=>rw[q] at wK;cases wK
  |some o=>
   rw[q] at wK;cases o with
   |none=>cases wK
   |some j=>
    have e4:(σ[j]?).getD none=some v:=QL wK;have e5:σ[j]? = some (some v):=by
     cases r:σ[j]? with
     |none=>rw[r] at e4;cases e4
     |some o=>rw[r] at e4;exact congrArg some e4
    obtain⟨n1,n2,n3⟩:=c.own i j x e1 q;obtain⟨m,hm,hl⟩:=I.loc;obtain⟨u,ru,lk⟩:=hl j x v n1 e5<|n3.elim (λz=>.inr<|.inl z) λz=>.inr<|.inr z;refine⟨u,ru,.inr ?_⟩;rcases lk with⟨k1,_⟩ | ⟨_,d,k2,k3⟩
    ·have Oc:X.env.scope.names.lookup x=some .local:=k1;rcases n3 with z | z<;>(rw[z] at Oc;cases Oc)
    ·obtain⟨d',dB⟩:=c3 x<|EB n2;have ed:d'=d:=by
      have:=c1 x d' dB;rw[k2] at this;exact(QL this).symm
     subst ed;exact⟨(cQ n2:(relabel scope X.env).names.lookup x=some .cell∨(relabel scope X.env).names.lookup x=some .free),d',dB,k3.keeps hk⟩
 ·obtain⟨v,q⟩:=I.cell x d<|c1 x d e;exact⟨v,q.keeps hk⟩
 ·show(cap.map _).length=M.length;rw[Qb];exact c.len
def Ts(I:Inv X XI σ H3 s3)(hf:∀b∈fp,bB X XI H3 b)(J:Inv (bV X M scope (cC X.env scope.names []) fp s3 H3 s3.heap.objs.size) [] σ' H s')(hs:Ya s3.heap.objs.size s'.heap h') :
  Inv X XI σ H { s' with heap:=h' }:=by
 have u:=J.base;have ne:∀b o,s3.heap.get? b=some o->b≠s3.heap.objs.size:=λb o e=>QZ<|Qr e
 have hC:H s3.heap.objs.size=none:=J.free;refine I.lZ J.os ⟨λb o e n hb hx=>(hs.2 b<|ne b o e).trans<|u.keep b o e n hb hx,λb o e n hb hx=>?_,u.free,λb o e hx=>?_,u.cH,u.dD,u.dS⟩ (λb o e=>?_) J.bare λb hb=>?_
 ·obtain⟨sl,q⟩:=u.slot b o e n hb hx;exact⟨sl,(hs.2 b<|ne b o e).trans q⟩
 ·obtain⟨o',q⟩:=u.there b o e hx;exact⟨o',(hs.2 b<|ne b o e).trans q⟩
 ·refine(J.ar b o e).fg (λc v hc q=>(hs.2 c ?_).trans q) (λ_ q=>q) λ_ _ q=>q
  rintro rfl;rcases hc with z | z
  ·rw[<- z,hC] at e;cases e
  ·rw[hC] at z;cases z
 ·obtain⟨f0,f1,f2,f3,f4,f5⟩:=hf b hb;exact⟨f3,f1,f4,f5⟩
end
def Wk:St->St->Prop
 |[],[]=>True
 |none::a,_::b=>Wk a b
 |some v::a,some u::b=>v=u/\Wk a b
 |_,_=>False
def Wk.len:∀{a b:St},Wk a b->a.length=b.length
 |[],[],_=>rfl
 |none::a,_::b,h=>congrArg (·+1)<|Wk.len h
 |some v::a,some u::b,h=>congrArg (·+1)<|Wk.len h.2
 |[],_::_,h=>h.elim
 |some _::_,[],h=>h.elim
 |none::_,[],h=>h.elim
 |some _::_,none::_,h=>h.elim
def Wk.get:∀{a b:St},Wk a b->∀(i:Nat) v,a[i]? = some (some v)->b[i]? = some (some v)
 |[],[],_,i,v,h=>by simp at h
 |none::a,x::b,h,0,v,e=>by simp at e
 |none::a,x::b,h,i+1,v,e=>by
  exact Wk.get (b:=b) h i v e
 |some q::a,some u::b,h,0,v,e=>by
  rw[<- h.1];exact e
 |some q::a,some u::b,h,i+1,v,e=>by
  exact Wk.get h.2 i v e
 |[],_::_,h,_,_,_=>h.elim
 |some _::_,[],h,_,_,_=>h.elim
 |none::_,[],h,_,_,_=>h.elim
 |some _::_,none::_,h,_,_,_=>h.elim
def Inv.wk(I:Inv X XI σ H s)(h:Wk σ' σ):Inv X XI σ' H s:=I.weak h.len h.get
def xh(J:It)(body:V->Hp->(Hp->Prop)->Prop)(Qn:Hp->Prop)(H:Hp):Prop:=
 ∃W:Nat->Nat->Hp->Prop,(∃m,W 0 m H)/\∀i m H2,W i m H2->(J.stop i H2/\Qn H2)∨(J.go i H2/\∀x H3,J.ow i H2 x H3->body x H3 λH6=>∃m',m'<m/\W (i+1) m' H6)
abbrev Act:=(Xe->Prop)->Xe->Prop
def BodyOk(Y:Cx)(σ:St)(act:Act)(b:Hp->(Hp->Prop)->Prop):Prop:=
 ∀(XI:List (Xb×Xo))(s:Xe)(H:Hp)(k:Hp->Prop)(Q:Xe->Prop),Inv Y XI σ H s->b H k->(∀s' H',Inv Y XI σ H' s'->k H'->Q s')->act Q s
def D3{act:Xd->Act}
  (hc:Y.calm=true)(T:Turn Y.prog Y.w Y.K tg J fp it tn)(st:tn 0 s.heap)(hf:∀b∈fp,bB Y XI H b)
  (zg:∀(Q:WO->Xe->Prop)(E:Xd->Xe->Prop)(s:Xe),Xi (Xg Y.prog Y.w) Y.A (pyNext<|.ref it) (λr s1=>match r with
   |none=>Q (.done .next) s1
   |some v=>Xi (Xg Y.prog Y.w) Y.A (letOwnedTupleGo tg (.ref it) v) (λ_ s2=>act v (λs3=>Q (.again<|.compLoop (.ListComp elt gens scope XJ) d (.ref it) (.ref D) Y.env) s3) s2) E s1) E s ->
   Xi (Xg Y.prog Y.w) Y.A (compTurn (.ListComp elt gens scope XJ) d (.ref it) (.ref D) Y.env) Q E s)
  (G4:∀(x:V)(u:Xd),RelV x u->BodyOk Y σ (act u) (body x))
  (I:Inv Y XI σ H s)(h:xh J body Qn H)(hR:∀s' H',Inv Y XI σ H' s'->Qn H'->R (.ok .next) s') :
  Xu (Xg Y.prog Y.w) Y.A (.compLoop (.ListComp elt gens scope XJ) d (.ref it) (.ref D) Y.env) R s:=by
 obtain⟨W,⟨m0,w0⟩,turn⟩:=h;have iY:∀{H':Hp},(∀b∈fp,H' b=none)->∀b∈fp,bB Y XI H' b:=λhn b hb=>⟨hn b hb,(hf b hb).2⟩
 refine codeAny_loop rfl (λn s'=>∃i H',Inv Y XI σ H' s'/\tn i s'.heap/\(∀b∈fp,H' b=none)/\W i n H') (λn s3 hI=>?_) m0 ⟨0,H,I,st,λb hb=>(hf b hb).1,w0⟩;refine wpAny_noted<|zg _ _ _ ?_;obtain⟨i,H3,I3,sO,zM,w3⟩:=hI;rcases turn i n H3 w3 with⟨stop,qn⟩ | ⟨go,step⟩
 ·refine aD (T.done Y rfl rfl rfl hc i XI s3 σ H3 _ I3 (iY zM) sO stop) λr s4 ⟨hr,I4⟩=>?_
  subst hr;exact hR s4 H3 I4 qn
 ·refine aD (T.item Y rfl rfl rfl hc i XI s3 σ H3 _ I3 (iY zM) sO go) λr s4 ⟨u,hr,h4⟩=>?_
  subst hr;refine aD h4 λ_ s5 ⟨x,H5,I5,r5,y5,ky,G9⟩=>?_
  have Np:=I5.pinned (iY G9)<|T.obj _ _ ky;refine G4 x u r5 _ s5 H5 _ _ Np (step x H5 y5) λs7 H7 I7 ⟨m',hm,w7⟩=>⟨rfl,m',hm,i+1,H7,I7.cL,T.keep _ _ _ ky λb hb o e=>(I7.pin (b,o)<|Jq _<|Jq _<|EC hb e).1,λb hb=>?_,w7⟩
  obtain⟨o,e,dd⟩:=T.obj _ _ ky b hb;exact(I7.pin (b,o)<|Jq _<|Jq _<|EC hb e).2.1
abbrev UH (ifs:List Zm) (env:Env):Sem Bool:=forIn ifs true λc r=>if r=true then do let ok <- isTrue c env (eval c env);pure (ya ok) else pure<|ya r
def iR(Y:Cx)(ifs:List Zm)(t:TT):Prop:=
 ∀(XI:List (Xb×Xo))(s:Xe)(σ:St)(H:Hp)(Q:Bool->Hp->Prop),Inv Y XI σ H s->t σ H Q->Xi (Xg Y.prog Y.w) Y.A (UH ifs Y.env) (TP Y XI σ Q) Y.xe s
def oj:TT:=λ_ H Q=>Q true H
def kX:iR Y [] oj:=λXI s σ H Q I h=>wpAny_tests_nil ⟨H,I,h⟩
def Qww(h:PT Y c t):iR Y [c] t:=λXI s σ H Q I q=>wpAny_tests_one<|h XI s σ H Q I q
def CV(Y:Cx)(tg:Zm)(ifs:List Zm)(inner:Act):Xd->Act:=λu Q s=>
 Xi (Xg Y.prog Y.w) Y.A (assign tg Y.env u) (λ_ s4=>Xi (Xg Y.prog Y.w) Y.A (UH ifs Y.env) (λok s5=>if ok=true then inner Q s5 else Q s5) (λ_ _=>False) s4) (λ_ _=>False) s
def uo(σ:St)(g:TG)(tc:TT)(inner:St->Hp->(Hp->Prop)->Prop):V->Hp->(Hp->Prop)->Prop:=λx H k=>g x σ H λσ4 H4=>Wk σ σ4/\tc σ4 H4 λb H5=>
 if b=true then inner σ4 H5 k else k H5
def DM(hx:Y.xe=λ_ _=>False)(hg:PG Y tg g)(ht:iR Y ifs tc)(he:∀σ4,BodyOk Y σ4 inner<|ri σ4)(x:V)(u:Xd)(r:RelV x u) :
  BodyOk Y σ (CV Y tg ifs inner u) (uo σ g tc ri x):=by
 intro XI s H k Q I h hQ;have iG:∀(v:Xd)(s':Xe),Y.xe v s'->False:=λv s' z=>by rw[hx] at z;exact z
 refine Xk (hg XI s σ H x u _ I r h) (λ_ s4 ⟨σ4,H4,I4,wk,q4⟩=>(Xk (ht XI s4 σ4 H4 _ I4 q4) (λb s5 ⟨H5,I5,q5⟩=>?_) iG)) iG;cases b with
 |false=>
  exact hQ s5 H5 (I5.wk wk) q5
 |true=>
  exact he σ4 XI s5 H5 k Q I5 q5 λs' H' I' k'=>hQ s' H' (I'.wk wk) k'
def IA(Y:Cx)(elt:Zm)(D:Xb):Act:=λQ s=>Xi (Xg Y.prog Y.w) Y.A (eval elt Y.env) (λv s6=>Xi (Xg Y.prog Y.w) Y.A (call (.builtin "list.append") [.ref D,v]) (λ_ s7=>Q s7) (λ_ _=>False) s6) (λ_ _=>False) s
def wU(p:Xb)(te:TE):St->Hp->(Hp->Prop)->Prop:=λσ H k=>te σ H λv H6=>∃ys,H6 p=some (.lst ys)/\ys.length<Xj/\k (upd H6 p<|.lst<|ys++[v])
def LD(hx:Y.xe=λ_ _=>False)(he:PE Y elt te):BodyOk Y σ (IA Y elt D) (wU D te σ):=by
 intro XI s H k Q I h hQ;have iG:∀(v:Xd)(s':Xe),Y.xe v s'->False:=λv s' z=>by rw[hx] at z;exact z
 refine Xk (he XI s σ H _ I h) (λv s6 ⟨y,H6,I6,r6,ys,e,hz,q⟩=>?_) iG;exact Xk (Bj XI s6 σ H6 (.ref D) [y] (.ref D) [v] (λ_ H'=>k H') I6 rfl (.cons r6 .nil) ⟨D,ys,y,rfl,rfl,e,hz,q⟩) (λ_ s7 ⟨_,H7,I7,_,q7⟩=>hQ s7 H7 I7 q7) iG
def VS(Q:WO->Xe->Prop)(E:Xd->Xe->Prop)(s:Xe)
  (h:Xi (Xg Y.prog Y.w) Y.A (pyNext<|.ref it) (λr s1=>match r with
   |none=>Q (.done .next) s1
   |some v=>Xi (Xg Y.prog Y.w) Y.A (letOwnedTupleGo tg (.ref it) v) (λ_ s2=>CV Y tg ifs (IA Y elt D) v (λs3=>Q (.again<|.compLoop (.ListComp elt [⟨tg,iter,ifs,0⟩] scope XJ) 0 (.ref it) (.ref D) Y.env) s3) s2) E s1) E s) :
  Xi (Xg Y.prog Y.w) Y.A (compTurn (.ListComp elt [⟨tg,iter,ifs,0⟩] scope XJ) 0 (.ref it) (.ref D) Y.env) Q E s:=by
 refine Xa<|wpAny_standAt<|Xa<|aD h λr s1 h1=>?_;cases r with
 |none=>exact Qg h1
 |some v=>
  refine Xa<|aD h1 λ_ s2 h2=>(Xa<|Xk h2 (λ_ s4 h4=>Xa<|Xk h4 (λok s5 h5=>?_) λ_ _ f=>f.elim) λ_ _ f=>f.elim);cases ok with
  |false=>exact Qg h5
  |true=>exact Xa<|Xa<|Xk h5 (λx s6 h6=>Xa<|Xk h6 (λ_ s7 h7=>Qg<|Qg h7) λ_ _ f=>f.elim) λ_ _ f=>f.elim
def lr(cap:List<|Option Nat)(wi:TI)(g:TG)(tc:TT)(te:TE):TE:=λσ H Q=>wi σ H λJ H1=>∀p,H1 p=none->xh J (uo (dE cap σ) g tc<|wU p te) (Q<|.ref p) (upd H1 p<|.lst [])
def bB.upd(h:bB X XI H b)(fi:b≠a):bB X XI (upd H a o) b:=⟨by rw[QY fi];exact h.1,h.2⟩
def Y5(hc:X.calm=true)(ok:pz X.N X.env.scope M scope cap=true)
  (hi:PI X tg iter wi)(hb:∀cl ex s3 H3 C,PG (bV X M scope cl ex s3 H3 C) tg g/\iR (bV X M scope cl ex s3 H3 C) ifs tc/\PE (bV X M scope cl ex s3 H3 C) elt te)
  (hs:∀x,Xn iter X.env x=pure x:=by intro _;rfl):PE X (.ListComp elt [⟨tg,iter,ifs,0⟩] scope pos) (lr cap wi g tc te):=by
 intro XI s σ H Q I h;have c:=fB.of ok;refine Mw rfl hs (KG<|I.ok.cells c) c.kind c.loc ?_
 refine aD (hi XI s σ H _ I h) λv s1 h1=>aD h1 λnq s2 h2=>?_
 obtain⟨it,fp,tn,J,H2,e,I2,T,iZ,f2,hW⟩:=h2;subst e;refine JC (L7 c.cell (by intro y hy;simp at hy) (λh₁ lI lH=>?_) c.kind);have I3:=I2.lF (t':=s2.toks) .nil<|Q9 _;have qH:∀b∈fp,b<s2.heap.objs.size:=λb hb=>by obtain⟨o,e,_⟩:=T.obj _ _ iZ b hb;exact Qr e
 have f3:∀b∈fp,bB X XI (upd H2 s2.heap.objs.size<|.lst []) b:=λb hb=>(f2 b hb).upd<|QZ<|qH b hb
 generalize zh:({ s2 with heap:=s2.heap.push { cls:=.type "list",data:=.seq ([]:List Xd).toArray } }:Xe)=s3 at I3;have e3:s3.heap=s2.heap.push { cls:=.type "list",data:=.seq ([]:List Xd).toArray }:=by rw[<- zh]
 have z3:s3.heap.objs.size=s2.heap.objs.size+1:=by rw[e3,xY]
 have hk:=λb o e=>lH.extBut b o (by
  have:=Qr e;rw[e3] at this;exact QZ this)<|Qf _<|e3 ▸ e
 have zo:h₁.Ns s3.heap.objs.size λ_=>none:=by rw[e3];exact lI
 have B:=Mf (t4:=s3.toks+([]:List (Str×Xd)).length) I3 c f3 (λb hb=>by rw[z3];exact LO<|qH b hb) zo hk;have kz:=T.keep _ _ _ iZ λb hb o e=>hk b o (by rw[e3];exact Qf _ e)
 have zN:∀b∈fp,bB (bV X M scope (cC X.env scope.names []) fp s3 (upd H2 s2.heap.objs.size<|.lst []) s3.heap.objs.size) [] (upd H2 s2.heap.objs.size<|.lst []) b:=λb hb=>by
  refine⟨(f3 b hb).1,(B.ok.nC b hb).1,B.ok.gG b hb,.inl hb,(B.ok.nC b hb).2,λp hp=>(nomatch hp)⟩
 obtain⟨hg,ht,he⟩:=hb (cC X.env scope.names []) fp s3 (upd H2 s2.heap.objs.size<|.lst []) s3.heap.objs.size;have loop:Xu (Xg X.prog X.w) X.A (.compLoop (.ListComp elt [⟨tg,iter,ifs,0⟩] scope pos) 0 (.ref it) (.ref s2.heap.objs.size)<|compEnvC scope (cC X.env scope.names []) s3.heap.objs.size X.env)
   (compPost (Xg X.prog X.w) X.A X.xe none (EP X XI σ Q) (.ref s2.heap.objs.size) s3.heap.objs.size) { s3 with heap:=h₁,toks:=s3.toks+([]:List (Str×Xd)).length }:=by
  refine D3 (Y:=bV X M scope (cC X.env scope.names []) fp s3 (upd H2 s2.heap.objs.size<|.lst []) s3.heap.objs.size) hc T kz zN
   (λQ E s h=>VS Q E s h) (λx u r=>DM rfl hg ht (λσ4=>LD rfl he) x u r) B (hW _<|I2.ar.fresh<|Qd _) λs' H' I' q=>?_
  obtain⟨m,hn,_⟩:=I'.loc;exact⟨m,hn,λh' wx=>⟨.ref s2.heap.objs.size,H',Ts I3 f3 I' wx,rfl,q⟩⟩
 exact Ml loop<|T.self _ 0 _ _ _ kz loop
end L2


namespace L2
section
variable{X:Cx}
def Qkf:aG X (.builtin "isinstance") (λxs H Q=>∃x t T b,xs=[x,.ty T]/\cW X.K H x t/\Wy X.K t (.type T)=some b/\Q (.bl b) H):=by
 intro XI s σ H xs us Q I r h;obtain⟨x,t,T,b,rfl,ty,e,q⟩:=h;obtain⟨u,v,rfl,ru,rv⟩:=vals2 r;cases(rv);exact Qpl I ru ty e λtk=>⟨.bl b,H,I.tok tk,rfl,q⟩
def VM:∀{us:List Xd},ai (bs.map V.bl) us->LSm.BoolsAre us bs:=by
 induction bs with
 |nil=>intro us r;cases r;exact .nil
 |cons b bs ih=>
  intro us r;cases r with
  |cons r t=>
   cases(r);exact .cons b<|ih t
def VN:aG X (.builtin "all") (λxs H Q=>∃(p:Xb)(bs:List Bool),xs=[.ref p]/\aA X.K H p (bs.map V.bl)/\X.calm=true/\Q (.bl<|bs.all id) H):=by
 intro XI s σ H xs us Q I r h;obtain⟨p,bs,rfl,hp,hc,q⟩:=h;obtain⟨u,rfl,ru⟩:=vals1 r;cases ru;obtain⟨ah,rv,pl,hz⟩:=I.list hp;have hl:=pl.isList;have hb:=VM rv;have c_:p<s.heap.objs.size:=by obtain⟨_,e,_⟩:=hl;exact Qr e
 refine call_all_walk<|LC hl ?_;refine⟨s.heap.objs.size,[s.heap.objs.size,p],[s.heap.objs.size],ah.toArray.size,_,_,λi=>(bs[i]?).getD true,rfl,Walks.list (A:=X.A.in1) (I.ok.hd hc) _ p (QZ c_) ah.toArray,
  ⟨⟨_,Qs _ rfl,rfl,rfl⟩,hl.push _⟩,λi v s' Q' E' hP hQ=>?_,λh' tk hk=>?_⟩
 ·obtain⟨b,e,rfl⟩:=hb.get i v (by simpa using hP);simp only[e] at hQ;exact ZC hQ
 ·have e:((Qv ah.toArray.size).all λi=>(bs[i]?).getD true)=bs.all id:=by
   rw[Qm,hb.length];exact LSm.range_all bs
  rw[e];exact⟨.bl _,H,I.kept<|QDd hk,rfl,q⟩
def QEL:V->Option Int->Option Int->Hp->VK->Prop:=λx lo hi H Q=>∃a xs,x=.ref a/\H a=some (.tup xs)/\∀p H',ag H H'->H' p=some (.tup<|jI xs lo hi)->Q (.ref p) H'
def JA(h:H p=none):ag H (upd H p o):=λb u e=>by rw[QY<|QN e h];exact e
def QdC{lo:Option Int}(ht:IsTup s.heap t items)(hs:s.heap.IsSliceOf sl vl vu .none)(pl:nM vl lo)(pu:nM vu hi)
  (h1:HT.aT items.size 0 lo=0)(h2:HT.aT items.size items.size hi=items.size)(h:Q (.ref t) s):Xi (Xg prog w) A (XA (.ref t)<|.ref sl) Q E s:=by
 obtain⟨os,tQ,Cm,cI⟩:=id hs;have G5:s.TypeIs (.ref sl) "slice" := ⟨os,tQ,Cm⟩;unfold XA
 try with_reducible refine ZE ?_
 first | refine Xa (Qg ?_) | skip
 refine Xa (QCR ht.typeIs (by decide) ?_);refine Xa (Z2 ht.typeIs JW
  (ZQ JW ht.typeIs PR ?_<|QCt _ _))
 show Xi _ _ (QeD (.ref t) >>= _) _ _ s;refine Xa<|tupleItemsOf_ ht<|Xa<|Dn G5 ?_;refine Xa<|HT.Qb6 hs pl pu ?_;show Xi _ _ (if(((HT.aT items.size 0 lo:Nat):Int) == 0&&1 == 1&&(HT.aT items.size items.size hi - HT.aT items.size 0 lo) == items.size)=true then _ else _) _ _ s;rw[X9 (by rw[h1,h2];simp)];refine Xa<|Xa<|Dn ht.typeIs<|Qg ?_;exact Xa<|wpAny_rule<|Qg ⟨_,rfl,Qg h⟩
def QzH:nJ X QEL:=by
 intro XI s σ H x v vl vu lo hi sl Q I rx hs pl pu h;obtain⟨a,xs,rfl,hx,q⟩:=h;by_cases hw:HT.aT xs.length 0 lo=0/\HT.aT xs.length xs.length hi=xs.length
 ·cases rx;obtain⟨ah,r,ht,hz⟩:=I.tuple<|aM.of hx;have hlen:ah.toArray.size=xs.length:=by rw[Qm];exact r.length.symm
  refine⟨"tuple",_,JW.lookup,ht.typeIs,(QdC ht hs pl pu (by rw[hlen];exact hw.1) (by rw[hlen];exact hw.2) ?_)⟩;refine⟨.ref a,H,I,rfl,q a H (ag.refl H) ?_⟩;have e:jI xs lo hi=xs:=by
   unfold jI;rw[hw.1,hw.2];simp
  rw[e];exact hx
 ·exact QzG XI s σ H (.ref a) v vl vu lo hi sl Q I rx hs pl pu ⟨a,xs,rfl,aM.of hx,hw,λp hp=>q p _ (JA hp) af⟩
def C3:R2:=λx y H Q=>∃a b xs ys,x=.ref a/\y=.ref b/\H a=some (.tup xs)/\H b=some (.tup ys)/\xs.length+ys.length<=Xj/\∀p H',ag H H'->H' p=some (.tup<|xs++ys)->Q (.ref p) H'
def Uw:aI X (Xr .Add) C3:=by
 intro XI s σ H x y v u Q I rx ry h;obtain⟨a,b,xs,ys,rfl,rfl,ha,hb,hz,q⟩:=h;by_cases hx:xs=[]
 ·subst hx;cases rx;cases ry;obtain⟨ah,r1,p1,_⟩:=I.tuple<|aM.of ha;obtain⟨fP,r2,p2,_⟩:=I.tuple<|aM.of hb;cases r1;obtain⟨⟨cls,dd,data,sl⟩,ho,hc,n,hd⟩:=id p1;obtain⟨⟨Hj,Ct,data2,sP⟩,tV,i7,n2,hd2⟩:=id p2;subst hc hd i7 hd2;exact Im ⟨_,ho,rfl⟩ ⟨_,tV,rfl⟩ KL Iw W_ XM (XN _ _)
   (tuple_addW0 a b #[] fP.toArray n n2 dd Ct sl sP rfl) ⟨ho,tV,⟨.ref b,H,I,rfl,q b H (ag.refl H) hb⟩⟩
 ·exact Qxb XI s σ H _ _ v u Q I rx ry ⟨a,b,xs,ys,rfl,rfl,aM.of ha,aM.of hb,hx,hz,λe=>q a H (ag.refl H) (by rw[e,J4];exact ha),λ_ p hp=>q p _ (JA hp) af⟩
def QDr:TE:=λ_ H Q=>∀p,H p=none->Q (.ref p) (upd H p<|.dK [])
def QwE:PE X (.Dict [] [] pos) QDr:=λXI s σ H Q I h=>by
 refine wpAny_Dict_empty ⟨.ref s.heap.objs.size,_,I.laid (λ_ _ q=>Qf _ q) (Qd _) ?_,rfl,h _<|I.ar.fresh<|Qd _⟩;have hb:Xq<s.heap.objs.size:=Nat.lt_trans (by decide) (I.mod.glob.keeps I.bk).lt;exact⟨Q9 _,beq_eq_false_iff_ne.mpr<|iM<|QZ hb,[],.nil,VG s.heap⟩
end
end L2
namespace Rz
open Sem (wp)
section
variable{prog:QB}{w:Jh}{A:Jo}{E:Xd->Xe->Prop}{s:Xe}
def Qs6(hit:s.heap.IsTupleIter it t i)(ht:s.heap.IsTuple t items)(hx:items[i]? = some x)
  (hQ:∀h',h'.IsTupleIter it t (i+1)->Ya it s.heap h'->Q x { s with heap:=h' }):Xi (Xg prog w) A (QdN<|.ref it) Q E s:=by
 obtain⟨o,ho,hc,hd⟩:=id hit;obtain⟨ol,GA,_,nl,GW⟩:=ht;refine Xa (Z2 hit.typeIs ES
  (ZQ ES hit.typeIs Wr ?_<|Qjk _))
 show Xi _ _ (field (.ref it) 0 >>= _) _ _ s;refine Xa<|om ho hd (x:=.ref t) rfl ?_;refine Xa<|om ho hd rfl ?_;refine Xa<|wpAny_seqItems GA GW ?_;simp only[Qx,hx];refine Xa (DV ho hd (by simp)<|Qg ⟨x,rfl,Qg<|hQ _ ?_<|Y0 ..⟩);exact⟨_,EJ _ ho<|Vf<|EO hd _,(Ry ..).trans hc,by
  rw[EO hd];simp[rawInt]⟩
def QxF(hh:A.handled=none)(hit:s.heap.IsTupleIter it t i)(ht:s.heap.IsTuple t items)(hx:items[i]? = none)
  (hE:∀h' e,Heap.ExtBut it s.heap h'->(∃o,h'.get? e=some o/\o.cls=.type "StopIteration")->E (.ref e) { s with heap:=h' }):Xi (Xg prog w) A (QdN<|.ref it) Q E s:=by
 obtain⟨o,ho,hc,hd⟩:=id hit;obtain⟨ol,GA,_,nl,GW⟩:=ht;refine Xa (Z2 hit.typeIs ES
  (ZQ ES hit.typeIs Wr ?_<|Qjk _))
 show Xi _ _ (field (.ref it) 0 >>= _) _ _ s;refine Xa<|om ho hd (x:=.ref t) rfl ?_;refine Xa<|om ho hd rfl ?_;refine Xa<|wpAny_seqItems GA GW ?_;simp only[Qx,hx];refine Xa (wpAny_rule<|Xa<|DV ho hd (by simp) ?_);refine Xa ?_
 refine Xa (JC ?_<|by size_fits);refine Xa (YN (by first | rfl | (simp only[firstArgMember];rfl)) ?_);refine JC ?_ (by size_fits)
 refine Xa<|wpAny_handled ?_
 first | rw[hh] | rw[hh]
 exact Xa<|Qg<|wpAny_throw<|hE _ _ (((Y0 ..).extBut.push _).push _) ⟨_,Qs _ rfl,rfl⟩
end
end Rz
namespace L2
section
variable{X:Cx}{XI:List (Xb×Xo)}{σ:St}{H:Hp}{s:Xe}{h':ZF}
def Inv.fX{ch:List Xb}(I:Inv X XI σ H s)(gR:∀b∈ch,bB X XI H b)(k:∀b u,b∉ch->s.heap.get? b=some u->h'.get? b=some u)(hp:s.heap.objs.size<=a)
  (new:aQ X.prog X.w (upd H a o) h' a o):Inv X XI σ (upd H a o) { s with heap:=h',toks:=t' }:=by
 have hn:=I.ar.fresh hp;have lD:∀b u,H b=some u->b∉ch:=λb u e z=>by rw[(gR b z).1] at e;cases e
 refine I.step (λb hb=>?_) (λb u _ _ hc e _=>k b u hc e) (λb u _ _ hc e _=>⟨u.slots,k b u hc e⟩) (λb u hc e n=>?_) (λb u hc e=>⟨u,k b u hc e⟩)
  (λb xs e=>by rw[QY<|QN e hn];exact e) (λb u v e=>by rw[QY<|QN e hn];exact e) (λb ps e=>⟨#[],by rw[QY<|QN e hn,e];simp⟩) (λm hm=>?_) (λb u e=>?_) I.bare
 ·obtain⟨f0,f1,f2,f3,f4,f5⟩:=gR b hb;exact⟨f3,f1,f4,f5⟩
 ·rw[QY<|QZ<|Q2 (Qr e) hp];exact n
 ·obtain⟨u,es,ep,ho,r⟩:=hm;exact⟨u,es,ep,k _ u (λz=>(gR _ z).2.1 rfl) ho,r⟩
 ·by_cases hb:b=a
  ·subst hb;rw[af] at e;cases e;exact new
  ·rw[QY hb] at e;refine(I.ar b u e).fg (λc v hc q=>k c v ?_ q) (λc q=>by rw[QY<|QN q hn];exact q) λc xs q=>by rw[QY<|QN q hn];exact q
   rcases hc with z | z
   ·rw[z];exact lD b u e
   ·exact lD c _ z
def Inv.fY{ch:List Xb}(I:Inv X XI σ H s)(gR:∀b∈ch,bB X XI H b)(k:∀b u,b∉ch->s.heap.get? b=some u->h'.get? b=some u):Inv X XI σ H { s with heap:=h',toks:=t' }:=by
 have lD:∀b u,H b=some u->b∉ch:=λb u e z=>by rw[(gR b z).1] at e;cases e
 refine I.step (λb hb=>?_) (λb u _ _ hc e _=>k b u hc e) (λb u _ _ hc e _=>⟨u.slots,k b u hc e⟩) (λb u hc e n=>n) (λb u hc e=>⟨u,k b u hc e⟩)
  (λb xs e=>e) (λb u v e=>e) (λb ps e=>⟨#[],by rw[e];simp⟩) (λm hm=>?_) (λb u e=>?_) I.bare
 ·obtain⟨f0,f1,f2,f3,f4,f5⟩:=gR b hb;exact⟨f3,f1,f4,f5⟩
 ·obtain⟨u,es,ep,ho,r⟩:=hm;exact⟨u,es,ep,k _ u (λz=>(gR _ z).2.1 rfl) ho,r⟩
 ·refine(I.ar b u e).fg (λc v hc q=>k c v ?_ q) (λc q=>q) λc xs q=>q
  rcases hc with z | z
  ·rw[z];exact lD b u e
  ·exact lD c _ z
end
section
variable{X:Cx}
end
end L2
namespace Rk
open L2
def QEE:Option HO->Option (List V)
 |some (.tup xs)=>some xs
 |_=>none
def rA(H:Hp):V->Option (List V)
 |.ref a=>QEE<|H a
 |_=>none
def VR(H:Hp)(a:Xb):rA H (.ref a)=QEE (H a):=rfl
def Gr(H:Hp)(x:V):Bool:=(rA H x).isSome
def Kn(p:Xb)(H:Hp):V->Prop
 |.aH=>True
 |.bl _=>True
 |.int _=>True
 |.str _=>True
 |.ref a=>a≠p/\((∃xs,H a=some (.tup xs))∨(∃xs,H a=some (.lst xs))∨∃kvs,H a=some (.dK kvs))
 |_=>False
def k_(p:Xb):Nat->Hp->V->Prop
 |0,H,x=>Kn p H x
 |n+1,H,x=>Kn p H x/\∀xs,rA H x=some xs->∀y∈xs,k_ p n H y
def KX(p:Xb)(H H':Hp):Prop:=∀b o,b≠p->H b=some o->H' b=some o
def KX.of(h:ag H H'):KX p H H':=λb o _ e=>h b o e
def KX.new(h:H q=none):KX p H (L2.upd H q o):=KX.of<|JA h
def k_.low:∀{n:Nat}{x:V},k_ p (n+1) H x->k_ p n H x
 |0,x,h=>h.1
 |n+1,x,h=>⟨h.1,λxs e y hy=>k_.low<|h.2 xs e y hy⟩
def k_.tup(hp:a≠p)(e:H a=some (.tup xs))(h:∀y∈xs,k_ p n H y):k_ p (n+1) H (.ref a):=
 ⟨⟨hp,.inl ⟨xs,e⟩⟩,λys z y hy=>h y (by
  have z':some xs=some ys:=by rw[<- z,VR,e];rfl
  cases z';exact hy)⟩
def k_.int{p:Xb}{H:Hp}(i:Int):∀(n:Nat),k_ p n H (.int i)
 |0=>trivial
 |n+1=>⟨trivial,λ_ e=>nomatch e⟩
def Qnp(e:H a=some (.tup xs)):rA H (.ref a)=some xs:=by rw[VR,e];rfl
def Rf(H:Hp)(x:V):List Int:=((rA H x).getD []).map λy=>match y with
 |.int i=>i
 |_=>0
def sC(H:Hp)(x:V)(ns:List Int):Prop:=∃a,x=.ref a/\H a=some (.tup<|ns.map V.int)
def sC.eq(h:sC H x ns):Rf H x=ns:=by
 obtain⟨a,rfl,e⟩:=h;unfold Rf;rw[Qnp e];show(ns.map V.int).map _=ns;rw[QD];exact Iy _
def MP:Xm "isinstance" = some (.builtin "isinstance"):=by decide
def rN:Xm "int" = some (.type "int"):=by decide
def Tv:Xm "bool" = some (.type "bool"):=by decide
def Yc:Xm "tuple" = some (.type "tuple"):=by decide
def DN:Xm "list" = some (.type "list"):=by decide
def mr:Xm "str" = some (.type "str"):=by decide
def RJ:Xm "all" = some (.builtin "all"):=by decide
def kS:Xm "len" = some (.builtin "len"):=by decide
def IL:Xm "max" = some (.builtin "max"):=by decide
def IM:Xm "min" = some (.builtin "min"):=by decide
end Rk
namespace L2
def AS(n:Nat)(Pv:Nat->Hp->Prop)(h0:Pv 0 H)
  (hs:∀i H2,i<n->Pv i H2->J.go i H2/\∀x H3,J.ow i H2 x H3->∀k:Hp->Prop,(∀H6,Pv (i+1) H6->k H6)->body x H3 k)(hd:∀H2,Pv n H2->J.stop n H2/\Qn H2):xh J body Qn H:=by
 refine⟨λi m H=>m=n - i/\i<=n/\Pv i H,⟨n,by simp,Q9 _,h0⟩,?_⟩;rintro i m H2 ⟨rfl,hi,p⟩;by_cases c_:i<n
 ·obtain⟨go,st⟩:=hs i H2 c_ p;exact .inr ⟨go,λx H3 y=>st x H3 y _ λH6 p6=>⟨n - (i+1),by omega,rfl,c_,p6⟩⟩
 ·have e:i=n:=by omega
  subst e;exact .inl<|hd H2 p
end L2
namespace Rk
open L2
def V7(K:Ws):Sp:=λvs H Q _=>∃a ns k,vs=[.ref a,.int k]/\aA K H a ((ns:List Int).map V.int)/\ns.length<2^20/\0<=k/\∀c,Q (.int c) H
def Pp:Sp:=λvs H Q _=>∃c,vs=[.int c]/\∀p n,H p=none->Q (.ref p) (upd H p<|.lst [.int n])
def Cs(p:Xb)(H:Hp):List V->List (Int×Int)->Prop:=Zw λx ij=>∃d,d≠p/\x=.ref d/\H d=some (.tup [.int ij.1,.int ij.2])
def QCr(a b:Int×Int):Prop:=a.1<b.1∨(a.1=b.1/\a.2<b.2)
structure Good (h w:Int) (L:List (Int×Int)):Prop where
 gc:L.Pairwise QCr
 ins:∀x∈L,0<=x.1/\x.1<h/\0<=x.2/\x.2<w
 len:L.length<=36
def Vn(x:Int)(h:0<m):0<=x % m/\x % m<m:=⟨O1 _<|by omega,S1 _ h⟩
def notStar:Zm->Bool
 |.Starred _ _=>false
 |_=>true
def mz(h:notStar e=true):Xh (e::es) env=(false,eval e env)::Xh es env:=by
 cases e<;>first | rfl | cases h
section
variable{X:Cx}
def Y6(ha:PE X e te)(hr:PA X es t)(hs:notStar e=true:=by rfl):PA X (e::es) (ZM te t):=Ql ha hr<|mz hs
inductive BE (X:Cx):List Zm->List TE->Prop
 |nil:BE X [] []
 |cons {e es te ts}:PE X e te->notStar e=true->BE X es ts->BE X (e::es) (te::ts)
def QEH:List TE->TA
 |[]=>bD
 |t::ts=>ZM t<|QEH ts
def BE.pa(h:BE X es ts):PA X es (QEH ts):=by
 induction h with
 |nil=>exact Qu
 |cons a s _ ih=>exact Y6 a ih s
def Sm(H:Hp)(x:V):Prop:=∀ps,rA H x=some ps->ps.length<Xj
def QCl(p:Xb)(H:Hp)(x:V):Prop:=k_ p 3 H x/\Sm H x/\∀xs,rA H x=some xs->∀y∈xs,Sm H y
def QE2{P:V->Prop}:∀y∈([]:List V),P y:=λ_ h=>nomatch h
def QEe{P:V->Prop}(h:P a)(k:∀y∈l,P y):∀y∈a::l,P y:=λy hy=>by
 rcases Qt.mp hy with e | e
 ·subst e;exact h
 ·exact k y e
def ZY(h:n<=1000):n<Xj:=JK h (by decide)
def gK(p:Xb):Nat->Hp->V->Prop
 |0,H,x=>Kn p H x/\Sm H x
 |n+1,H,x=>Kn p H x/\Sm H x/\∀xs,rA H x=some xs->∀y∈xs,gK p n H y
def gK.sm:∀{n:Nat},gK p n H x->Sm H x
 |0,h=>h.2
 |_+1,h=>h.2.1
def gK.knd:∀{n:Nat}{x:V},gK p n H x->k_ p n H x
 |0,_,h=>h.1
 |_+1,_,h=>⟨h.1,λxs e y hy=>(h.2.2 xs e y hy).knd⟩
def gK.jq(h:∀n,gK p n H x):QCl p H x:=⟨(h 3).knd,(h 0).2,λxs e y hy=>((h 1).2.2 xs e y hy).2⟩
def KZ(h:PA X e t)(k:∀σ H Q,t' σ H Q->t σ H Q):PA X e t':=λpos XI s σ H Q I q=>h pos XI s σ H Q I<|k σ H Q q
def uL(t:TA):TE:=λσ H Q=>t σ H λxs H1=>xs.length<=1000/\∀a H2,ag H1 H2->H1 a=none->H2 a=some (.tup xs)->Q (.ref a) H2
def Ak(t:TA):TE:=λσ H Q=>t σ H λxs H1=>xs.length<=1000/\∀a H2,ag H1 H2->H1 a=none->H2 a=some (.lst xs)->Q (.ref a) H2
def YY{x1}(h:PA X es t):PE X (.Tuple es x1 pos) (uL t):=by
 intro XI s σ H Q I hq;refine PU (aD (h pos XI s σ H _ I hq) λus s1 ⟨xs,H1,I1,r,z,q⟩=>⟨by rw[<- r.length];exact JG<|ZY z,?_⟩);have hf:=I1.ar.fresh<|Qd _;refine⟨.ref s1.heap.objs.size,upd H1 s1.heap.objs.size<|.tup xs,I1.laid (λb u e=>Qf _ e) (Qd _) ?_,rfl,q _ _ (JA hf) hf af⟩;exact⟨JG<|ZY z,us,r,⟨_,Qs _ rfl,rfl,rfl,_,rfl⟩⟩
def Yi(h:PA X es t):PE X (.List es pos) (Ak t):=by
 intro XI s σ H Q I hq;refine QCs (aD (h pos XI s σ H _ I hq) λus s1 ⟨xs,H1,I1,r,z,q⟩=>⟨by rw[<- r.length];exact JG<|ZY z,?_⟩);have hf:=I1.ar.fresh<|Qd _;refine⟨.ref s1.heap.objs.size,upd H1 s1.heap.objs.size<|.lst xs,I1.laid (λb u e=>Qf _ e) (Qd _) ?_,rfl,q _ _ (JA hf) hf af⟩;exact⟨JG<|ZY z,us,0,r,Qs _ rfl⟩
def QDD:R2:=λx y H Q=>∃l b xs zs,x=.ref l/\y=.ref b/\H l=some (.lst xs)/\H b=some (.lst zs)/\xs.length+zs.length<=1000/\∀a H2,ag H H2->H a=none->H2 a=some (.lst<|xs++zs)->Q (.ref a) H2
def xF:aI X (Xr .Add) QDD:=λXI s σ H x y v u Q I rx ry ⟨l,b,xs,zs,e1,e2,h1,h2,hl,k⟩=>
 Sk XI s σ H x y v u Q I rx ry ⟨l,b,xs,zs,e1,e2,h1,h2,JG<|ZY hl,λa ha=>k a _ (JA ha) ha af⟩
end
def sE(p:Xb)(H:Hp)(x:V):Prop:=∀n,gK p n H x
def sE.jq(h:sE p H x):QCl p H x:=gK.jq h
end Rk
namespace Rx
open PySem.Calls L2 PySem.W Builtin Builtin.ObjectAttr Builtin.Getset_descriptor
def fA(a C:Xb)(h:ZF):Prop:=∃o vs,h.get? a=some o/\o.cls=.ref C/\o.data=.fields vs
def fA.ty(x:fA a C h):Looks M h (typeOf<|.ref a) (.ref C):=by
 obtain⟨o,vs,e,c,_⟩:=x;exact c ▸ (Looks.ld e).andThen .now
structure pS (K:Ws) (C:Xb):Prop where
 ga:findIn K (.ref C) "__getattribute__" = some (some<|.builtin "BaseException.__getattribute__")
 hk:findIn K (.ref C) "__getattr__" = some none
 bas:mroIn K C (.type "BaseException")=some true
 cls:(clsIn K C).isSome=true
 att:findIn K (.ref C) "__class__" = some (some<|.builtin "object.__class__")
 spc:specialIn K (.builtin "object.__class__") "__get__" = some (some<|.builtin "getset_descriptor.__get__")
 fF:takesIn K (.builtin "object.__class__")=some true
 mro:mroIn K C (.type "object")=some true
section
variable{prog:QB}{w:Jh}{A:Jo}{E:Xd->Xe->Prop}{s:Xe}{K:Ws}{a C:Xb}
def Qyd(X:K.In h)(c:pS K C):Looks M h (find (.ref a) (.ref C) "__class__") (.bind (.builtin "getset_descriptor.__get__")<|.builtin "object.__class__"):=by
 have l1:=looks_findIn (M:=M) X c.att;have l2:=looks_specialIn (M:=M) X c.spc;have l3:=looks_takesIn (M:=M) X c.fF;have l4:Looks M h (dataDescriptor? (some<|.builtin "object.__class__")<|some<|.builtin "getset_descriptor.__get__") (some (.builtin "getset_descriptor.__get__",.builtin "object.__class__")):=l3.andThen .now;exact l1.andThen<|l2.andThen<|l4.andThen<|Looks.tag .now
def QBu(X:K.In s.heap)(I:fA a C s.heap)(c:pS K C)(h:R (.ok<|.ret<|.ref C) s) :
  Xu (Xg prog w) A (.call (.builtin "getset_descriptor.__get__") ⟨[.builtin "object.__class__",.ref a,tp],[]⟩) R s:=by
 have la:=I.ty (M:=Xg prog w);have lb:=looks_mroIn (M:=Xg prog w) X c.mro;refine PM KF.slot_gs.plain KF.entry_gs<|KF.slot_gs.check _ _ _ _ _ _ _ _ KF.type_class (KF.args_gs _ _ _) ?_;refine Xa<|Qg ?_;unfold descrGetter;unfold descrCheckInstance;unfold descrNameAndClass;simp only[KF.owner_class]
 repeat lk
 refine⟨Code.quiet_builtin _<|by decide,codeAny_builtin KF.entry_class ?_⟩
 repeat lk
 exact h
def QtH{M:Model}{yS:Xd}{Q:Unit->Xe->Prop}(X:K.In s.heap)(I:fA a C s.heap)(c:pS K C)(hq:Q () s):Xi M A (checkBuiltinCall "BaseException.__getattribute__" ⟨[.ref a,yS],[]⟩) Q E s:=by
 have hk:builtinKind "BaseException.__getattribute__" = some .slot:=by decide
 have tL:splitId "BaseException.__getattribute__" = some ("BaseException", "__getattribute__"):=by decide
 have la:=I.ty (M:=M);have lb:=looks_mroIn (M:=M) X c.bas;have li:Looks M s.heap (isInstance (.ref a)<|.type "BaseException") true:=la.andThen lb;simp only[checkBuiltinCall,hk,tL];refine Xa<|li.at ?_
 repeat (first | exact hq | wp_step)
def QtG(X:K.In s.heap)(I:fA a C s.heap)(c:pS K C)(h:Q (some<|.ref C) { s with toks:=s.toks+1 }):Xi (Xg prog w) A (getAttr? (.ref a) "__class__") Q E s:=by
 have la:=I.ty (M:=Xg prog w);have lb:=looks_findIn (M:=Xg prog w) X c.ga;have lc:=looks_findIn (M:=Xg prog w) X c.hk;have ld:=Qyd (M:=Xg prog w) (a:=a) X c;have f3:=Si.ga.bind<|.ref a;have Gv:(onTheHeap (JT C)&&Bc "BaseException.__getattribute__" == Bc "object.__getattribute__")=false:=by
  have e:(Bc "BaseException.__getattribute__" == Bc "object.__getattribute__")=false:=by decide
  rw[e];rfl
 refine Xa<|wpAny_mkText<|Xa<|DW<|ZE<|Xa<|la.at<|Xa<|lb.at ?_;refine Xa ?_
 refine lc.at<|Xa<|DW<|ZE ?_;show Xi _ _ (boundAndCalled _ _ _) _ _ _;refine Xa<|Qg<|xO<|PM Si.ga.plain F.entry_bexc_ga<|QtH X I c ?_;refine Xa<|Qg<|Xa<|Qg<|Xa<|la.at<|Xa<|ld.at ?_;refine Xa<|ZE<|xO<|QBu X I c ?_;exact Qg<|handed_on rfl<|Qg h
def QxZ(c:pS K C):KitX K (.ref a) (.ref C) (fA a C) where
 ty:=λ_ _ _ I=>I.ty
 it:=λ_ _ X _=>by
  have q:=c.cls;unfold clsIn at q;split at q
  ·rename_i ho
   intro A' Q' E' s' k z;exact Xa<|Kl (k _ _<|X _ _ ho)<|Qg z
  ·cases q
 ne:=λh tp dd ah n sl X htp=>by
  have q:=c.cls;refine Y4.mpr λz=>?_
  cases Value.ref.inj (beq_iff_eq.mp z);unfold clsIn at q;split at q
  ·rename_i ho
   cases(X _ _ ho).symm.trans htp
  ·cases q
 ca:=λX I k=>QtG X I c k
end
end Rx
namespace Rx
open PySem.Calls L2
abbrev cu:List Xd:=[.type "ValueError",.type "Exception",.type "BaseException",.type "object"]
def QCo(h:ZF)(C:Xb):Prop:=∃bm N nm q bs hdct sn sub ab col dd k0 k1 k2 k3 k5 mN,
 h.get? C=some (excClassObj nm q C N bs bm hdct sn sub ab col dd k0 k1 k2 k3 k5 "ValueError.__new__")/\h.Ns N mN/\mN "__init__" = none/\OwnTail h cu bm
def Qn1{K:Ws}(X:K.In h)(q:Ww K C cu "ValueError.__new__" = true):QCo h C:=by
 unfold Ww at q;split at q;next dd cd sl ho=>
  split at q;next C' bm k0 k1 k2 k3 n k5 hm hs=>
   obtain⟨q,e6⟩:=QH.mp q;obtain⟨q,e5⟩:=QH.mp q;obtain⟨q,e4⟩:=QH.mp q;obtain⟨q,e3⟩:=QH.mp q;obtain⟨e1,e2⟩:=QH.mp q;cases beq_iff_eq.mp e1;cases beq_iff_eq.mp e2;rcases cd with⟨c1,c2,c3,c4,c5,c6,c7,c8,c9,ca,cb⟩
   rcases sl with⟨sl⟩
   have e7:cb=false:=by
    cases cb with
    |false=>rfl
    |true=>cases e3
   have hm:=hm;have hs:=hs;subst hm hs e7;have hn:h.Ns c4 (h.nsMap c4):=.of_isNs<|PySem.W.isNs_of_in X e5;exact⟨_,_,_,_,_,_,_,_,_,_,_,_,_,_,_,_,_,X _ _ ho,hn,PySem.W.nsMap_none_of_in X e5<|beq_iff_eq.mp e6,PySem.W.tail_of_in X e4⟩
  next=>cases q
 next=>cases q
def f7(x:aQ P w H h a o):∃u,h.get? a=some u:=by
 cases o with
 |lst xs=>obtain⟨_,_,_,_,e⟩:=x;exact⟨_,e⟩
 |tup xs=>obtain⟨_,_,_,p⟩:=x;obtain⟨_,e,_⟩:=p;exact⟨_,e⟩
 |dK kvs=>obtain⟨_,_,_,_,o,_,_,e,_⟩:=x;exact⟨_,e⟩
 |dT kvs=>obtain⟨_,_,_,_,o,_,_,e,_⟩:=x;exact⟨_,e⟩
 |set S n=>obtain⟨o,_,_,_,e,_⟩:=x;exact⟨_,e⟩
 |ins C dx fs=>obtain⟨_,_,_,e,_⟩:=x;exact⟨_,e⟩
 |own y=>exact x
 |xd fs=>obtain⟨_,⟨_,_,_,e,_⟩,_⟩:=x;exact⟨_,e⟩
 |sU lo hi=>obtain⟨_,_,_,e⟩:=x;exact⟨_,e⟩
 |cE ob u=>exact⟨_,x.1⟩
 |qE ps=>exact⟨_,x⟩
 |met f y=>exact⟨_,x⟩
 |ext φ=>exact x.2.1
def Fly(P:QB)(w:Jh)(outer:List Env)(H:Hp)(s:Xe)(C:Xb)(H':Hp)(e:Xd)(s':Xe):Prop:=
 ∃(a t:Xb)(B:ZF),e=.ref a/\s'.os=s.os/\nT s'.gens/\QDf B outer a (.ref C) (.ref t) s'.heap/\s.heap.get? a=none/\H' a=none /\
  ∀h2:ZF,B.StaysIn h2->s'.heap.UpToSlots h2->Un (gT outer) [] H H' s.heap h2/\cg P w H' h2
def aY(P:QB)(w:Jh):iV:=λouter H s E e s'=>∃C H',Fly P w outer H s C H' e s'/\E (.ref C) none H'
def R_(E:XK)(C:Xb)(te:TE):TS:=λ_ σ H=>te σ H λ_ H1=>E (.ref C) none H1
section
variable{X:Cx}{E:XK}{C:Xb}{x:Str}{e0:Zm}{te:TE}{np XJ pos:Pos}
def QBs(I:Inv X XI σ H s)(dn:X.stack=X.env::X.outer)(nu:X.env.frame=some X.env.locals)(hex:X.ex=[])
  (hx:Heap.MadeExcOf s.heap h1 a (.ref C) vs) :
  Xi M X.A (leaving X.env<|.ref a) (λ_ s2=>Fly X.prog X.w X.outer X.H₀ X.s₀ C H (.ref a) s2) EE { s with heap:=h1 }:=by
 have fr:X.A.frames=some (X.env::X.outer):=by rw[<- dn];exact I.ok.frames
 have ff:s.heap.FunFrames X.base (X.env::X.outer):=by rw[<- dn];exact I.stack
 have zu:∀env∈X.env::X.outer,∀b,env.frame=some b->b∈gT (X.env::X.outer):=λenv he b hb=>Ms.mpr ⟨env,he,hb⟩
 refine wpAny_leaves_madeW fr nu (λb o q=>XU _ q) (PySem.W.funFrames_hide ff zu) hx λh' t x1 x2 x3 x4=>?_
 have yO:∀b:Xb,b∉X.ex:=λb=>by rw[hex];simp
 have zL:X.s₀.heap.get? a=none:=by
  cases q:X.s₀.heap.get? a with
  |none=>rfl
  |some o=>
   obtain⟨o',e⟩:=I.base.there a o q<|yO a;rw[hx.new] at e;cases e
 have zK:H a=none:=by
  cases q:H a with
  |none=>rfl
  |some o=>
   obtain⟨u,e⟩:=f7<|I.ar a o q;rw[hx.new] at e;cases e
 have stf:=λb hb=>I.gq b (by rw[dn];exact hb)
 refine⟨a,t,_,rfl,I.os,I.bare,x1,zL,zK,λh2 st up=>?_⟩;have BW:=((QCA hx.keeps).trans x4).trans up;have kp:=λb o e n=>st b o<|XT _ e n
 have own:∀b o,X.s₀.heap.get? b=some o->b≠X.env.locals:=λb o e z=>by
  have h1:=Qr e;have h2:=I.ok.above;rw[z] at h1;exact Z_ (Q2 h1 h2)<|ZT _
 have N3:∀b o,X.s₀.heap.get? b=some o->b∉gT X.outer->b∉gT (X.env::X.outer):=λb o e n hb=>by
  unfold gT at hb n;rw[Br,nu] at hb;rcases Qt.mp hb with z | z
  ·exact own b o e z
  ·exact n z
 have zB:∀b∈gT X.outer,∀o,s.heap.get? b=some o->∀vs,o.data≠.fields vs:=λb hb o e=>by
  obtain⟨_,o',gw,hd⟩:=I.cw.mem hb;rw[e] at gw;cases gw;exact hd
 refine⟨⟨λb o e n hb _=>kp b o (I.base.keep b o e n hb<|yO b)<|N3 b o e hb,λb o e n hb _=>?_,λb o e n _=>I.base.free b o e n<|yO b,λb o e _=>?_,I.base.cH,I.base.dD,I.base.dS⟩,λb o e=>?_⟩
 ·obtain⟨sl,e1⟩:=I.base.slot b o e n hb<|yO b;obtain⟨sP,e2⟩:=BW b _ e1<|zB b hb _ e1;exact⟨sP,e2⟩
 ·obtain⟨o',e1⟩:=I.base.there b o e<|yO b;by_cases hb:b∈gT X.outer
  ·obtain⟨sP,e2⟩:=BW b _ e1<|zB b hb _ e1;exact⟨_,e2⟩
  ·exact⟨o',kp b o' e1<|N3 b o e hb⟩
 ·refine(I.ar b o e).fg (λc u hc q=>kp c u q λhm=>?_) (λ_ q=>q) λ_ _ q=>q
  have z:=stf c hm;rcases hc with r | r
  ·rw[r,e] at z;cases z
  ·rw[r] at z;cases z
def A7(zc:∀e s1,Xi (Xg X.prog X.w) X.A (leaving X.env e) (λ_ s2=>aY X.prog X.w X.outer X.H₀ X.s₀ E e s2) (λe' s2=>aY X.prog X.w X.outer X.H₀ X.s₀ E e' s2) s1->X.xe e s1)
  (dn:X.stack=X.env::X.outer)(nu:X.env.frame=some X.env.locals)(hex:X.ex=[])(hc:X.calm=true)(hg:Gl X x)(hm:X.mg x=some (.ref C))(q:Ww X.K C cu "ValueError.__new__" = true)
  (ha:PE X e0 te)(he:Xh [e0] X.env=[(false,eval e0 X.env)]:=by rfl)(hd:(x == ("__debug__" : Str))=false:=by decide) :
  PS X (.Raise (some<|.Call (.Name x np) [e0] [] XJ) none pos) (R_ E C te):=by
 intro XI s σ H D I h;obtain⟨bm,N,nm,qn,bs,hdct,sn,sub,ab,col,dd,k0,k1,k2,k3,k5,mN,hC,hN,hni,T⟩:=Qn1 I.ok.mod.oH q;refine wpAny_Raise_call_subT (k5:=k5) (k3:=k3) (k2:=k2) (k1:=k1) (k0:=k0) (dd:=dd) (col:=col) (ab:=ab) (sub:=sub) (sn:=sn) (hdct:=hdct) (bs:=bs) (N:=N) (q:=qn) (nm:=nm) (C:=C) PySem.F.excBase_ValueError (T.hasType PySem.F.excBase_ValueError.hasBase) (I.ok.hd hc) (by rw[he];rfl) hni<|xE I hg hm ?_ hd;refine⟨rfl,?_⟩;rw[he];refine MA (YL<|aD (ha XI s σ H _ I h) λu s1 ⟨v,H1,I1,r1,q1⟩=>Ey ⟨rfl,by show 1<=Xj;decide,I1.bk _ _ hC,hN.keeps I1.bk,T.keeps I1.bk,λh' e hx=>?_⟩);exact zc _ _<|aD (QBs I1 dn nu hex hx) λ_ s2 z=>⟨C,H1,z,q1⟩
end
def qQ(a C:Xb):HO:=.ext<|fA a C
structure yp (K:Ws) (C R:Xb):Prop where
 ty:W5 K (.ref R)=some (.type "type")
 cls:(WQ K R).isSome=true
 base:WI K R (.type "BaseException")=some true
 sub:WI K C (.ref R)=some true
def Ql1{K:Ws}(X:K.In h)(c:(WQ K R).isSome=true):PySem.W.Looks M h (isType<|.ref R) true:=by
 unfold WQ at c;split at c
 ·rename_i ho
  intro A' Q' E' s' k z;exact Xa<|Kl (k _ _<|X _ _ ho)<|Qg z
 ·cases c
def Qmj{K:Ws}(X:K.In s.heap)(I:fA a C s.heap)(c:yp K C R)(h:Q true s) :
  Xi M A (excMatches (.ref a)<|.ref R) Q E s:=by
 obtain⟨h0,g0,d0,t0,o0⟩:=s;have l1:=PySem.W.looks_typeIn (M:=M) X c.ty;have l2:=Ql1 (M:=M) X c.cls;have l3:=X3 (M:=M) X c.base;have l4:=X3 (M:=M) X c.sub;have l5:=I.ty (M:=M)
 repeat (first | lk | exact h)
abbrev Gg (X:Cx) (e:Xd):Cx:={ X with A:=X.A.mark<|some e,calm:=false,xe:=λ_ _=>False }
section
variable{X:Cx}{XI:List (Xb×Xo)}{σ:L2.St}{H:Hp}{s:Xe}
def TN(I:Inv X XI σ H s)(e:Xd):Inv (Gg X e) XI σ H s:=
 ⟨⟨I.ok.mod,I.ok.kind,I.ok.glob,I.ok.blt,I.ok.above,I.ok.inj,I.ok.has,I.ok.uj,nofun,I.ok.frames,I.ok.v5,I.ok.nC,I.ok.bs,I.ok.j9,I.ok.i4,I.ok.gG,I.ok.cw,I.ok.nv⟩,I.os,I.bare,I.base,I.loc,I.cell,I.free,I.bg,I.pin,I.ar,I.len⟩
def Qtr(ok:X.Ok)(I:Inv (Gg X e) XI σ H s):Inv X XI σ H s:=⟨ok,I.os,I.bare,I.base,I.loc,I.cell,I.free,I.bg,I.pin,I.ar,I.len⟩
def Qpm(I:Inv X XI σ H s)(hf:H a=none)(h0:X.s₀.heap.get? a=none)(hp:∀p∈X.pn++XI,p.1≠a)(x:fA a C s.heap):Inv X XI σ (upd H a<|qQ a C) s:=by
 obtain⟨o,vs,ho,hcl,hd⟩:=id x;have ne:∀b u,H b=some u->b≠a:=λb u e z=>by rw[z,hf] at e;cases e
 refine⟨I.ok,I.os,I.bare,⟨I.base.keep,I.base.slot,λb u e n hx=>?_,I.base.there,λb xs e=>?_,λb u xs e=>?_,λb ps e=>?_⟩,I.loc,I.cell,?_,λy c e=>?_,λp tP=>?_,λb u e=>?_,I.len⟩
 ·rw[QY (λz=>by rw[z,h0] at e;cases e)];exact I.base.free b u e n hx
 ·have q:=I.base.cH b xs e;rw[QY<|ne b _ q];exact q
 ·have q:=I.base.dD b u xs e;rw[QY<|ne b _ q];exact q
 ·obtain⟨m,q⟩:=I.base.dS b ps e;exact⟨m,by rw[QY<|ne b _ q];exact q⟩
 ·obtain⟨m,⟨oL,es,ep,wz,Ow,_⟩,_⟩:=I.loc;rw[QY (λz=>by rw[z,ho] at wz;cases wz;rw[hd] at Ow;cases Ow)];exact I.free
 ·obtain⟨v,oc,zm,Ov⟩:=I.cell y c e;rw[QY (λz=>by rw[z,ho] at zm;cases zm;rw[hd] at Ov;cases Ov)];exact I.bg y c e
 ·obtain⟨e,n,r⟩:=I.pin p tP;exact⟨e,by rw[QY<|hp p tP];exact n,r⟩
 ·by_cases hb:b=a
  ·subst hb;rw[af] at e;cases e;exact⟨x,⟨o,ho⟩,λh1 h2 y k=>by
    obtain⟨o',vs',e',c',d'⟩:=y;exact⟨o',vs',k _ e',c',d'⟩⟩
  ·rw[QY hb] at e;exact(I.ar b u e).fg (λ_ _ _ q=>q) (λc q=>by rw[QY<|ne c _ q];exact q) λc xs q=>by rw[QY<|ne c _ q];exact q
def Qts(I:Inv X XI σ H s)(hN:X.N.Nodup)(hi:X.N[i]? = some n)
  (hm:∀(j:Nat)(x:Str)(u:V),X.N[j]? = some x->σ[j]? = some (some u)->gU X.env.scope x->∃y,RelV u y/\Look X.env s.heap m x y)
  (hn:h'.Ns X.env.locals λx=>if x=n then v else m x)(hs:Ya X.env.locals s.heap h'):Inv X XI (σ.set i none) H { s with heap:=h',toks:=tk }:=by
 have wm:∀b o,X.s₀.heap.get? b=some o->b≠X.env.locals:=λb o e=>QZ<|Q2 (Qr e) I.ok.above
 have lY:=I.lY;refine⟨I.ok,I.os,I.bare,⟨λb o e z hb hx=>(hs.2 b<|wm b o e).trans<|I.base.keep b o e z hb hx,λb o e z hb hx=>?_,I.base.free,λb o e hx=>?_,I.base.cH,I.base.dD,I.base.dS⟩,⟨_,hn,λj y u e1 e2 e3=>?_⟩,λy c e=>?_,I.free,I.bg,λp hp=>?_,λb o e=>?_,?_⟩
 ·obtain⟨sl,e1⟩:=I.base.slot b o e z hb hx;exact⟨sl,(hs.2 b<|wm b o e).trans e1⟩
 ·obtain⟨o',e1⟩:=I.base.there b o e hx;exact⟨o',(hs.2 b<|wm b o e).trans e1⟩
 ·by_cases hj:j=i
  ·subst hj;rw[LQ] at e2;split at e2
   ·split at e2<;>cases e2
   ·exact Z_ rfl ‹¬_›
  ·rw[EI<|iM hj] at e2;obtain⟨u',r',q⟩:=hm j y u e1 e2 e3;refine⟨u',r',?_⟩;rcases q with⟨k,e⟩ | ⟨k,c,e,z⟩
   ·have:y≠n:=λe=>hj<|Ln hN e1<|e ▸ hi
    exact .inl ⟨k,by simp[this,e]⟩
   ·exact .inr ⟨k,c,e,z.sameBut hs<|lY y c e⟩
 ·obtain⟨w',z⟩:=I.cell y c e;exact⟨w',z.sameBut hs<|lY y c e⟩
 ·obtain⟨e,z,ne,nf,d⟩:=I.pin p hp;exact⟨(hs.2 p.1 ne).trans e,z,ne,nf,d⟩
 ·refine(I.ar b o e).fg (λc u hc q=>(hs.2 c ?_).trans q) (λ_ q=>q) λ_ _ q=>q
  rintro rfl;have z:=I.free;rcases hc with r | r
  ·rw[r,e] at z;cases z
  ·rw[r] at z;cases z
 ·rw[Zn];exact I.len
end
def XP(X:Cx)(XI:List (Xb×Xo))(Ex:L2.St->Xb->Hp->Prop)(e:Xd)(s1:Xe):Prop:=
 ∃(σ:L2.St)(C:Xb)(H':Hp)(a t:Xb)(B:ZF),e=.ref a/\QDf B X.stack a (.ref C) (.ref t) s1.heap/\H' a=none/\X.s₀.heap.get? a=none/\(∀p∈X.pn++XI,p.1≠a) /\
  (∀(h2:ZF)(tk:Nat),B.StaysIn h2->s1.heap.UpToSlots h2->Inv X XI σ H' { s1 with heap:=h2,toks:=tk })/\Ex σ C H'
abbrev TX:=L2.St->Hp->VK->(Xb->Hp->Prop)->Prop
def Fq(X:Cx)(e:Zm)(t:TX):Prop:=∀(XI:List (Xb×Xo))(s:Xe)(σ:L2.St)(H:Hp)(Q:VK)(Ex:Xb->Hp->Prop),Inv X XI σ H s->t σ H Q Ex ->
 Xi (Xg X.prog X.w) X.A (eval e X.env) (EP X XI σ Q) (XP X XI λσ1 C H1=>σ1=σ/\Ex C H1) s
section
variable{X:Cx}{k:Nat}{f:Xb}{fd:Z3}{ps:List Str}{sp:Sp}{x:Str}{p pos:Pos}{e:Zm}{es:List Zm}{t:TA}
end
section
variable{X:Cx}{R:Xb}{i:Nat}{n r:Str}{call hx:Zm}{tc:TX}{th:TE}{rp np hp zj pos:Pos}
end
structure z_ (k:Nat) (A:Jo):Prop where
 dp:A.depth+3*k+5<recursionLimit
 un:A.units+16*k+200<cLine
def az.m(r:az k A)(e:Xd):z_ k (A.mark<|some e):=⟨r.dp,r.un⟩
structure BJ (P:QB) (w:Jh) (K:Ws) (mg:Str->Option Xd) (base:ZF) (k:Nat) (f:Xb) (fd:Z3) (ps:List Str) (sp:Sp):Prop where
 len:∀vs H Q E,sp vs H Q E->vs.length=ps.length
 run:∀(A:Jo)(outer:List Env)(s:Xe)(H:Hp)(args:Args)(us:List Xd)(vs:List V)(Q:VK)(E:XK),z_ k A->fW P w K mg base A outer s H->pB s fd args (ps.zip us)->ai vs us->sp vs H Q E ->
  Xu (Xg P w) A (.call (.ref f) args) (CR ax outer P w H s Q E) s
def Hi(P:QB)(w:Jh)(K:Ws)(mg:Str->Option Xd)(base:ZF)(N:List Str)(qual:Str)(scope:jd)(f:Xb)(cd:Xd)(A:Jo)(outer:List Env)(s:Xe)(H:Hp)(E:XK):Cx:=
 { bP ax P w K mg base N qual scope f cd A outer s H E with calm:=false,xe:=λ_ _=>False }
section
variable{P:QB}{w:Jh}{K:Ws}{mg:Str->Option Xd}{base:ZF}
def Qmq 
  (S:Yx N ps scope)(e0:fW P w K mg base A outer s H)(hl:vs.length=ps.length)(r:ai vs us)
  (x:InCallC s s.heap.objs.size (bindL (envOfC qual scope s.heap.objs.size f cd).kindOf (ps.zip us) λ_=>none) (cellsFrom (s.heap.objs.size+1) scope.names []) (bindC (envOfC qual scope s.heap.objs.size f cd).kindOf (ps.zip us) λ_=>none) s1) :
  L2.Inv (Hi P w K mg base N qual scope f cd A outer s H E) [] (start N vs) H s1:=by
 have e1:fW P w K mg base { A with handled:=none } outer s H:=⟨e0.frames,e0.mod,e0.bs,e0.j9,e0.cw,e0.nv,e0.ar,e0.bare⟩;have I:=QiL (CX:=ax) (E:=E) S rfl e1 hl r x;exact⟨⟨I.ok.mod,I.ok.kind,I.ok.glob,I.ok.blt,I.ok.above,I.ok.inj,I.ok.has,I.ok.uj,nofun,I.ok.frames,I.ok.v5,I.ok.nC,I.ok.bs,I.ok.j9,I.ok.i4,I.ok.gG,I.ok.cw,I.ok.nv⟩,I.os,I.bare,I.base,I.loc,I.cell,I.free,I.bg,I.pin,I.ar,I.len⟩
def okM{st:Zo}(F:iw K x qual st f fd)(S:Yx N ps<|Q4 st)(len:∀vs H Q E,sp vs H Q E->vs.length=ps.length)
  (XL:∀(ao:Xd)(A:Jo)(outer:List Env)(s:Xe)(H:Hp)(vs:List V)(Q:VK)(E:XK),z_ k (A.deeper<|envOfC qual (Q4 st) s.heap.objs.size f ao)->sp vs H Q E ->
   ∃t,aV (Hi P w K mg base N qual (Q4 st) f ao A outer s H E) (Yk st) t/\t { nx:=λ_ H'=>Q .aH H',rt:=Q } (start N vs) H):BJ P w K mg base (k+1) f fd ps sp:=by
 obtain⟨oc,od,kV,doc,pm,an,ao,ct,oC,rfl,lk,bG⟩:=F.ex;refine⟨len,λA outer s H args us vs Q E hr e0 hb r ba=>?_⟩;have hl:=len _ _ _ _ ba;have KX:=e0.mod.oH.keeps λb o e=>(e0.bs b o e).1
 have lim:=e0.mod.nolimit.keeps λb o e=>(e0.bs b o e).1
 have hZ:∀y∈ps.zip us,(Q4 st).names.lookup y.1=some .local∨((Q4 st).names.lookup y.1=some .cell/\((cellsFrom (s.heap.objs.size+1) (Q4 st).names []).lookup y.1).isSome=true):=λ⟨n,v⟩ hy=>by
  rcases S.par n (Ek hy).1 with q | q
  ·exact .inl q
  ·exact .inr ⟨q,W' _ _ _<|.inl q⟩
 have hdp:A.depth<recursionLimit:=by have:=hr.dp;omega
 refine RB hdp (KX _ _ lk) rfl S.co S.gen rfl (X2 KX bG)<|hb _ _ _ _<|Vd S.kind hZ λenv he s1 x=>?_;subst he;refine⟨lim.keeps x.toInCall.keep,codeAny_func ?_⟩;have hr2:z_ k (A.deeper<|envOfC qual (Q4 st) s.heap.objs.size f ao):=⟨by have:=hr.dp;show A.depth+1+3*k+5<_;omega,by have:=hr.un;show A.units+3+16*k+200<_;omega⟩;obtain⟨t,ht,hq⟩:=XL ao A outer s H vs Q E hr2 ba;have I:=Qmq (E:=E) S e0 hl r x;refine Xk (ht [] s1 (start N vs) H _ I hq) (λfl s' hs=>?_) λe s' hs=>Jr hs
 have fin:∀{σ':L2.St}{H':Hp}{v:V}{u:Xd},L2.Inv (Hi P w K mg base N qual (Q4 st) f ao A outer s H E) [] σ' H' s'->RelV v u->Q v H'->CE outer P w H s Q u s':=
  λ{σ' H' v u} J rv q=>⟨v,H',J.os,J.bare,J.base,J.ar,rv,q⟩
 cases fl with
 |ret u=>
  obtain⟨v,σ',H',J,rv,q⟩:=hs;exact fin J rv q
 |next=>
  obtain⟨σ',H',J,q⟩:=hs;exact fin (v:=V.aH) J rfl q
 |brk=>
  obtain⟨_,_,_,q⟩:=hs;exact Jr q
 |cont=>
  obtain⟨_,_,_,q⟩:=hs;exact Jr q
end
section
variable{X:Cx}{k:Nat}{f:Xb}{fd:Z3}{ps:List Str}{sp:Sp}{x:Str}{p pos:Pos}{e:Zm}{es:List Zm}{t:TA}
def Qsn(F:BJ X.prog X.w X.K X.mg X.base k f fd ps sp)(hr:z_ k X.A)(hg:Gl X x)(hm:X.mg x=some (.ref f))(hk:Wu X.K (.ref f)=true)(hb:Binds X.K fd ps [])
  (ha:PA X (e::es) t)(bO:(x == ("__debug__" : Str))=false:=by decide)(he:Xh (e::es) X.env=(false,eval e X.env)::Xh es X.env:=by rfl)(hpl:(Xp pos<|Xh es X.env).any (·.1)=false:=by rfl) :
  PE X (.Call (.Name x p) (e::es) [] pos) (λσ H Q=>t σ H λvs H1=>sp vs H1 Q E0):=by
 intro XI s σ H Q I h;refine Yq<|xE I hg hm ?_ bO;refine WL I.ok.mod.oH hk (aD (ha pos XI s σ H _ I h) λus s1 ⟨vs,H1,I1,r,q⟩=>⟨I1.bX,?_⟩) he hpl;have hl:us.length=ps.length:=by rw[<- r.length];exact F.len _ _ _ _ q
 have zF:pB s1 fd ⟨us,[]⟩ (ps.zip us):=by
  have z:=hb s1 us I1.bX (by rw[J4];exact hl);rw[J4] at z;exact z
 refine xO<|sv (F.run X.A X.stack s1 H1 ⟨us,[]⟩ us vs Q _ hr I1.oS zF r q) λr s2 hq=>?_;cases r with
 |error e=>exact Jr hq
 |ok fl=>
  cases fl with
  |ret u=>exact I1.after hq
  |next=>exact Jr hq
  |brk=>exact Jr hq
  |cont=>exact Jr hq
end
section
variable{X:Cx}
def Qi7:aG X (.builtin "isinstance") (λxs H Q=>∃a C y c b,xs=[.ref a,y]/\H a=some (qQ a C)/\pS X.K C/\(∀u,RelV y u->u=c)/\Wy X.K (.ref C) c=some b/\Q (.bl b) H):=by
 intro XI s σ H xs us Q I r h;obtain⟨a,C,y,c,b,rfl,ha,hc,hy,e,q⟩:=h;obtain⟨u,v,rfl,ru,rv⟩:=vals2 r;cases(ru);cases hy v rv;exact Wx (QxZ hc) I.bX (I.ar a _ ha).1 e nofun λtk=>⟨.bl b,H,I.tok tk,rfl,q⟩
def bZ{bs:List Bool}(r:ai (bs.map V.bl) us):us=bs.map vf:=by
 induction bs generalizing us with
 |nil=>cases r;rfl
 |cons b bs ih=>
  cases r with
  |cons r t=>
   cases(r);rw[ih t];rfl
def AQ:Xd->Bool
 |.bool b=>b
 |_=>false
def Qmy(bs:List Bool):(bs.map vf).countP AQ=bs.countP id:=by
 rw[List.countP_map];exact List.countP_congr λb _=>Iff.rfl
def Qwm:V->List V->Hp->VK->Prop:=λx vs H Q=>∃(l:Xb)(bs:List Bool),x=.ref l/\vs=[.bl true]/\H l=some (.lst<|bs.map V.bl)/\Q (.int (bs.countP id:Nat)) H
def Qtk:ym X "list.count" Qwm:=by
 intro XI s σ H x vs v us Q I rx rv h;obtain⟨l,bs,rfl,rfl,hH,q⟩:=h;cases rx;obtain⟨u,rfl,ru⟩:=rv.one;cases(ru);obtain⟨z,ah,n,r,hl,e⟩:=I.fO hH;have hi:=bZ r;subst hi;refine mG F.slot_list_count ⟨_,e,rfl⟩ F.entry_list_count (F.args_list_count_2 _ _) (SeqAt.list_countAt l (bs.map vf).toArray n none #[] (.bool true) AQ) ⟨e,λy hy=>?_,?_⟩
 ·obtain⟨b,_,rfl⟩:=Qh.mp<|YD.mp hy;have:=MF (A:=X.A.in1) (s:=s) b true;rw[show(b == true)=b by cases b<;>rfl] at this;exact this
 ·have e2:=Qmy bs;rw[e2];exact⟨.int (bs.countP id:Nat),H,I.tok _,⟨_,rfl⟩,q⟩
def Qwk:V->List V->Hp->VK->Prop:=λx vs H Q=>∃(l:Xb)(bs:List Bool)(j:Nat),x=.ref l/\vs=[.bl true]/\H l=some (.lst<|bs.map V.bl)/\bs[j]? = some true/\(∀m,m<j->bs[m]? = some false)/\Q (.int (j:Nat)) H
def Qtj:ym X "list.index" Qwk:=by
 intro XI s σ H x vs v us Q I rx rv h;obtain⟨l,bs,j,rfl,rfl,hH,hj,hm,q⟩:=h;cases rx;obtain⟨u,rfl,ru⟩:=rv.one;cases(ru);obtain⟨z,ah,n,r,hl,e⟩:=I.fO hH;have hi:=bZ r;subst hi;have c_:=(QR.mp hj).1;have qM:(bs.map vf).toArray.size=bs.length:=by simp
 rw[Qb] at z;have hbig:bs.length<2^60:=JK z (by decide);refine mG F.slot_list_index ⟨_,e,rfl⟩ F.entry_list_index (F.args_list_index_2 _ _) (SeqAt.list_indexAt l (bs.map vf).toArray n none #[] (.bool true) AQ j (by rw[qM];exact c_) (by omega) ?_ ?_) ⟨e,λy hy=>?_,?_⟩
 ·have:=(QR.mp hj).2;simp[AQ,this]
 ·intro m hm1 tY;have:=(QR.mp<|hm m tY).2;simp[AQ,this]
 ·obtain⟨b,_,rfl⟩:=Qh.mp<|YD.mp hy;have:=MF (A:=X.A.in1) (s:=s) b true;rw[show(b == true)=b by cases b<;>rfl] at this;exact this
 ·exact⟨.int j,H,I.tok _,⟨_,rfl⟩,q⟩
end
end Rx


namespace Rd
open L2
mutual
inductive Dat (H:Hp):V->Xc->Prop
 |aH:Dat H .aH .none
 |bl (b:Bool):Dat H (.bl b)<|.bool b
 |int (i:Int):Dat H (.int i)<|.int i
 |str (x:Str):Ji (.str x)=true->Dat H (.str x) (.str x)
 |tup {a:Xb} {xs:List V} {ds:List Xc}:H a=some (.tup xs)->aP H xs ds->Dat H (.ref a) (.tuple ds)
 |lst {a:Xb} {xs:List V} {ds:List Xc}:H a=some (.lst xs)->aP H xs ds->Dat H (.ref a) (.list ds)
inductive aP (H:Hp):List V->List Xc->Prop
 |nil:aP H [] []
 |cons {x:V} {xs:List V} {d:Xc} {ds:List Xc}:Dat H x d->aP H xs ds->aP H (x::xs) (d::ds)
end
def aP.ind{M:V->Xc->Prop}{N:List V->List Xc->Prop}(n0:M .aH .none)(n1:∀b,M (.bl b)<|.bool b)(n2:∀i,M (.int i)<|.int i)(n3:∀x,Ji (.str x)=true->M (.str x) (.str x))(n4:∀{a xs ds},H a=some (.tup xs)->N xs ds->M (.ref a) (.tuple ds))(n5:∀{a xs ds},H a=some (.lst xs)->N xs ds->M (.ref a) (.list ds))(n6:N [] [])(n7:∀{x xs d ds},M x d->N xs ds->N (x::xs) (d::ds)):(∀{x d},Dat H x d->M x d)/\∀{xs ds},aP H xs ds->N xs ds:=
 ⟨λq=>Dat.rec (motive_1:=λx d _=>M x d) (motive_2:=λx d _=>N x d) n0 n1 n2 n3 (λe _=>n4 e) (λe _=>n5 e) n6 (λ_ _=>n7) q,λq=>aP.rec (motive_1:=λx d _=>M x d) (motive_2:=λx d _=>N x d) n0 n1 n2 n3 (λe _=>n4 e) (λe _=>n5 e) n6 (λ_ _=>n7) q⟩
def QiW(ok:cg P w H h):(∀{x d},Dat H x d->∀v,RelV x v->(∃as,Reads h v d as)/\d.canLay0=true)/\∀{xs ds},aP H xs ds->∀vs,ai xs vs->(∃as,EZ h vs ds as)/\Yo ds=true:=by
 refine aP.ind (λv r=>?_) (λb v r=>?_) (λi v r=>?_) (λz c v r=>?_) (λe q v r=>?_) (λe q v r=>?_) (λvs r=>?_) λq qs vs r=>?_
 ·cases r;exact⟨⟨_,.none⟩,rfl⟩
 ·cases r;exact⟨⟨_,.bool b⟩,rfl⟩
 ·obtain⟨t,rfl⟩:=r;exact⟨⟨_,.int i t⟩,rfl⟩
 ·obtain⟨t,rfl⟩:=r;exact⟨⟨_,.str z t⟩,c⟩
 ·cases r;obtain⟨_,ah,rv,o,ho,hc,_,n,hd⟩:=ok _ _ e;obtain⟨⟨as,ra⟩,cl⟩:=q ah rv;exact⟨⟨as,.tuple ho hc hd ra⟩,cl⟩
 ·cases r;obtain⟨_,ah,n,rv,ho⟩:=ok _ _ e;obtain⟨⟨as,ra⟩,cl⟩:=q ah rv;exact⟨⟨_,.list ho rfl rfl ra⟩,cl⟩
 ·cases r;exact⟨⟨_,.nil⟩,rfl⟩
 ·cases r with
  |cons r rs=>
   obtain⟨⟨a1,r1⟩,c1⟩:=q _ r;obtain⟨⟨a2,r2⟩,c2⟩:=qs _ rs;exact⟨⟨_,.cons r1 r2⟩,by simp[Yo,c1,c2]⟩
def sx(ok:cg P w H h)(d:Xc)(x:V)(v:Xd)(q:Dat H x d)(r:RelV x v):(∃as,Reads h v d as)/\d.canLay0=true:=(QiW ok).1 q v r
def EA(ok:cg P w H h)(ds:List Xc)(xs:List V)(vs:List Xd)(q:aP H xs ds)(r:ai xs vs):(∃as,EZ h vs ds as)/\Yo ds=true:=(QiW ok).2 q vs r
def Dat.same(q:Dat H x d)(s:ag H H'):Dat H' x d:=Dat.rec (motive_1:=λx d _=>Dat H' x d) (motive_2:=λxs ds _=>aP H' xs ds) .aH .bl .int .str (λe _ q=>.tup (s _ _ e) q) (λe _ q=>.lst (s _ _ e) q) .nil (λ_ _ q qs=>.cons q qs) q
def aP.same(q:aP H xs ds)(s:ag H H'):aP H' xs ds:=aP.rec (motive_1:=λx d _=>Dat H' x d) (motive_2:=λxs ds _=>aP H' xs ds) .aH .bl .int .str (λe _ q=>.tup (s _ _ e) q) (λe _ q=>.lst (s _ _ e) q) .nil (λ_ _ q qs=>.cons q qs) q
def aP.length{H:Hp}:∀{xs:List V}{ds:List Xc},aP H xs ds->xs.length=ds.length
 |_,_,.nil=>rfl
 |_,_,.cons _ q=>by rw[Qz,Qz,q.length]
def aP.get{xs:List V}{ds:List Xc}(h:aP H xs ds)(i:Nat)(x:V)(e:xs[i]? = some x):∃d,ds[i]? = some d/\Dat H x d:=by
 induction xs generalizing ds i with
 |nil=>simp at e
 |cons y xs ih=>
  cases h with
  |cons q qs=>
   cases i with
   |zero=>simp at e;subst e;exact⟨_,rfl,q⟩
   |succ i=>exact ih qs i (by simpa using e)
section
variable{X:Cx}
def QFH(X:Cx):R2:=λx y H Q=>∃dx dy,Dat H x dx/\Dat H y dy/\X.A.units+min dx.depth dy.depth<cLine/\Q (.bl<|Qy dx dy) H
def QAH:aI X (Xl .Eq) (QFH X):=by
 intro XI s σ H x y v u Q I rx ry h;obtain⟨dx,dy,qx,qy,hu,q⟩:=h;obtain⟨⟨as,ra⟩,ca⟩:=sx I.ar dx x v qx rx;obtain⟨⟨bs,rb⟩,cb⟩:=sx I.ar dy y u qy ry;exact SeqAt.compareEq_reads ra rb ca cb hu ⟨.bl _,H,I,rfl,q⟩
open Classical in
noncomputable def ib (h:ZF) (d:Xc) (y:Xd):Bool:=decide (∃e as,Reads h y e as/\e.canLay0=true/\Qy e d=true)
open Classical in
def QEg(q:∃e as,Reads h y e as/\e.canLay0=true/\Qy e d=true):ib h d y=true:=by
 exact X_ q
open Classical in
def QEh(q:¬ ∃e as,Reads h y e as/\e.canLay0=true/\Qy e d=true):ib h d y=false:=by
 exact X' q
def P7(r:Reads h y e as)(c:e.canLay0=true):ib h d y=Qy e d:=by
 cases q:Qy e d with
 |true=>exact QEg ⟨e,as,r,c,q⟩
 |false=>
  refine QEh λ⟨e',as',r',c',q'⟩=>?_
  rw[<- SeqAt.Reads.unique e e' y as as' c r r',q] at q';cases q'
def AY:∀{vs:List Xd}{ds:List Xc}{as:List Xb},EZ h vs ds as->Yo ds=true->vs.any (ib h d)=ds.any λe=>Qy e d
 |_,_,_,.nil,_=>rfl
 |_,_,_,.cons r rs,c=>by
  simp only[Yo,Js] at c;rw[Y3,Y3,P7 r c.1,AY rs c.2]
def AU(rv:Reads s.heap v d bs)(cv:d.canLay0=true):∀{vs:List Xd}{ds:List Xc}{as:List Xb},EZ s.heap vs ds as->Yo ds=true->A.units+d.depth<cLine ->
  ∀u∈vs,IE A s u v<|ib s.heap d u
 |_,_,_,.nil,_,_=>λu hu=>nomatch hu
 |_,_,_,.cons (d:=e) r rs,c,hu=>λu hm=>by
  simp only[Yo,Js] at c;rcases Qt.mp hm with z | z
  ·subst z;rw[P7 r c.1];exact SeqAt.eqAt_reads e d A s _ v _ bs r rv c.1 cv<|JK (TB (LZ _ _) _) hu
  ·exact AU rv cv rs c.2 hu u z
def QER(X:Cx)(neg:Bool):R2:=λx y H Q=>∃c ps ds d,y=.ref c/\H c=some (.tup ps)/\aP H ps ds/\Dat H x d/\X.A.in1.units+d.depth<cLine/\Q (.bl<|if neg then !(ds.any λe=>Qy e d) else ds.any λe=>Qy e d) H
def QAF:aI X (Xl .In) (QER X false):=by
 intro XI s σ H x y v u Q I rx ry h;obtain⟨c,ps,ds,d,rfl,hc,qs,qx,hu,q⟩:=h;cases ry;obtain⟨⟨as,ra⟩,ca⟩:=sx I.ar d x v qx rx;obtain⟨_,ah,rv,tp⟩:=I.ar c _ hc;have tp:=d_.tup tp;obtain⟨⟨bs,rb⟩,cb⟩:=EA I.ar ds ps ah qs rv;refine S4 (ib s.heap d) tp (λw hw=>AU ra ca rb cb hu w<|YD.mp hw) ⟨.bl _,H,I,rfl,?_⟩;rw[show ah.toArray.any (ib s.heap d)=ah.any (ib s.heap d) by simp,AY rb cb];exact q
def QoJ:aI X (Xl .NotIn) (QER X true):=by
 intro XI s σ H x y v u Q I rx ry h;obtain⟨c,ps,ds,d,rfl,hc,qs,qx,hu,q⟩:=h;cases ry;obtain⟨⟨as,ra⟩,ca⟩:=sx I.ar d x v qx rx;obtain⟨_,ah,rv,tp⟩:=I.ar c _ hc;have tp:=d_.tup tp;obtain⟨⟨bs,rb⟩,cb⟩:=EA I.ar ds ps ah qs rv;refine Vh (ib s.heap d) tp (λw hw=>AU ra ca rb cb hu w<|YD.mp hw) ⟨.bl _,H,I,rfl,?_⟩;rw[show ah.toArray.any (ib s.heap d)=ah.any (ib s.heap d) by simp,AY rb cb];exact q
end
end Rd
namespace L2
def Ite(l:Xb):It:=
 ⟨λi H=>∃xs x,H l=some (.lst xs)/\xs[i]? = some x,
  λi H v H'=>∃p x,H p=none/\(∀xs,H l=some (.lst xs)->xs[i]? = some x)/\v=.ref p/\H'=upd H p (.tup [.int (i:Nat),x]),
  λi H=>∃xs,H l=some (.lst xs)/\xs.length<=i⟩
def Qnm{K:Ws}{x1}(fi:e≠it) :
  Turn P w K (.Tuple elts x1 cM) (Ite l) [e,it] e (λi h=>(∃old,IsEnum h e it (i:Nat) old)/\h.IsListIter it l i) where
 mem:=by simp
 obj:=λi h st b hb=>by
  obtain⟨⟨old,a1⟩,⟨o2,a2,_,d2⟩⟩:=st;simp only[Qt,Jy,or_false] at hb;rcases hb with rfl | rfl
  ·exact⟨_,a1,λv q=>nomatch q⟩
  ·exact⟨_,a2,λv q=>by rw[d2] at q;cases q⟩
 keep:=λi h h' st k=>by
  obtain⟨⟨old,a1⟩,⟨o2,a2,c2⟩⟩:=st;exact⟨⟨old,k e (by simp) _ a1⟩,o2,k it (by simp) _ a2,c2⟩
 item:=by
  intro X hP hw hK hc i XI s σ H E I hf st hg;obtain⟨xs,x,h1,hx⟩:=hg;obtain⟨⟨old,a1⟩,a2⟩:=st;obtain⟨ah,r1,p1,_⟩:=I.list<|aA.of h1;obtain⟨u,hu,ru⟩:=r1.get hx;refine wpAny_pyNext_enum_item a1 a2 p1.isList (by simpa using hu) fi λh' o' l' tp sz kp=>?_
  have fr:=I.ar.fresh<|Qd _;have n1:=QZ<|Qr a1;have n2:it≠s.heap.objs.size:=by
   obtain⟨o2,a2,_⟩:=a2;exact QZ<|Qr a2
  refine⟨_,rfl,Vc o' λh2 e2 s2=>?_⟩;have I1:Inv X XI σ (upd H s.heap.objs.size<|.tup [.int i,x]) { s with heap:=h2,toks:=s.toks+1 }:=by
   refine I.fX hf (λb v hb q=>?_) (Qd _) ⟨by show 2<=Xj;decide,[.int i s.toks,u],.cons ⟨_,rfl⟩<|.cons ru .nil,?_⟩
   ·simp only[Qt,Jy,or_false,not_or] at hb;exact s2.extBut _ _ hb.1<|kp b v hb.1 hb.2 q
   ·exact⟨_,s2.extBut _ _ n1.symm tp,rfl,rfl,0,rfl⟩
  refine⟨.ref s.heap.objs.size,_,I1,rfl,⟨_,x,fr,λFw q=>?_,rfl,rfl⟩,⟨⟨u,e2⟩,?_⟩,λb hb=>?_⟩
  ·rw[h1] at q;cases q;exact hx
  ·exact l'.extBut s2.extBut fi.symm
  ·simp only[Qt,Jy,or_false] at hb;rcases hb with rfl | rfl
   ·rw[QY n1];exact(hf _<|by simp).1
   ·rw[QY n2];exact(hf _<|by simp).1
 done:=by
  intro X hP hw hK hc i XI s σ H E I hf st hg;obtain⟨xs,h1,he⟩:=hg;obtain⟨⟨old,a1⟩,a2⟩:=st;obtain⟨ah,r1,p1,_⟩:=I.list<|aA.of h1;have l1:=r1.length;refine wpAny_pyNext_enum_end (I.ok.hd hc) a1 a2 p1.isList (by simp;omega) λh' kp=>⟨rfl,I.fY hf λb v hb q=>?_⟩
  simp only[Qt,Jy,or_false,not_or] at hb;exact kp b v hb.2 q
 self:=λ_ _ _ _ _ st h=>by
  obtain⟨⟨old,a1⟩,_⟩:=st;exact Ef a1 h
def QD9(ta:TA):TI:=λσ H R=>ta σ H λvs H1=>∃l xs,vs=[.ref l]/\H1 l=some (.lst xs)/\R (Ite l) H1
def Qi8:Xm "enumerate" = some (.type "enumerate"):=by decide
section
variable{X:Cx}
def QwB{x1}(hg:Gl X "enumerate")(hm:X.mg "enumerate" = none)(ha:PA X [a] ta)(hs:Xh [a] X.env=[(false,eval a X.env)]:=by rfl) :
  PI X (.Tuple elts x1 cM) (.Call (.Name "enumerate" p) [a] [] pos) (QD9 ta):=by
 intro XI s σ H R I h;refine Call_<|rP I hg hm Qi8<|Zi (aD (ha pos XI s σ H _ I h) λus s1 ⟨vs,H1,I1,r1,q1⟩=>?_) hs rfl;obtain⟨l,xs,e,h1,q⟩:=q1;subst e;obtain⟨u,rfl,ru⟩:=vals1 r1;cases(ru);obtain⟨ah,w1,p1,_⟩:=I1.list<|aA.of h1;refine call_enumerate_list p1.isList λh' e1 i1 sz kp=>?_
 refine Ef e1 ?_
 refine⟨s1.heap.objs.size+1,_,_,_,H1,rfl,I1.kept kp,Qnm (by show ¬(s1.heap.objs.size+1=s1.heap.objs.size);omega),⟨⟨_,e1⟩,i1⟩,λb hb=>?_,q⟩;have fS:s1.heap.objs.size<=b:=by
  simp only[Qt,Jy,or_false] at hb;rcases hb with rfl | rfl<;>omega
 exact I1.h_ fS<|I1.ar.fresh fS
end
section
variable{prog:QB}{w:Jh}{A:Jo}{R:Result->Xe->Prop}{s:Xe}
def Qig 
  (h0:Xu (Xg prog w) A (.compLoop (.ListComp elt [g0,⟨tg,iter,ifs,0⟩] scope pos) 1 it acc env) R s)
  (h:Xi (Xg prog w) A (pyIter it) (λGq s'=>Xu (Xg prog w) A (.compLoop (.ListComp elt [g0,⟨tg,iter,ifs,0⟩] scope pos) 1 Gq acc env) R s') (notedBy (Xg prog w) A env λx s'=>R (.error x) s') s) :
  Xu (Xg prog w) A (.compStart (.ListComp elt [g0,⟨tg,iter,ifs,0⟩] scope pos) 1 it acc env) R s:=by
 refine codeAny_of_tree ?_
 refine wpAny_notedAt ?_
 refine Xa<|wpAny_askSetting<|wpAny_ite ?_;split
 ·first
   |exact Xa<|Qg<|Qg ⟨rfl,h0⟩
   |exact Qg ⟨rfl,h0⟩
 ·first
   |exact Xa<|wpAny_rule<|Xa<|wpAny_standAt<|Xa<|Xk h (λGq s' h'=>Qg ⟨rfl,h'⟩) λ_ _ x=>x
   |exact Xa<|wpAny_rule<|Xa<|wpAny_standAt<|Xa<|Xk h (λGq s' h'=>Qg<|Qg ⟨rfl,h'⟩) λ_ _ x=>x
end
def Qnk(Q:WO->Xe->Prop)(E:Xd->Xe->Prop)(s:Xe)
  (h:Xi (Xg Y.prog Y.w) Y.A (pyNext<|.ref it) (λr s1=>match r with
   |none=>Q (.done .next) s1
   |some v=>Xi (Xg Y.prog Y.w) Y.A (letOwnedTupleGo tg (.ref it) v) (λ_ s2=>CV Y tg ifs (IA Y elt D) v (λs3=>Q (.again<|.compLoop (.ListComp elt [g0,⟨tg,iter,ifs,0⟩] scope XJ) 1 (.ref it) (.ref D) Y.env) s3) s2) E s1) E s) :
  Xi (Xg Y.prog Y.w) Y.A (compTurn (.ListComp elt [g0,⟨tg,iter,ifs,0⟩] scope XJ) 1 (.ref it) (.ref D) Y.env) Q E s:=by
 have e:compTurn (.ListComp elt [g0,⟨tg,iter,ifs,0⟩] scope XJ) 1 (.ref it) (.ref D) Y.env=(do
   Xw iter.pos
   match <- pyNext (.ref it) with
   |none=>pure<|.done .next
   |some v=>
    letOwnedTupleGo tg (.ref it) v
    assign tg Y.env v
    let mut ok:=true
    for c in ifs do
     if ok then ok <- isTrue c Y.env (eval c Y.env)
    if ok then
     (do let _ <- call (.builtin "list.append") [.ref D,<- eval elt Y.env])
    again (.compLoop (.ListComp elt [g0,⟨tg,iter,ifs,0⟩] scope XJ) 1 (.ref it) (.ref D) Y.env)):=by rfl
 refine Xa<|wpAny_standAt<|Xa<|aD h λr s1 h1=>?_;cases r with
 |none=>exact Qg h1
 |some v=>
  refine Xa<|aD h1 λ_ s2 h2=>(Xa<|Xk h2 (λ_ s4 h4=>Xa<|Xk h4 (λok s5 h5=>?_) λ_ _ f=>f.elim) λ_ _ f=>f.elim);cases ok with
  |false=>exact Qg h5
  |true=>exact Xa<|Xa<|Xk h5 (λx s6 h6=>Xa<|Xk h6 (λ_ s7 h7=>Qg<|Qg h7) λ_ _ f=>f.elim) λ_ _ f=>f.elim
def Ti(Y:Cx)(e:Zm)(iter:Zm)(D:Xb):Act:=λQ s=>Xi (Xg Y.prog Y.w) Y.A (eval iter Y.env) (λx s1=>Xi (Xg Y.prog Y.w) Y.A (pyIter x)
 (λnq s2=>Xu (Xg Y.prog Y.w) Y.A (.compStart e 1 nq (.ref D) Y.env) (λr s3=>match r with | .ok _=>Q s3 | .error _=>False) s2) (λ_ _=>False) s1) (λ_ _=>False) s
def QCb(wi:TI)(g:TG)(tc:TT)(p:Xb)(te:TE):St->Hp->(Hp->Prop)->Prop:=λσ H k=>wi σ H λJ H1=>xh J (uo σ g tc<|wU p te) k H1
def Qrc(hx:Y.xe=λ_ _=>False)(hc:Y.calm=true)
  (hi:PI Y tg iter wi)(hg:PG Y tg g)(ht:iR Y ifs tc)(he:PE Y elt te):BodyOk Y σ (Ti Y (.ListComp elt [g0,⟨tg,iter,ifs,0⟩] scope XJ) iter D) (QCb wi g tc D te σ):=by
 intro XI s H k Q I h hQ;have iG:∀(v:Xd)(s':Xe),Y.xe v s'->False:=λv s' z=>by rw[hx] at z;exact z
 refine Xk (hi XI s σ H _ I h) (λv s1 h1=>Xk h1 (λnq s2 h2=>?_) iG) iG;obtain⟨it,fp,tn,J,H2,e,I2,T,iZ,f2,hW⟩:=h2;subst e;have loop:Xu (Xg Y.prog Y.w) Y.A (.compLoop (.ListComp elt [g0,⟨tg,iter,ifs,0⟩] scope XJ) 1 (.ref it) (.ref D) Y.env) (λr s3=>match r with | .ok _=>Q s3 | .error _=>False) s2:=
  D3 hc T iZ f2 (λQ E s h=>Qnk Q E s h) (λx u r=>DM hx hg ht (λσ4=>LD hx he) x u r) I2 hW λs' H' I' q=>hQ s' H' I' q
 exact Qig loop<|T.self _ 0 _ _ _ iZ loop
def QlS(hs:∀x,Xn aW Y.env x=pure x)(Q:WO->Xe->Prop)(E:Xd->Xe->Prop)(s:Xe)
  (h:Xi (Xg Y.prog Y.w) Y.A (pyNext<|.ref it) (λr s1=>match r with
   |none=>Q (.done .next) s1
   |some v=>Xi (Xg Y.prog Y.w) Y.A (letOwnedTupleGo tg (.ref it) v) (λ_ s2=>CV Y tg ifs (Ti Y (.ListComp elt [⟨tg,iter,ifs,0⟩,⟨jr,aW,dY,0⟩] scope XJ) aW D) v (λs3=>Q (.again<|.compLoop (.ListComp elt [⟨tg,iter,ifs,0⟩,⟨jr,aW,dY,0⟩] scope XJ) 0 (.ref it) (.ref D) Y.env) s3) s2) E s1) E s) :
  Xi (Xg Y.prog Y.w) Y.A (compTurn (.ListComp elt [⟨tg,iter,ifs,0⟩,⟨jr,aW,dY,0⟩] scope XJ) 0 (.ref it) (.ref D) Y.env) Q E s:=by
 have e:compTurn (.ListComp elt [⟨tg,iter,ifs,0⟩,⟨jr,aW,dY,0⟩] scope XJ) 0 (.ref it) (.ref D) Y.env=(do
   Xw iter.pos
   match <- pyNext (.ref it) with
   |none=>pure<|.done .next
   |some v=>
    letOwnedTupleGo tg (.ref it) v
    assign tg Y.env v
    let mut ok:=true
    for c in ifs do
     if ok then ok <- isTrue c Y.env (eval c Y.env)
    if ok then
     let x <- eval aW Y.env
     Xw aW.pos
     let x <- Xn aW Y.env x
     let _ <- runOwn (.compStart (.ListComp elt [⟨tg,iter,ifs,0⟩,⟨jr,aW,dY,0⟩] scope XJ) 1 (<- Xs [x] (pyIter x)) (.ref D) Y.env) Y.env
    again (.compLoop (.ListComp elt [⟨tg,iter,ifs,0⟩,⟨jr,aW,dY,0⟩] scope XJ) 0 (.ref it) (.ref D) Y.env)):=by rfl
 refine Xa<|wpAny_standAt<|Xa<|aD h λr s1 h1=>?_;cases r with
 |none=>exact Qg h1
 |some v=>
  refine Xa<|aD h1 λ_ s2 h2=>(Xa<|Xk h2 (λ_ s4 h4=>Xa<|Xk h4 (λok s5 h5=>?_) λ_ _ f=>f.elim) λ_ _ f=>f.elim);cases ok with
  |false=>exact Qg h5
  |true=>
   refine Xa<|Xk h5 (λx s6 h6=>Xa<|wpAny_standAt ?_) λ_ _ f=>f.elim;rw[hs x];refine Xa<|Qg<|Xa<|ZE<|Xk h6 (λnq s7 h7=>?_) λ_ _ f=>f.elim;refine Xa<|wpAny_runOwn<|sv h7 λr s8 h8=>?_;cases r with
   |error z=>exact h8.elim
   |ok fl=>exact Qg h8
def R8(cap:List<|Option Nat)(wi:TI)(g:TG)(tc:TT)(jV:TI)(g2:TG)(FI:TT)(te:TE):TE:=λσ H Q=>wi σ H λJ H1=>∀p,H1 p=none->xh J (uo (dE cap σ) g tc<|QCb jV g2 FI p te) (Q<|.ref p) (upd H1 p<|.lst [])
def mF(n:Nat)(hn:n<Xj)(F:Nat->Option V)(hp:H1 p=none)
  (hs:∀i H2,i<n->ag H1 H2->J.go i H2/\∀x H3,J.ow i H2 x H3->∀(kn:Hp->Prop)(kv:VK),(F i=none->∀H6,ag H2 H6->kn H6)->(∀v,F i=some v->∀H6,ag H2 H6->kv v H6) ->
   g x σ H3 λσ4 H4=>Wk σ σ4/\tc σ4 H4 λb H5=>if b=true then te σ4 H5 kv else kn H5)
  (fJ:∀H2,ag H1 H2->J.stop n H2) (hq:∀H2,ag H1 H2->H2 p=some (.lst<|(Qv n).filterMap F)->Qn H2) :
  xh J (uo σ g tc<|wU p te) Qn (upd H1 p<|.lst []):=by
 refine AS n (λi H2=>ag H1 H2/\H2 p=some (.lst<|(Qv i).filterMap F)) ⟨JA hp,af⟩ (λi H2 hi ⟨s2,e2⟩=>?_) λH2 ⟨s2,e2⟩=>⟨fJ H2 s2,hq H2 s2 e2⟩
 obtain⟨go,st⟩:=hs i H2 hi s2;refine⟨go,λx H3 y k hk=>?_⟩;have er:(Qv<|i+1).filterMap F=(Qv i).filterMap F++(F i).toList:=by
  rw[yh];cases e:F i<;>simp[e]
 refine st x H3 y k (λv H6=>∃ys,H6 p=some (.lst ys)/\ys.length<Xj/\k (upd H6 p<|.lst<|ys++[v])) (λe H6 s6=>?_) λv e H6 s6=>?_
 ·refine hk _ ⟨s2.trans s6,?_⟩;rw[er,e]
  simpa using s6 p _ e2
 ·have e6:=s6 p _ e2;refine⟨_,e6,?_,hk _ ⟨λb o q=>?_,?_⟩⟩
  ·have:((Qv i).filterMap F).length<=i:=by
    have:=Qjx F<|Qv i
    rwa [Q5] at this
   omega
  ·rw[QY<|QN q hp];exact s6 b o<|s2 b o q
  ·rw[af,er,e];rfl
end L2
namespace Rk
open L2 Rd
def pairD(ij:Int×Int):Xc:=.tuple [.int ij.1,.int ij.2]
def Z1(b:Int×Int):YU (pairD b)=1:=by
 unfold pairD;simp[YU,Yn]
end Rk
namespace Rr
section
variable{prog:QB}{w:Jh}{A:Jo}{E:Xd->Xe->Prop}{s:Xe}
end
end Rr
namespace L2
def Qzt(ta:TA):TE:=λσ H Q=>ta σ H λvs H1=>∃j,vs=[.int j]/\∀r H2,ag H1 H2->H1 r=none->H2 r=some (.sU 0 j)->Q (.ref r) H2
section
variable{X:Cx}
def Qsh(hg:Gl X "range")(hm:X.mg "range" = none)(ha:PA X [a] ta)(hs:Xh [a] X.env=[(false,eval a X.env)]:=by rfl):PE X (.Call (.Name "range" p) [a] [] pos) (Qzt ta):=by
 intro XI s σ H Q I h;refine Yq<|rP I hg hm boot_range<|Zi (aD (ha pos XI s σ H _ I h) λus s1 ⟨vs,H1,I1,r1,q1⟩=>?_) hs rfl;obtain⟨j,e,q⟩:=q1;subst e;obtain⟨u,rfl,ru⟩:=vals1 r1;obtain⟨t,rfl⟩:=ru;refine call_range_1 ?_
 have hf:=I1.ar.fresh<|Qd _;refine⟨.ref s1.heap.objs.size,upd H1 s1.heap.objs.size<|.sU 0 j,I1.laid (λb u e=>Qf _ e) (Qd _) ⟨_,_,_,Qs _ rfl⟩,rfl,q _ _ (JA hf) hf af⟩
end
end L2
namespace Rs
open PySem.W
def sp{α:Type}(n:Nat)(c:Nat->Nat->Bool):KasT α->(α->Prop)->Prop
 |.ret a,Q=>Q a
 |.ask i j f,Q=>i<n/\j<n/\sp n c (f<|c i j) Q
def my{Q':α->Prop}(h:∀a,Q a->Q' a):∀{t:KasT α},sp n c t Q->sp n c t Q'
 |.ret a,q=>h a q
 |.ask i j f,q=>⟨q.1,q.2.1,my h q.2.2⟩
def xN:∀{t:KasT α},sp n c t (λa=>sp n c (f a) Q)->sp n c (t.bind f) Q
 |.ret a,q=>q
 |.ask i j g,q=>⟨q.1,q.2.1,xN q.2.2⟩
def VW(hc:∀i j (C:Bool->Xe->Prop),i<n->j<n->C (c i j) s->cmp i j C s) :
  ∀{t:KasT α},sp n c t (λa=>Q a s)->t.kasWp cmp Q s
 |.ret a,q=>q
 |.ask i j f,q=>hc i j _ q.1 q.2.1<|VW hc q.2.2
section
variable{n:Nat}{K:Nat->Int}
abbrev cK (K:Nat->Int) (i j:Nat):Bool:=decide (K i<K j)
structure Good (n:Nat) (p:Array Nat):Prop where
 perm:p.toList.Perm<|Qv n
def Good.size(g:Good n p):p.size=n:=by
 have:=g.perm.length_eq;rw[Q5] at this;exact this
def at_(p:Array Nat)(i:Nat):Nat:=p.getD i 0
def Ao(h:i<p.size):p[i]? = some (at_ p i):=by
 unfold at_;rw[YW,Zd h];rfl
def CQ(h:p[i]? = q[j]?):at_ p i=at_ q j:=by
 unfold at_;rw[YW,YW,h]
def Good.lt(g:Good n p)(h0:0<n)(i:Nat):at_ p i<n:=by
 by_cases h:i<p.size
 ·have e:=Ao h;have m:at_ p i∈p.toList:=by
   have:=Array.mem_of_getElem? e;exact Mz.mpr this
  exact Jl.mp<|g.perm.mem_iff.mp m
 ·unfold at_;rw[YW,MI<|by omega];exact h0
def Good.inj(g:Good n p)(hi:i<n)(hj:j<n)(e:at_ p i=at_ p j):i=j:=by
 have nd:=g.perm.nodup_iff.mpr List.nodup_range;have hs:=g.size;have wF:i<p.toList.length:=by rw[Jd];omega
 have zt:j<p.toList.length:=by rw[Jd];omega
 have ei:p.toList[i]=at_ p i:=by
  have:=Ao (i:=i) (by omega);rw[Zd<|by omega] at this;exact QL this
 have ej:p.toList[j]=at_ p j:=by
  have:=Ao (by omega);rw[Zd<|by omega] at this;exact QL this
 have pw:=Yl.mp nd;rcases Et i j with h | h | h
 ·exact Z_ (ei.trans<|e.trans ej.symm)<|pw i j wF zt h
 ·exact h
 ·exact Z_ (ej.trans<|e.symm.trans ei.symm)<|pw j i zt wF h
def kk(K:Nat->Int)(p:Array Nat)(i:Nat):Int:=K<|at_ p i
def gO(K:Nat->Int)(p:Array Nat)(m:Nat):Prop:=∀i,i+1<m->kk K p i<=kk K p (i+1)
def BK(K:Nat->Int)(p:Array Nat)(m:Nat):Prop:=∀i,i+1<m->kk K p (i+1)<kk K p i
def gO.le(h:gO K p m):∀{j:Nat},i<=j->j<m->kk K p i<=kk K p j
 |0,uc,_=>by cases Nat.le_zero.mp uc;exact IB _
 |j+1,uc,hj=>by
  by_cases e:i=j+1
  ·rw[e];exact IB _
  ·exact Int.le_trans (h.le (by omega)<|by omega)<|h j hj
def Qr4(g:Good n p)(i j:Nat):Good n (kas_rev p i j):=⟨(QhO.mp<|mirror_perm p i j _).trans g.perm⟩
def SN(hm:m<=p.size)(hk:k<m):at_ (kas_rev p 0 m) k=at_ p (m - 1 - k):=by
 refine CQ ?_
 have:=getElem?_mirror_all (i:=0) hm k
 rw[X9 ⟨Q9 _,hk⟩,Nat.zero_add] at this;exact this
def Qwg(hm:m<=p.size)(d:BK K p m):gO K (kas_rev p 0 m) m:=by
 intro i hi;unfold kk;rw[SN hm<|by omega,SN hm hi];have:=d (m - 1 - (i+1)) (by omega);have e:m - 1 - (i+1)+1=m - 1 - i:=by omega
 rw[e] at this;exact Int.le_of_lt this
def Kd(g:Good n p)(h0:0<n):∀(f a:Nat),1<=a->gO K p a ->
  sp n (cK K) (kas_asc p f a) (λm=>a<=m/\m<=a+f/\gO K p m/\(m=a+f∨kk K p m<kk K p (m - 1)))
 |0,a,_,h=>⟨Qd _,Qd _,h,.inl rfl⟩
 |f+1,a,ha,h=>by
  refine⟨g.lt h0 a,g.lt h0<|a - 1,?_⟩;show sp n (cK K) (if decide (kk K p a<kk K p (a - 1))=true then .ret a else kas_asc p f<|a+1) _;by_cases e:kk K p a<kk K p (a - 1)
  ·rw[X_ e];exact⟨Qd _,EF _ _,h,.inr e⟩
  ·rw[X' e];refine my ?_ (Kd g h0 f (a+1) (by omega) ?_)
   ·rintro m ⟨h1,h2,h3,h4⟩;exact⟨by omega,by omega,h3,h4.imp (λq=>by omega) id⟩
   ·intro i hi;by_cases q:i+1<a
    ·exact h i q
    ·have e1:i=a - 1:=by omega
     have e2:i+1=a:=by omega
     rw[e2,e1];exact Int.not_lt.mp e
def HQ(inj:∀i j,i<n->j<n->K i=K j->i=j)(g:Good n p)(hi:i<n)(hj:j<n)(h:i≠j):kk K p i≠kk K p j:=
 λe=>h (g.inj hi hj<|inj _ _ (g.lt (by omega) i) (g.lt (by omega) j) e)
def U0(inj:∀i j,i<n->j<n->K i=K j->i=j)(g:Good n p)(h0:0<n):∀(f a:Nat),1<=a->a+f<=n->BK K p a ->
  sp n (cK K) (kas_desc f p a 0) (λr=>r.1=p/\r.2.2=0/\a<=r.2.1/\r.2.1<=a+f/\BK K p r.2.1)
 |0,a,_,_,h=>⟨rfl,rfl,Qd _,Qd _,h⟩
 |f+1,a,ha,haf,h=>by
  refine⟨g.lt h0 a,g.lt h0<|a - 1,?_⟩;show sp n (cK K) (if decide (kk K p a<kk K p (a - 1))=true then(if 0 > 0 then kas_desc f (kas_rev p (a - (0+1)) a) (a+1) 0 else kas_desc f p (a+1) 0) else _) _;by_cases e:kk K p a<kk K p (a - 1)
  ·rw[X_ e,X9 rfl];refine my ?_ (U0 inj g h0 f (a+1) (by omega) (by omega) ?_)
   ·rintro r ⟨h1,h2,h3,h4,h5⟩;exact⟨h1,h2,by omega,by omega,h5⟩
   ·intro i hi;by_cases q:i+1<a
    ·exact h i q
    ·have e1:i=a - 1:=by omega
     have e2:i+1=a:=by omega
     rw[e2,e1];exact e
  ·rw[X' e];refine⟨g.lt h0<|a - 1,g.lt h0 a,?_⟩;show sp n (cK K) (if decide (kk K p (a - 1)<kk K p a)=true then .ret (p,a,0) else _) _;have ne:=HQ inj g (i:=a - 1) (j:=a) (by omega) (by omega) (by omega);rw[X_<|by omega];exact⟨rfl,rfl,Qd _,EF _ _,h⟩
def Run(K:Nat->Int)(n:Nat)(r:Nat×Array Nat):Prop:=Good n r.2/\1<=r.1/\r.1<=n/\gO K r.2 r.1
def QrT(g:Good n p)(h1:1<=m)(hm:m<=n)(d:BK K p m):sp n (cK K) (kas_tail3 m n p) (Run K n):=by
 refine xN ?_
 have hs:=g.size;have g':=Qr4 g 0 m;refine my ?_ (Kd g' (by omega) (n - m) m h1<|Qwg (by omega) d)
 rintro k ⟨a,b,c,_⟩;exact⟨g',by omega,by omega,c⟩
def QjH(inj:∀i j,i<n->j<n->K i=K j->i=j)(g:Good n p)(hm:m+1<=n)(d:BK K p<|m+1):sp n (cK K) (kas_descPart m n p) (Run K n):=by
 refine xN (my ?_<|U0 inj g (by omega) (n - (m+1)) (m+1) (by omega) (by omega) d);rintro⟨p',k,q⟩ ⟨e1,e2,h3,h4,h5⟩;have e1:=e1;have e2:=e2;subst e1 e2;exact QrT g (by omega) (by omega) h5
def QrU(inj:∀i j,i<n->j<n->K i=K j->i=j)(g:Good n p)(h0:0<n):sp n (cK K) (kas_count n p) (Run K n):=by
 refine xN (my ?_<|Kd g h0 (n - 1) 1 (Qd _) λi hi=>by omega);rintro m ⟨h1,h2,h3,h4⟩;by_cases e:m=n
 ·rw[X9<|beq_iff_eq.mpr e];exact⟨g,h1,by omega,h3⟩
 ·rw[X8 λq=>e<|beq_iff_eq.mp q];by_cases e2:m > 1
  ·rw[X9 e2];refine⟨g.lt h0 0,g.lt h0<|m - 1,?_⟩;show sp n (cK K) (if decide (kk K p 0<kk K p (m - 1))=true then .ret (m,p) else _) _;have le:=h3.le (i:=0) (j:=m - 1) (by omega) (by omega);have ne:=HQ inj g (j:=m - 1) (by omega) (by omega) (by omega);rw[X_<|by omega];exact⟨g,h1,by omega,h3⟩
  ·rw[X8 e2];have em:m=1:=by omega
   subst em;refine QjH inj g (by omega) λi hi=>?_
   have ei:i=0:=by omega
   subst ei;rcases h4 with q | q
   ·omega
   ·exact q
def Lv(g:Good n p)(h0:0<n)(A:gO K p k):∀(f l r:Nat),l<=r->r<=k->r - l<=f->(∀i,i<l->kk K p i<=kk K p k)->(∀i,r<=i->i<k->kk K p k<kk K p i) ->
  sp n (cK K) (kas_place p k f l r) (λm=>m<=k/\(∀i,i<m->kk K p i<=kk K p k)/\∀i,m<=i->i<k->kk K p k<kk K p i)
 |0,l,r,h1,h2,h3,a,b=>⟨by omega,a,λi hi hk=>b i (by omega) hk⟩
 |f+1,l,r,h1,h2,h3,a,b=>by
  show sp n (cK K) (if l≥r then .ret l else _) _;by_cases e:l≥r
  ·rw[X9 e];exact⟨by omega,a,λi hi hk=>b i (by omega) hk⟩
  ·rw[X8 e];refine⟨g.lt h0 k,g.lt h0<|(l+r) / 2,?_⟩;show sp n (cK K) (if decide (kk K p k<kk K p ((l+r) / 2))=true then kas_place p k f l ((l+r) / 2) else kas_place p k f ((l+r) / 2+1) r) _;by_cases q:kk K p k<kk K p ((l+r) / 2)
   ·rw[X_ q];refine Lv g h0 A f l ((l+r) / 2) (by omega) (by omega) (by omega) a λi hi hk=>?_
    exact Int.lt_of_lt_of_le q<|A.le hi hk
   ·rw[X' q];refine Lv g h0 A f ((l+r) / 2+1) r (by omega) h2 (by omega) (λi hi=>?_) b;exact Int.le_trans (A.le (by omega)<|by omega)<|Int.not_lt.mp q
def R1(h0:0<n):∀(f k:Nat){p:Array Nat},Good n p->k+f<=n->gO K p k->sp n (cK K) (kas_bin f p k) (λp'=>Good n p'/\gO K p' (k+f))
 |0,k,p,g,_,A=>⟨g,A⟩
 |f+1,k,p,g,hk,A=>by
  refine xN (my ?_<|Lv g h0 A k 0 k (Q9 _) (Qd _) (by omega) (λi hi=>by omega) λi hi hk=>by omega);rintro l ⟨hl,lo,hi⟩;have hs:=g.size;have bb:∀j,at_ (bubble p k<|k - l) j=if j=l then at_ p k else if l<j/\j<=k then at_ p (j - 1) else at_ p j:=by
   intro j;have:=getElem?_bubble (xs:=p) (src:=k) (by omega) (k - l) (by omega) j
   have e:k - (k - l)=l:=by omega
   rw[e] at this;split
   ·rename_i q;rw[X9 q] at this;exact CQ this
   ·rename_i q
    rw[X8 q] at this;split
    ·rename_i q2;rw[X9 q2] at this;exact CQ this
    ·rename_i q2;rw[X8 q2] at this;exact CQ this
  refine my ?_ (R1 h0 f (k+1) ⟨(QhO.mp<|bubble_perm p k<|k - l).trans g.perm⟩ (by omega) ?_)
  ·rintro p' ⟨a,b⟩;exact⟨a,by rw[show k+(f+1)=k+1+f by omega];exact b⟩
  ·intro i hik;unfold kk;rw[bb,bb];by_cases c1:i+1<l
   ·rw[X8<|by omega,X8<|by omega,X8<|by omega,X8<|by omega];exact A i (by omega)
   ·by_cases c2:i+1=l
    ·rw[X8<|by omega,X8<|by omega,X9 c2];exact lo i (by omega)
    ·by_cases c3:i=l
     ·rw[X9 c3,X8<|by omega,X9 ⟨by omega,by omega⟩];exact Int.le_of_lt (hi (i+1 - 1) (by omega)<|by omega)
     ·rw[X8 c3,X9 ⟨by omega,by omega⟩,X8<|by omega,X9 ⟨by omega,by omega⟩];have:=A (i - 1) (by omega);rw[show i - 1+1=i+1 - 1 by omega] at this;exact this
def Qwa(inj:∀i j,i<n->j<n->K i=K j->i=j)(h0:0<n):sp n (cK K) (kas_sort n) (λp=>Good n p/\gO K p n):=by
 have g:Good n (Yv<|Qv n):=⟨LN _⟩;refine xN<|my ?_<|QrU inj g h0;rintro⟨m,p⟩ ⟨g',h1,h2,A⟩;have e:max m 1=m:=by have:=h1;omega
 rw[e];by_cases q:m<n
 ·rw[X9 q];refine my ?_ (R1 h0 (n - m) m g' (by omega) A)
  rintro p' ⟨a,b⟩;exact⟨a,by rw[show m+(n - m)=n by omega] at b;exact b⟩
 ·rw[X8 q];have h2:=h2;have e2:m=n:=by omega
  subst e2;exact⟨g',A⟩
end
end Rs
namespace Rs
open PySem.W PySem.Calls
section
variable{prog:QB}{w:Jh}{A:Jo}{E:Xd->Xe->Prop}{s:Xe}
def Kept(a:Xb)(h h':ZF):Prop:=∀b x,b≠a->h.get? b=some x->h'.get? b=some x
def LW(f:Xo->Xo):Kept a h (h.update a f):=λb x hb e=>(Heap.get?_update_ne _ _ _ _ hb).trans e
def Qiq(o:Xo):Kept a h (h.push o):=λb x _ e=>Qf _ e
def Kept.trans(k:Kept a h h1)(k':Kept a h1 h2):Kept a h h2:=λb x hb e=>k' b x hb<|k b x hb e
def QnZ(vs:List Xd):(Qv vs.length).map (λi=>vs.getD i ZS)=vs:=by
 apply Eu
 intro i;rw[Qq];by_cases h:i<vs.length
 ·rw[JP h];show some (vs.getD i ZS)=_;rw[Qi,Qc h];rfl
 ·rw[Jz<|by simpa using h,Jz<|by omega];rfl
def Qgu{vs:List Xd}(ho:s.heap.get? a=some (seqObj "list" vs.toArray n))(lO:vs.length<64)(K:Nat->Int)(κ:u3)
  (inj:∀i j,i<vs.length->j<vs.length->K i=K j->i=j)
  (hZ:2<=vs.length->∀h':ZF,Kept a s.heap h'->∀(Q':u3->Xe->Prop)(E':Xd->Xe->Prop),Q' κ { s with heap:=h' }->Xi (Xg prog w) A (keyKind' vs.toArray) Q' E' { s with heap:=h' })
  (GZ:∀h':ZF,Kept a s.heap h'->∀(i j:Nat)(C:Bool->Xe->Prop),i<vs.length->j<vs.length->C (decide (K i<K j)) { s with heap:=h' }->Xi (Xg prog w) A (keyLt' κ (vs.getD i ZS)<|vs.getD j ZS) C (λ_ _=>False) { s with heap:=h' })
  (h:∀p:Array Nat,Good vs.length p->gO K p vs.length->∀(h':ZF)(e:Nat),Kept a s.heap h'->h'.get? a=some (seqObj "list" (Yv<|p.toList.map λi=>vs.getD i ZS) e)->P (.done<|.ret .none) { s with heap:=h' }) :
  Xi (Xg prog w) A (z8.«list.sort» ⟨[.ref a],[]⟩) P E s:=by
 have ha:=Qr ho;obtain⟨e1,Oq⟩:∃e1,(s.heap.update a<|pI λ_=>(#[]:Array Xd)).get? a=some (seqObj "list" #[] e1):=⟨_,get?_update_seq ho λ_=>#[]⟩
 have K3:Kept a s.heap (((s.heap.update a<|pI λ_=>(#[]:Array Xd)).push<|seqObj "tuple" vs.toArray 0).push<|seqObj "list" #[] 0):=(LW _).trans<|(Qiq _).trans<|Qiq _;have wA:(((s.heap.update a<|pI λ_=>(#[]:Array Xd)).push<|seqObj "tuple" vs.toArray 0).push<|seqObj "list" #[] 0).get? a=some (seqObj "list" #[] e1):=Qf _<|Qf _ Oq;rw[list_sort_plain];refine Xa (listItems_at ho rfl<|Xa<|IF ho rfl ?_ (by rw[Qm,ZR];omega)<|Q9 _);refine Xa (HN Oq rfl<|Xa<|wpAny_newTuple ?_ (by show vs.length<=_;rw[ZR];omega));refine Xa<|wpAny_newList (ZE ?_)<|Q9 _
 dsimp only
 generalize (((s.heap.update a<|pI λ_=>(#[]:Array Xd)).push<|seqObj "tuple" vs.toArray 0).push<|seqObj "list" #[] 0)=h3 at K3 wA ⊢;have fin:∀p:Array Nat,Good vs.length p->gO K p vs.length->∀bH:SortSt,(arrOf bH).map (·.2)=Yv (p.toList.map λi=>vs.getD i ZS)->failedOf bH=none ->
   ∃e2,(h3.update a<|pI λ_=>Yv<|p.toList.map λi=>vs.getD i ZS).get? a=some (seqObj "list" (Yv<|p.toList.map λi=>vs.getD i ZS) e2):=λp _ _ _ _ _=>⟨_,get?_update_seq wA λ_=>_⟩
 by_cases h2:vs.toArray.size<2
 ·rw[X9 h2,X9 h2];refine Xa<|Qg ?_;refine Xa<|Qg ?_;have gg:Good vs.length (Yv<|Qv vs.length):=⟨LN _⟩;have aa:gO K (Yv<|Qv vs.length) vs.length:=λi hi=>by rw[Qm] at h2;omega
  have out:(arrOf<|SortSt.mk' general' (vs.toArray.zip vs.toArray) #[] 7 none).map (·.2)=Yv ((Yv<|Qv vs.length).toList.map λi=>vs.getD i ZS):=by
   rw[QnZ];apply Sg.mp
   rw[Array.toList_map,Array.toList_zip];exact List.map_snd_zip<|Qd _
  obtain⟨e2,ud⟩:=fin _ gg aa _ out rfl;rw[out];refine Xa (HN wA rfl<|Xa<|IF wA rfl ?_ (Q9 _) (by rw[Qm,Qb,S_,Q5,ZR];omega));simp only[bne_self_eq_false];exact Qg<|h _ gg aa _ e2 (K3.trans<|LW _) ud
 ·rw[X8 h2,X8 h2];have jB:2<=vs.length:=by rw[Qm] at h2;omega
  refine Xa<|hZ jB h3 K3 _ _ ?_;refine Xa (Xk (kat_run (Q:=λbH s'=>∃p:Array Nat,Good vs.length p/\gO K p vs.length/\arrOf bH=p.map (kas_item<|vs.toArray.zip vs.toArray)/\failedOf bH=none/\s'={ s with heap:=h3 })
   (G:=λp s'=>Good vs.length p/\gO K p vs.length/\s'={ s with heap:=h3 }) rfl jB lO (λp' bH s' a1 a2 a3 a4=>⟨p',a4.1,a4.2.1,a2,a3,a4.2.2⟩)
   (VW (λi j C hi hj hC=>GZ h3 K3 i j C hi hj hC)<|my (λp q=>⟨q.1,q.2,rfl⟩)<|Qwa inj<|by omega)) ?_ λ_ _ e=>e)
  rintro⟨⟨⟩,bH⟩ s' ⟨p,gg,aa,har,hf,rfl⟩;have out:=kat_snds rfl har;obtain⟨e2,ud⟩:=fin p gg aa bH out hf;rw[out];refine Xa (HN wA rfl<|Xa<|IF wA rfl ?_ (Q9 _) (by rw[Qm,Qb,Jd,gg.size,ZR];omega));rw[hf];simp only[bne_self_eq_false];exact Qg<|h p gg aa _ e2 (K3.trans<|LW _) ud
def MB{vs:List Xd}(hT:T = "list" ∨ T = "tuple")(ho:s.heap.get? l=some o)(hc:o.cls=.type T)(hd:o.data=.seq vs.toArray n)(lO:vs.length<64)
  (h:∀h':ZF,(∀b x,s.heap.get? b=some x->h'.get? b=some x)->∀(P:WO->Xe->Prop)(E':Xd->Xe->Prop),(∀s2,Q (.ref h'.objs.size) s2->P (.done<|.ret .none) s2) ->
   Xi (Xg prog w) A.in1.in1 (z8.«list.sort» ⟨[.ref h'.objs.size],[]⟩) P E' { s with heap:=h'.push (seqObj "list" vs.toArray 0) }) :
  Xi (Xg prog w) A (call (.builtin "sorted") [.ref l]) Q E s:=by
 refine Calls.call_function_entry kind_sorted plain_sorted entry_sorted (args_sorted1 _) ?_
 refine Xa<|Qg ?_;refine Xa (wpAny_collect_seq l hT ho hc hd (λh' kp=>?_) (by rw[Qm,ZR];omega));refine Xa (wpAny_newList ?_ (by rw[S_,ZR];omega));have wz:(h'.push<|seqObj "list" vs.toArray 0).get? h'.objs.size=some (seqObj "list" vs.toArray 0):=Qs _ rfl;refine Xa<|ZE<|ZQ slot_list_sort ⟨_,wz,rfl⟩ entry_list_sort ?body<|args_list_sort _;exact h h' kp _ _ λs2 hq=>⟨_,rfl,Qg ⟨_,rfl,hq⟩⟩
structure fz (h:ZF) (v:Xd) (ij:Int×Int):Prop where
 it:∃(a:Xb)(o:Xo)(n:Nat)(t u:Tok),v=.ref a/\h.get? a=some o/\o.cls=.type "tuple" /\ o.data=.seq #[.int ij.1 t,.int ij.2 u] n
def fz.keep(q:fz h v ij)(k:∀b x,h.get? b=some x->h'.get? b=some x):fz h' v ij:=by
 obtain⟨a,o,n,t,u,e,g,c,d⟩:=q.it;exact⟨a,o,n,t,u,e,k _ _ g,c,d⟩
inductive aU (h:ZF):List Xd->List (Int×Int)->Prop
 |nil:aU h [] []
 |cons {v:Xd} {vs:List Xd} {ij:Int×Int} {L:List (Int×Int)}:fz h v ij->aU h vs L->aU h (v::vs) (ij::L)
def aU.keep(k:∀b x,h.get? b=some x->h'.get? b=some x):∀{vs:List Xd}{L:List (Int×Int)},aU h vs L->aU h' vs L
 |_,_,.nil=>.nil
 |_,_,.cons q r=>.cons (q.keep k)<|r.keep k
def aU.len:∀{vs:List Xd}{L:List (Int×Int)},aU h vs L->vs.length=L.length
 |_,_,.nil=>rfl
 |_,_,.cons _ r=>by rw[Qz,Qz,r.len]
def aU.at_:∀{vs:List Xd}{L:List (Int×Int)},aU h vs L->∀i,i<vs.length->fz h (vs.getD i ZS) (L.getD i (0,0))
 |_,_,.nil,i,hi=>by simp at hi
 |_,_,.cons q r,0,hi=>q
 |_,_,.cons q r,i+1,hi=>by
  have:=r.at_ i (by simpa using hi)
  simpa using this
def aU.lR:∀{vs:List Xd}{L:List (Int×Int)},aU h vs L->∃fs,KatTups h vs fs/\fs.length=vs.length/\∀v∈fs,∃i t,v=r_ i t
 |_,_,.nil=>⟨[],.nil,rfl,λv hv=>nomatch hv⟩
 |_,_,.cons q r=>by
  obtain⟨fs,k,l,f⟩:=r.lR;obtain⟨a,o,n,t,u,e,g,c,d⟩:=q.it;subst e;refine⟨_::fs,KatTups.cons g c d rfl k,by rw[Qz,Qz,l],λv hv=>?_⟩;rcases Qt.mp hv with z | z
  ·exact⟨_,_,z⟩
  ·exact f v z
def code(ij:Int×Int):Int:=64*ij.1+ij.2
def Qyr(ha:0<=a.2/\a.2<64)(hb:0<=b.2/\b.2<64):decide (code a<code b)=if a.1=b.1 then(if a.2=b.2 then false else decide (a.2<b.2)) else decide (a.1<b.1):=by
 unfold code;split
 ·split
  ·exact X' (by omega)
  ·by_cases q:a.2<b.2
   ·rw[X_ q];exact X_ (by omega)
   ·rw[X' q];exact X' (by omega)
 ·by_cases q:a.1<b.1
  ·rw[X_ q];exact X_ (by omega)
  ·rw[X' q];exact X' (by omega)
def Qw3(pa:fz s.heap v a)(pb:fz s.heap v' b)(ha:0<=a.2/\a.2<64)(hb:0<=b.2/\b.2<64)(h:C (decide (code a<code b)) s) :
  Xi (Xg prog w) A (keyLt' (tuples' true) v v') C E s:=by
 obtain⟨x,ox,n,t,u,rfl,gx,cx,dx⟩:=pa.it;obtain⟨y,oy,m,t',u',rfl,gy,cy,dy⟩:=pb.it;rw[Qyr ha hb] at h;refine kat_lt gx dx gy dy ?_
 refine kat_cons<|KN ?_;by_cases e:a.1=b.1
 ·rw[X9 e] at h;rw[beq_iff_eq.mpr e];refine kat_yes<|kat_cons<|KN ?_;by_cases e2:a.2=b.2
  ·rw[X9 e2] at h;rw[beq_iff_eq.mpr e2];exact kat_yes<|kat_nil h
  ·rw[X8 e2] at h;rw[beq_eq_false_iff_ne.mpr e2];exact kat_no<|kat_one _ _<|lt_int h
 ·rw[X8 e] at h;rw[beq_eq_false_iff_ne.mpr e];exact kat_no<|oneLt_int h
def QoF(r:aU s.heap vs L)(h2:2<=vs.length)(h:Q (tuples' true) s):Xi (Xg prog w) A (keyKind' vs.toArray) Q E s:=by
 obtain⟨fs,k,l,f⟩:=r.lR;refine kat_kind (T:=.type "int") k (by omega) (λv hv=>?_) (by decide) ?_
 ·obtain⟨i,t,rfl⟩:=f v hv;exact Looks.of_pure rfl
 ·rw[show(AM "int" != AM "tuple")=true by decide];exact h
def QcB(ho:s.heap.get? a=some (seqObj "list" vs.toArray n))(lO:vs.length<64)(r:∀h',Kept a s.heap h'->aU h' vs L)(nd:L.Nodup)(hb:∀ij∈L,0<=ij.2/\ij.2<64)
  (h:∀p:Array Nat,Good vs.length p->gO (λi=>code<|L.getD i (0,0)) p vs.length->∀(h':ZF)(e:Nat),Kept a s.heap h'->h'.get? a=some (seqObj "list" (Yv<|p.toList.map λi=>vs.getD i ZS) e)->P (.done<|.ret .none) { s with heap:=h' }) :
  Xi (Xg prog w) A (z8.«list.sort» ⟨[.ref a],[]⟩) P E s:=by
 have hl:=(r s.heap λb x _ e=>e).len;have fS:∀i,i<vs.length->0<=(L.getD i (0,0)).2/\(L.getD i (0,0)).2<64:=λi hi=>by
  rw[Qi,Qc<|by omega];exact hb _<|JQ _
 refine Qgu ho lO (λi=>code<|L.getD i (0,0)) (tuples' true) (λi j hi hj e=>?_) (λh2 h' k Q' E' q=>QoF (r h' k) h2 q) (λh' k i j C hi hj q=>Qw3 ((r h' k).at_ i hi) ((r h' k).at_ j hj) (fS i hi) (fS j hj) q) h;have bi:=fS i hi;have bj:=fS j hj;have e:=e;unfold code at e;have e':L.getD i (0,0)=L.getD j (0,0):=rV (by omega) (by omega);rw[Qi,Qi,Qc<|by omega,Qc<|by omega] at e';have pw:=Yl.mp nd;rcases Et i j with q | q | q
 ·exact Z_ e' (pw i j (by omega) (by omega) q)
 ·exact q
 ·exact Z_ e'.symm (pw j i (by omega) (by omega) q)
end
def QiP{d:α}(g:Good L.length p):(p.toList.map λi=>L.getD i d).Perm L:=by
 have e:(Qv L.length).map (λi=>L.getD i d)=L:=by
  apply Eu
  intro i;rw[Qq];by_cases h:i<L.length
  ·rw[JP h];show some (L.getD i d)=_;rw[Qi,Qc h];rfl
  ·rw[Jz<|by simpa using h,Jz<|by omega];rfl
 have:=g.perm.map λi=>L.getD i d
 rwa [e] at this
def QiO{L:List (Int×Int)}(g:Good L.length p)(ad:gO (λi=>code<|L.getD i (0,0)) p L.length)(inj:∀i j,i<L.length->j<L.length->code (L.getD i (0,0))=code (L.getD j (0,0))->i=j) :
  (p.toList.map λi=>L.getD i (0,0)).Pairwise λa b=>code a<code b:=by
 rw[Yl];intro i j hi hj uc;rw[Qb,Jd] at hi hj;have hs:=g.size;rw[EG,EG,U',U'];have ei:p[i]=at_ p i:=by have:=Ao (i:=i) (by omega);rw[Zd<|by omega] at this;exact QL this
 have ej:p[j]=at_ p j:=by have:=Ao (by omega);rw[Zd<|by omega] at this;exact QL this
 rw[ei,ej];have le:=ad.le (i:=i) (j:=j) (by omega) (by omega);have ne:=HQ inj g (i:=i) (j:=j) (by omega) (by omega) (by omega);have le:code (L.getD (at_ p i) (0,0))<=code (L.getD (at_ p j) (0,0)):=le;have ne:code (L.getD (at_ p i) (0,0))≠code (L.getD (at_ p j) (0,0)):=ne;omega
end Rs


namespace L2
open _root_.Rd _root_.Rk _root_.Rs
def boot_sorted:Xm "sorted" = some (.builtin "sorted"):=by decide
section
variable{X:Cx}
def Mb(ok:cg P w H h):∀{xs:List V}{L:List (Int×Int)}{vs:List Xd},aP H xs (L.map Rk.pairD)->ai xs vs->aU h vs L
 |_,[],vs,.nil,r=>by cases r;exact .nil
 |_,ij::L,vs,.cons q qs,r=>by
  cases r with
  |cons r rs=>
   refine .cons ?_<|Mb ok qs rs
   cases q with
   |@tup a ys ds e q2=>
    cases r;obtain⟨_,ah,rv,o,ho,hc,_,n,hd⟩:=ok a _ e;cases q2 with
    |cons q3 q4=>
     cases q4 with
     |cons q5 q6=>
      cases q6;cases q3;cases q5;cases rv with
      |cons r1 r2=>
       cases r2 with
       |cons r3 r4=>
        cases r4;obtain⟨t,rfl⟩:=r1;obtain⟨u,rfl⟩:=r3;exact⟨_,o,n,t,u,rfl,ho,hc,hd⟩
def Lf:∀{xs:List V}{L:List (Int×Int)},aP H xs (L.map Rk.pairD)->∀i,i<xs.length->Dat H (xs.getD i .aH) (Rk.pairD<|L.getD i (0,0))
 |_,[],.nil,i,hi=>by simp at hi
 |_,ij::L,.cons q qs,0,hi=>q
 |_,ij::L,.cons q qs,i+1,hi=>by
  have:=Lf qs i (by simpa using hi)
  simpa using this
def Lb:∀{xs:List V}{vs:List Xd},ai xs vs->∀i,i<xs.length->RelV (xs.getD i .aH) (vs.getD i ZS)
 |_,_,.nil,i,hi=>by simp at hi
 |_,_,.cons q qs,0,hi=>q
 |_,_,.cons q qs,i+1,hi=>by
  have:=Lb qs i (by simpa using hi)
  simpa using this
def Lm:∀{is:List Nat},(∀i∈is,Dat H (f i)<|Rk.pairD<|g i)->aP H (is.map f) ((is.map g).map Rk.pairD)
 |[],_=>.nil
 |i::is,h=>.cons (h i<|.head _)<|Lm λj hj=>h j<|.tail _ hj
def LX:∀{is:List Nat},(∀i∈is,RelV (f i)<|g i)->ai (is.map f) (is.map g)
 |[],_=>.nil
 |i::is,h=>.cons (h i<|.head _)<|LX λj hj=>h j<|.tail _ hj
def Kj:List V->Hp->VK->Prop:=λxs H Q=>∃(l:Xb)(vs:List V)(L:List (Int×Int)),xs=[.ref l]/\H l=some (.lst vs)/\aP H vs (L.map Rk.pairD)/\L.Nodup/\L.length<64/\(∀ij∈L,0<=ij.2/\ij.2<64) /\
 ∀(t:Xb)(ys:List V)(M:List (Int×Int))(H2:Hp),ag H H2->H t=none->H2 t=some (.lst ys)->aP H2 ys (M.map Rk.pairD)->M.Perm L->M.Pairwise (λa b=>Rs.code a<Rs.code b)->Q (.ref t) H2
def Mg:aG X (.builtin "sorted") Kj:=by
 intro XI s σ H xs us Q I r h;obtain⟨l,vs,L,rfl,hl,ds,nd,lO,hb,q⟩:=h;obtain⟨u,rfl,ru⟩:=vals1 r;cases ru;obtain⟨hz,ah,n,rv,ho⟩:=I.ar l _ hl;have pv:=Mb I.ar ds rv;have lv:=ds.length;have li:=rv.length;have lp:=pv.len;refine MB (.inl rfl) ho rfl rfl (by omega) λh' kp P E' hP=>?_
 refine QcB (Qs _ rfl) (by omega) (λh2 k2=>?_) nd hb λp g ad h2 e k2 e2=>hP _ ?_
 ·exact(pv.keep kp).keep λb x e=>k2 b x (QZ<|Qr e)<|Qf _ e
 ·have I1:=I.kept (t':=s.toks) kp;have hf:=I1.ar.fresh<|Qd _;have hp:∀i∈p.toList,i<vs.length:=λi hi=>by have:=Jl.mp<|g.perm.mem_iff.mp hi;omega
  have I2:=
   I1.laid (t':=s.toks) (λb x e'=>k2 b x (QZ<|Qr e')<|Qf _ e') (Qd _) (show aQ X.prog X.w _ _ _ (.lst _) from⟨by rw[Qb,Jd,g.size];exact JG<|Rk.ZY<|by omega,_,e,LX λi hi=>Lb rv i<|hp i hi,e2⟩)
  have g':Good L.length p:=by rw[<- lp];exact g
  have HB:gO (λi=>Rs.code<|L.getD i (0,0)) p L.length:=by rw[<- lp];exact ad
  refine⟨.ref h'.objs.size,_,I2,rfl,q _ _ (p.toList.map λi=>L.getD i (0,0)) _ (JA hf) hf af (Lm λi hi=>(Lf ds i<|hp i hi).same<|JA hf) (QiP g')<|QiO g' HB λi j hi hj e=>?_⟩;have bi:0<=(L.getD i (0,0)).2/\(L.getD i (0,0)).2<64:=by rw[Qi,Qc hi];exact hb _<|JQ _
  have bj:0<=(L.getD j (0,0)).2/\(L.getD j (0,0)).2<64:=by rw[Qi,Qc hj];exact hb _<|JQ _
  unfold Rs.code at e;have e':L.getD i (0,0)=L.getD j (0,0):=rV (by omega) (by omega);rw[Qi,Qi,Qc hi,Qc hj] at e';have pw:=Yl.mp nd;rcases Et i j with z | z | z
  ·exact Z_ e'<|pw i j hi hj z
  ·exact z
  ·exact Z_ e'.symm<|pw j i hj hi z
def Vv:∀{ns:List Int}{vs:List Xd},ai (ns.map V.int) vs->rM vs ns
 |[],_,.nil=>.nil
 |i::ns,_,.cons ⟨t,e⟩ r=>by subst e;exact .cons _ _<|Vv r
def VI:∀{ns:List Int}{vs:List Xd},rM vs ns->ai (ns.map V.int) vs
 |_,_,.nil=>.nil
 |_,_,.cons n t r=>.cons ⟨t,rfl⟩<|VI r
def Kh(K:Ws):List V->Hp->VK->Prop:=λxs H Q=>∃l ns,xs=[.ref l]/\aM K H l ((ns:List Int).map V.int)/\ns.length<64 /\
 ∀t ms H2,ag H H2->H t=none->H2 t=some (.lst<|(ms:List Int).map V.int)->ms.Perm ns->ms.Pairwise (·<=·)->Q (.ref t) H2
def QmA:aG X (.builtin "sorted") (Kh X.K):=by
 intro XI s σ H xs us Q I r h;obtain⟨l,ns,rfl,hl,lO,q⟩:=h;obtain⟨u,rfl,ru⟩:=vals1 r;cases ru;obtain⟨ah,rv,tp,hz⟩:=I.tuple hl;obtain⟨o,ho,hc,n,hd⟩:=tp;have li:=rv.length;rw[Qb] at li;refine MB (.inr rfl) ho hc hd (by omega) λh' kp P E' hP=>?_
 have hn:(h'.push<|seqObj "list" ah.toArray 0).get? h'.objs.size=some (seqObj "list" ah.toArray 0):=Qs _ rfl;refine list_sort_tree hn (Vv rv) (by omega) λout gP ia pm pw=>hP _ ?_
 have I1:=I.kept (t':=s.toks) kp;have hf:=I1.ar.fresh<|Qd _;obtain⟨e,he⟩:∃e,(sortedHeap (h'.push<|seqObj "list" ah.toArray 0) h'.objs.size ah out).get? h'.objs.size=some (seqObj "list" out e):=sortedHeap_at hn
 have FR:=VI ia;have lp:=pm.length_eq;have I2:=
  I1.laid (t':=s.toks) (λb x e'=>(sortedHeap_old (QZ<|Qr e')<|Q2 (Qr e') (by rw[size_push'];exact IC _)).trans<|Qf _ e') (Qd _) (show aQ X.prog X.w _ _ _ (.lst _) from⟨by rw[Qb];exact JG<|Rk.ZY<|by omega,out.toList,e,FR,by rw[he]⟩)
 exact⟨.ref h'.objs.size,_,I2,rfl,q _ gP _ (JA hf) hf af pm pw⟩
end
end L2
namespace Re
open AutoSeq1 (wpAny_loadPart')
def P4(hh:A.handled=none)(hti:t≠it) :
  Draws prog w A it [it,t] items.size (λi x=>items[i]? = some x) (λi h=>h.IsTupleIter it t i/\h.IsTuple t items) where
 live:=λi h st=>by
  obtain⟨⟨o,ho,_⟩,_⟩:=st;exact⟨o,ho⟩
 frame:=λi h h' st k=>by
  obtain⟨⟨o,ho,c⟩,⟨o2,h2,c2⟩⟩:=st;exact⟨⟨o,k it (by simp) _ ho,c⟩,⟨o2,k t (by simp) _ h2,c2⟩⟩
 item:=λi s Q E hi st hQ=>by
  refine Rz.Qs6 st.1 st.2 (x:=items[i]) (by simp[hi]) λh' GR wx=>?_
  refine hQ _ h' s.toks (by simp[hi]) ⟨GR,?_⟩ wx;obtain⟨o2,h2,c2⟩:=st.2;exact⟨o2,(wx.2 t hti).trans h2,c2⟩
 done:=λs Q E st hE=>Rz.QxF hh st.1 st.2 (by simp) hE
def Qmi(l:Xb)(items:Array Xd)(n:Nat)(gH:Option Xb)(sl:Array<|Option Xd) :
  Meets (z8.«enumerate.__new__» ⟨[.type "enumerate",.ref l],[]⟩) (λ_ R s=>s.heap.get? l=some { cls:=.type "tuple",dict:=gH,data:=.seq items n,slots:=sl } /\
   R (.ok<|.ret<|.ref (s.heap.push { cls:=.type "tuple_iterator",data:=.fields #[.ref l,.int 0 0] }).objs.size)
    { s with heap:=(s.heap.push { cls:=.type "tuple_iterator",data:=.fields #[.ref l,.int 0 0] }).push { cls:=.type "enumerate",data:=.fields #[.none,.bool false,.ref s.heap.objs.size,rawInt 0,.none,.none] } }):=
 .of_wp λprog w A R s h=>by
  obtain⟨hp,g,d,tk,os⟩:=s;obtain⟨hl,h⟩:=h;have hsub:=sub_enumerate;have hL:Heap.IsTuple (Shared.heap ⟨hp,g,d,tk,os⟩) l items:=⟨_,hl,rfl,n,rfl⟩
  wp_walk using D5 hl
  refine wpAny_stack_any λst=>Qg ?_
  split
  ·rename_i c _ _ _ _ _
   cases(c == AM "enumerate")
   ·wp_walk using D5 hl,ED hL
    exact⟨_,rfl,h⟩
   ·wp_walk using D5 hl,ED hL
    exact⟨_,rfl,h⟩
  ·wp_walk using D5 hl,ED hL
   exact⟨_,rfl,h⟩
def QmB(hL:s.heap.IsTuple l items)
  (h:∀h',IsEnum h' (s.heap.objs.size+1) s.heap.objs.size 0 .none->h'.IsTupleIter s.heap.objs.size l 0->(∀b o,s.heap.get? b=some o->h'.get? b=some o)->Q (.ref<|s.heap.objs.size+1) { s with heap:=h' }) :
  Xi (Xg prog w) A (call (.type "enumerate") [.ref l]) Q E s:=by
 obtain⟨⟨c,gH,dt,sl⟩,hl,hc,n,hd⟩:=hL
 replace hc:c=.type "tuple" := hc
 replace hd:dt=.seq items n:=hd
 subst hc hd;refine callType_new F.called_enumerate (by decide) (F.typeCall_enumerate_1 _) (F.newCall_enumerate_1 _) (λobj=>F.args_object_init_2 obj _) F.entry_enumerate_new (Qmi l items n gH sl) ⟨hl,?_⟩;have hz:(s.heap.push { cls:=.type "tuple_iterator",data:=.fields #[.ref l,.int 0 0] }).objs.size=s.heap.objs.size+1:=xY ..;rw[hz];have he:=Qs (s.heap.push { cls:=.type "tuple_iterator",data:=.fields #[.ref l,.int 0 0] }) (o:={ cls:=.type "enumerate",data:=.fields #[.none,.bool false,.ref s.heap.objs.size,rawInt 0,.none,.none] }) rfl;rw[hz] at he;exact⟨⟨_,he,rfl⟩,h _ he ⟨_,Qf _<|Qs _ rfl,rfl,rfl⟩ λb o x=>Qf _<|Qf _ x⟩
end Re
namespace L2
def Iet(l:Xb):It:=
 ⟨λi H=>∃xs x,H l=some (.tup xs)/\xs[i]? = some x,
  λi H v H'=>∃p x,H p=none/\(∀xs,H l=some (.tup xs)->xs[i]? = some x)/\v=.ref p/\H'=upd H p (.tup [.int (i:Nat),x]),
  λi H=>∃xs,H l=some (.tup xs)/\xs.length=i⟩
def QlT{K:Ws}{x1}(fi:e≠it) :
  Turn P w K (.Tuple elts x1 cM) (Iet l) [e,it] e (λi h=>(∃old,IsEnum h e it (i:Nat) old)/\h.IsTupleIter it l i) where
 mem:=by simp
 obj:=λi h st b hb=>by
  obtain⟨⟨old,a1⟩,⟨o2,a2,_,d2⟩⟩:=st;simp only[Qt,Jy,or_false] at hb;rcases hb with rfl | rfl
  ·exact⟨_,a1,λv q=>nomatch q⟩
  ·exact⟨_,a2,λv q=>by rw[d2] at q;cases q⟩
 keep:=λi h h' st k=>by
  obtain⟨⟨old,a1⟩,⟨o2,a2,c2⟩⟩:=st;exact⟨⟨old,k e (by simp) _ a1⟩,o2,k it (by simp) _ a2,c2⟩
 item:=by
  intro X hP hw hK hc i XI s σ H E I hf st hg;obtain⟨xs,x,h1,hx⟩:=hg;obtain⟨⟨old,a1⟩,a2⟩:=st;obtain⟨ah,r1,p1,_⟩:=I.tuple<|aM.of h1;obtain⟨u,hu,ru⟩:=r1.get hx;have nel:e≠l:=λz=>by have q:=(hf e<|by simp).1;rw[z,h1] at q;cases q
  have nil:l≠it:=λz=>by have q:=(hf it<|by simp).1;rw[<- z,h1] at q;cases q
  have hi:i<ah.toArray.size:=by
   have:=(QR.mp hu).1
   simpa using this
  refine wpAny_pyNext_enum_itemD (Re.P4 (I.ok.hd hc) nil) a1 ⟨a2,p1⟩ hi fi (by simp[fi,nel]) λy h' tk hy o' l' tp sz kp=>?_
  have ey:y=u:=by
   have e1:ah.toArray[i]? = some u:=by simpa using hu
   rw[e1] at hy;exact(QL hy).symm
  subst ey;obtain⟨l',tq⟩:=l';have fr:=I.ar.fresh<|Qd _;have n1:=QZ<|Qr a1;have n2:it≠s.heap.objs.size:=by
   obtain⟨o2,a2,_⟩:=a2;exact QZ<|Qr a2
  refine⟨_,rfl,Vc o' λh2 e2 s2=>?_⟩;have I1:Inv X XI σ (upd H s.heap.objs.size<|.tup [.int i,x]) { s with heap:=h2,toks:=tk+1 }:=by
   refine I.fX hf (λb v hb q=>?_) (Qd _) ⟨by show 2<=Xj;decide,[.int i tk,y],.cons ⟨_,rfl⟩<|.cons ru .nil,?_⟩
   ·simp only[Qt,Jy,or_false,not_or] at hb;exact s2.extBut _ _ hb.1<|kp b v hb.1 hb.2 q
   ·exact⟨_,s2.extBut _ _ n1.symm tp,rfl,rfl,0,rfl⟩
  refine⟨.ref s.heap.objs.size,_,I1,rfl,⟨_,x,fr,λFw q=>?_,rfl,rfl⟩,⟨⟨y,e2⟩,?_⟩,λb hb=>?_⟩
  ·rw[h1] at q;cases q;exact hx
  ·exact l'.extBut s2.extBut fi.symm
  ·simp only[Qt,Jy,or_false] at hb;rcases hb with rfl | rfl
   ·rw[QY n1];exact(hf _<|by simp).1
   ·rw[QY n2];exact(hf _<|by simp).1
 done:=by
  intro X hP hw hK hc i XI s σ H E I hf st hg;subst hP hw hK;obtain⟨xs,h1,he⟩:=hg;obtain⟨⟨old,a1⟩,a2⟩:=st;obtain⟨ah,r1,p1,_⟩:=I.tuple<|aM.of h1;have l1:=r1.length;have nil:l≠it:=λz=>by have q:=(hf it<|by simp).1;rw[<- z,h1] at q;cases q
  have e0:ah.toArray.size=i:=by rw[Qm];omega
  have D:=Re.P4 (prog:=X.prog) (w:=X.w) (A:=X.A.in1) (items:=ah.toArray) (I.ok.hd hc) nil;rw[e0] at D;refine wpAny_pyNext_enum_endD D a1 ⟨a2,p1⟩ λh' kp=>⟨rfl,I.fY hf λb v hb q=>?_⟩
  simp only[Qt,Jy,or_false,not_or] at hb;exact kp b v hb.2 q
 self:=λ_ _ _ _ _ st h=>by
  obtain⟨⟨old,a1⟩,_⟩:=st;exact Ef a1 h
def QBl(ta:TA):TI:=λσ H R=>ta σ H λvs H1=>∃l xs,vs=[.ref l]/\H1 l=some (.tup xs)/\R (Iet l) H1
section
variable{X:Cx}
def Qsd{x1}(hg:Gl X "enumerate")(hm:X.mg "enumerate" = none)(ha:PA X [a] ta)(hs:Xh [a] X.env=[(false,eval a X.env)]:=by rfl) :
  PI X (.Tuple elts x1 cM) (.Call (.Name "enumerate" p) [a] [] pos) (QBl ta):=by
 intro XI s σ H R I h;refine Call_<|rP I hg hm Qi8<|Zi (aD (ha pos XI s σ H _ I h) λus s1 ⟨vs,H1,I1,r1,q1⟩=>?_) hs rfl;obtain⟨l,xs,e,h1,q⟩:=q1;subst e;obtain⟨u,rfl,ru⟩:=vals1 r1;cases(ru);obtain⟨ah,w1,p1,_⟩:=I1.tuple<|aM.of h1;refine Re.QmB p1 λh' e1 i1 kp=>?_
 refine Ef e1 ?_
 refine⟨s1.heap.objs.size+1,_,_,_,H1,rfl,I1.kept kp,QlT (by show ¬(s1.heap.objs.size+1=s1.heap.objs.size);omega),⟨⟨_,e1⟩,i1⟩,λb hb=>?_,q⟩;have fS:s1.heap.objs.size<=b:=by
  simp only[Qt,Jy,or_false] at hb;rcases hb with rfl | rfl<;>omega
 exact I1.h_ fS<|I1.ar.fresh fS
end
end L2
namespace Rk
open L2
end Rk
namespace L2
section
variable{X:Cx}{XI:List (Xb×Xo)}{σ:St}{H:Hp}
def Qdc{Q:Xd->Xe->Prop}
  (I3:Inv X XI σ H3 s3)(f3:∀b∈fp,bB X XI H3 b)(J:Inv (bV X M scope (cC X.env scope.names []) fp s3 H3 s3.heap.objs.size) [] σ' H s')
  (hN:X.N.Nodup)(hi:X.N[i]? = some y)(hl:X.env.scope.names.lookup y=some .local)(hq:∀s2,Inv X XI (σ.set i<|some<|.ref D) H s2->Q .none s2) :
  Xi Mo A (assign (.Name y py) X.env<|.ref D) (λ_ s2=>∃m,s2.heap.Ns s3.heap.objs.size m/\∀h',Ya s3.heap.objs.size s2.heap h'->Q .none { s2 with heap:=h' }) E s':=by
 have J0:=Ts I3 f3 J<|Heap.SameBut.refl ..;obtain⟨m,hn,_⟩:=J.loc;have hC:=J.free;have lt:=I3.lt;refine QCS<|Qif J0 hN hi (QM hl) (show RelV (.ref D) (.ref D) from rfl) (λs2 J2 ⟨a,sb,ha⟩=>?_)<|.inr hl;have ea:=ha;have na:s3.heap.objs.size≠a:=by
  rcases ea with z | z
  ·rw[z];exact DR lt
  ·obtain⟨v,o,ho,_⟩:=I3.cell y a z;exact DR<|Qr ho
 refine⟨m,hn.sameBut sb na,λh' hs=>hq _ ?_⟩;refine J2.turned (λb o hb e=>hs.extBut b o hb e) hC (DR lt) (.inr I3.sz) (λx c e z=>?_) λp hp z=>?_
 ·obtain⟨v,o,ho,_⟩:=I3.cell x c e;exact Z_ (z ▸ Qr ho)<|ZT _
 ·have e:=(I3.pin p hp).1;exact Z_ (z ▸ Qr e)<|ZT _
end
def Qsb(hN:X.N.Nodup)(ua:X.N[i]? = some y)(tZ:X.env.scope.names.lookup y=some .local)(hc:X.calm=true)(ok:pz X.N X.env.scope M scope cap=true)
  (hi:PI X tg iter wi)(hb:∀cl ex s3 H3 C,PG (bV X M scope cl ex s3 H3 C) tg g/\iR (bV X M scope cl ex s3 H3 C) ifs tc/\PE (bV X M scope cl ex s3 H3 C) elt te)
  (hs:∀x,Xn iter X.env x=pure x:=by intro _;rfl)(j7:Xt (.ListComp elt [⟨tg,iter,ifs,0⟩] scope pos) (some<|.Name y py) cO.line X.env=pure true:=by rfl):PS X (.Assign [.Name y py] (.ListComp elt [⟨tg,iter,ifs,0⟩] scope pos) cO) (fU (lr cap wi g tc te)<|Yj i):=by
 intro XI s σ H D I h;have c:=fB.of ok;rw[RC _ _ _ _ j7];refine Xa<|wpAny_standAt<|Xa ?_;refine Xa<|Xk (Mw rfl hs (KG<|I.ok.cells c) c.kind c.loc ?_) (λ_ s' hq=>Qg<|Qg hq) λ_ _ e=>e;refine aD (hi XI s σ H _ I h) λv s1 h1=>aD h1 λnq s2 h2=>?_
 obtain⟨it,fp,tn,J,H2,e,I2,T,iZ,f2,hW⟩:=h2;subst e;refine JC (L7 c.cell (by intro y hy;simp at hy) (λh₁ lI lH=>?_) c.kind);have I3:=I2.lF (t':=s2.toks) .nil<|Q9 _;have qH:∀b∈fp,b<s2.heap.objs.size:=λb hb=>by obtain⟨o,e,_⟩:=T.obj _ _ iZ b hb;exact Qr e
 have f3:∀b∈fp,bB X XI (upd H2 s2.heap.objs.size<|.lst []) b:=λb hb=>(f2 b hb).upd<|QZ<|qH b hb
 generalize zh:({ s2 with heap:=s2.heap.push { cls:=.type "list",data:=.seq ([]:List Xd).toArray } }:Xe)=s3 at I3;have e3:s3.heap=s2.heap.push { cls:=.type "list",data:=.seq ([]:List Xd).toArray }:=by rw[<- zh]
 have z3:s3.heap.objs.size=s2.heap.objs.size+1:=by rw[e3,xY]
 have hk:=λb o e=>lH.extBut b o (by
  have:=Qr e;rw[e3] at this;exact QZ this)<|Qf _<|e3 ▸ e
 have zo:h₁.Ns s3.heap.objs.size λ_=>none:=by rw[e3];exact lI
 have B:=Mf (t4:=s3.toks+([]:List (Str×Xd)).length) I3 c f3 (λb hb=>by rw[z3];exact LO<|qH b hb) zo hk;have kz:=T.keep _ _ _ iZ λb hb o e=>hk b o (by rw[e3];exact Qf _ e)
 have zN:∀b∈fp,bB (bV X M scope (cC X.env scope.names []) fp s3 (upd H2 s2.heap.objs.size<|.lst []) s3.heap.objs.size) [] (upd H2 s2.heap.objs.size<|.lst []) b:=λb hb=>by
  refine⟨(f3 b hb).1,(B.ok.nC b hb).1,B.ok.gG b hb,.inl hb,(B.ok.nC b hb).2,λp hp=>(nomatch hp)⟩
 obtain⟨hg,ht,he⟩:=hb (cC X.env scope.names []) fp s3 (upd H2 s2.heap.objs.size<|.lst []) s3.heap.objs.size;have loop:Xu (Xg X.prog X.w) X.A (.compLoop (.ListComp elt [⟨tg,iter,ifs,0⟩] scope pos) 0 (.ref it) (.ref s2.heap.objs.size)<|compEnvC scope (cC X.env scope.names []) s3.heap.objs.size X.env)
   (compPost (Xg X.prog X.w) X.A X.xe (some<|assign (.Name y py) X.env) (λ_ s'=>SP X XI D .next s') (.ref s2.heap.objs.size) s3.heap.objs.size) { s3 with heap:=h₁,toks:=s3.toks+([]:List (Str×Xd)).length }:=by
  refine D3 (Y:=bV X M scope (cC X.env scope.names []) fp s3 (upd H2 s2.heap.objs.size<|.lst []) s3.heap.objs.size) hc T kz zN
   (λQ E s h=>VS Q E s h) (λx u r=>DM rfl hg ht (λσ4=>LD rfl he) x u r) B (hW _<|I2.ar.fresh<|Qd _) λs' H' I' q=>?_
  exact Qdc (Q:=λ_ s'=>SP X XI D .next s') I3 f3 I' hN ua tZ λs2' J2=>⟨_,H',J2,q⟩
 exact Ml loop<|T.self _ 0 _ _ _ kz loop
def Qoh(hN:X.N.Nodup)(ua:X.N[i]? = some y)(tZ:X.env.scope.names.lookup y=some .local)(hc:X.calm=true)(ok:pz X.N X.env.scope M scope cap=true)
  (hi:PI X tg iter wi)(hb:∀cl ex s3 H3 C,PG (bV X M scope cl ex s3 H3 C) tg g/\iR (bV X M scope cl ex s3 H3 C) ifs tc/\PI (bV X M scope cl ex s3 H3 C) jr aW jV/\PG (bV X M scope cl ex s3 H3 C) jr g2/\iR (bV X M scope cl ex s3 H3 C) dY FI/\PE (bV X M scope cl ex s3 H3 C) elt te)
  (hs:∀x,Xn iter X.env x=pure x:=by intro _;rfl)(wu:∀env x,Xn aW env x=pure x:=by intro _ _;rfl)(j7:Xt (.ListComp elt [⟨tg,iter,ifs,0⟩,⟨jr,aW,dY,0⟩] scope pos) (some<|.Name y py) cO.line X.env=pure true:=by rfl):PS X (.Assign [.Name y py] (.ListComp elt [⟨tg,iter,ifs,0⟩,⟨jr,aW,dY,0⟩] scope pos) cO) (fU (R8 cap wi g tc jV g2 FI te)<|Yj i):=by
 intro XI s σ H D I h;have c:=fB.of ok;rw[RC _ _ _ _ j7];refine Xa<|wpAny_standAt<|Xa ?_;refine Xa<|Xk (Mw rfl hs (KG<|I.ok.cells c) c.kind c.loc ?_) (λ_ s' hq=>Qg<|Qg hq) λ_ _ e=>e;refine aD (hi XI s σ H _ I h) λv s1 h1=>aD h1 λnq s2 h2=>?_
 obtain⟨it,fp,tn,J,H2,e,I2,T,iZ,f2,hW⟩:=h2;subst e;refine JC (L7 c.cell (by intro y hy;simp at hy) (λh₁ lI lH=>?_) c.kind);have I3:=I2.lF (t':=s2.toks) .nil<|Q9 _;have qH:∀b∈fp,b<s2.heap.objs.size:=λb hb=>by obtain⟨o,e,_⟩:=T.obj _ _ iZ b hb;exact Qr e
 have f3:∀b∈fp,bB X XI (upd H2 s2.heap.objs.size<|.lst []) b:=λb hb=>(f2 b hb).upd<|QZ<|qH b hb
 generalize zh:({ s2 with heap:=s2.heap.push { cls:=.type "list",data:=.seq ([]:List Xd).toArray } }:Xe)=s3 at I3;have e3:s3.heap=s2.heap.push { cls:=.type "list",data:=.seq ([]:List Xd).toArray }:=by rw[<- zh]
 have z3:s3.heap.objs.size=s2.heap.objs.size+1:=by rw[e3,xY]
 have hk:=λb o e=>lH.extBut b o (by
  have:=Qr e;rw[e3] at this;exact QZ this)<|Qf _<|e3 ▸ e
 have zo:h₁.Ns s3.heap.objs.size λ_=>none:=by rw[e3];exact lI
 have B:=Mf (t4:=s3.toks+([]:List (Str×Xd)).length) I3 c f3 (λb hb=>by rw[z3];exact LO<|qH b hb) zo hk;have kz:=T.keep _ _ _ iZ λb hb o e=>hk b o (by rw[e3];exact Qf _ e)
 have zN:∀b∈fp,bB (bV X M scope (cC X.env scope.names []) fp s3 (upd H2 s2.heap.objs.size<|.lst []) s3.heap.objs.size) [] (upd H2 s2.heap.objs.size<|.lst []) b:=λb hb=>by
  refine⟨(f3 b hb).1,(B.ok.nC b hb).1,B.ok.gG b hb,.inl hb,(B.ok.nC b hb).2,λp hp=>(nomatch hp)⟩
 obtain⟨hg,ht,wD,zw,oJ,he⟩:=hb (cC X.env scope.names []) fp s3 (upd H2 s2.heap.objs.size<|.lst []) s3.heap.objs.size;have loop:Xu (Xg X.prog X.w) X.A (.compLoop (.ListComp elt [⟨tg,iter,ifs,0⟩,⟨jr,aW,dY,0⟩] scope pos) 0 (.ref it) (.ref s2.heap.objs.size)<|compEnvC scope (cC X.env scope.names []) s3.heap.objs.size X.env)
   (compPost (Xg X.prog X.w) X.A X.xe (some<|assign (.Name y py) X.env) (λ_ s'=>SP X XI D .next s') (.ref s2.heap.objs.size) s3.heap.objs.size) { s3 with heap:=h₁,toks:=s3.toks+([]:List (Str×Xd)).length }:=by
  refine D3 (Y:=bV X M scope (cC X.env scope.names []) fp s3 (upd H2 s2.heap.objs.size<|.lst []) s3.heap.objs.size) hc T kz zN
   (λQ E s h=>QlS (wu _) Q E s h) (λx u r=>DM rfl hg ht (λσ4=>Qrc rfl hc wD zw oJ he) x u r) B (hW _<|I2.ar.fresh<|Qd _) λs' H' I' q=>?_
  exact Qdc (Q:=λ_ s'=>SP X XI D .next s') I3 f3 I' hN ua tZ λs2' J2=>⟨_,H',J2,q⟩
 exact Ml loop<|T.self _ 0 _ _ _ kz loop
end L2
namespace Rk
open L2 _root_.Rd
section
variable{X:Cx}
def QFE(X:Cx):R2:=λx y H Q=>∃dx dy,Dat H x dx/\Dat H y dy/\X.A.units+min dx.depth dy.depth<cLine/\Q (.bl<|!Qy dx dy) H
def QAC:aI X (Xl .NotEq) (QFE X):=by
 intro XI s σ H x y v u Q I rx ry h;obtain⟨dx,dy,qx,qy,hu,q⟩:=h;obtain⟨⟨as,ra⟩,ca⟩:=sx I.ar dx x v qx rx;obtain⟨⟨bs,rb⟩,cb⟩:=sx I.ar dy y u qy ry;exact SeqAt.compareNe_reads ra rb ca cb hu ⟨.bl _,H,I,rfl,q⟩
end
end Rk
namespace Rk
open L2
def QEt:Xm "ValueError" = some (.type "ValueError"):=by decide
def Kf:List Zm->Option (List Str)
 |[]=>some []
 |.Constant (.str x) _ _::es=>(Kf es).map (x::·)
 |_::_=>none
def K0:∀{es:List Zm}{ws:List Str},Kf es=some ws->PA X es (λ_ H Q=>Q (ws.map V.str) H)
 |[],ws,h=>by cases h;exact Qu
 |e::es,ws,h=>by
  unfold Kf at h;split at h
  ·rename_i e2;cases e2
  ·rename_i e2
   cases e2;obtain⟨vs,hv,rfl⟩:=Ja.mp h;exact KZ (Y6 Zf<|K0 hv) λσ H Q q=>q
  ·cases h
def HY(x:Str):List Zm->Option (List Str)
 |[]=>some []
 |.Call (.Name f _) [.Name y _,.Name n _] [] _::es=>if f = "isinstance" /\ y=x then(HY x es).map (n::·) else none
 |_::_=>none
def QFu(K:Ws)(cs:List Xb):TA:=λσ H Q=>∃(a C:Xb)(bs:List Bool),σ[0]? = some (some<|.ref a)/\H a=some (Rx.qQ a C)/\Rx.pS K C/\Zw (λc b=>Wy K (.ref C) (.ref c)=some b) cs bs/\Q (bs.map V.bl) H
def xv(hN:X.N[0]? = some x)(hv:gU X.env.scope x)(hd:(x == ("__debug__" : Str))=false)(bG:(x == ("__classdict__" : Str))=false)(hg:Gl X "isinstance")(hm:X.mg "isinstance" = none) :
  ∀{es:List Zm}{ns:List Str}{cs:List Xb},HY x es=some ns->(ns.all λn=>(X.env.kindOf n == some .globalImplicit) && !(n == ("__debug__" : Str)))=true->Zw (λn c=>X.mg n=some (.ref c)) ns cs->PA X es (QFu X.K cs)
 |[],ns,cs,h,_,p=>by
  cases h;cases p;exact KZ Qu λσ H Q ⟨a,C,bs,_,_,_,pb,q⟩=>by cases pb;exact q
 |e::es,ns,cs,h,g,p=>by
  unfold HY at h;split at h
  ·rename_i e2;cases e2
  ·rename_i f pf y py n pn pc nF e2
   cases e2;split at h
   ·rename_i hc
    obtain⟨rfl,rfl⟩:=hc;obtain⟨gP,Ci,rfl⟩:=Ja.mp h;cases p with
    |@cons _ c _ cs' p1 p2=>
    rw[Bg,Js,Js] at g;have g1:=beq_iff_eq.mp g.1.1;have g2:(n == ("__debug__" : Str))=false:=by
     have:=g.1.2;cases q:(n == ("__debug__" : Str)) with
     |false=>rfl
     |true=>rw[q] at this;cases this
    have one:PE X (.Call (.Name "isinstance" pf) [.Name y py,.Name n pn] [] pc) _:=Z4 Rx.Qi7 hg hm MP<|Y6 (Sz hN hv hd bG) (Y6 (Z5 (v:=.ref c) g1 p1 rfl g2) Qu rfl) rfl;refine KZ (Y6 one (xv hN hv hd bG hg hm Ci g.2 p2) rfl) λσ H Q ⟨a,C,bs,h0,ha,hc,pb,q⟩=>?_
    cases pb with
    |@cons _ b _ Cz q1 q2=>exact⟨_,h0,a,C,.ref c,.ref c,b,rfl,ha,hc,(λu r=>r),q1,a,C,Cz,h0,ha,hc,q2,q⟩
   ·cases h
  ·cases h
def xB:List Str:=["text", "order", "lines", "few", "size", "many", "number", "stand", "cell", "square", "hits", "counts", "stairs", "alike", "parting", "place", "double", "deed", "row"]
def xA(K:Ws)(cs:List Xb):Sp:=λvs H Q _=>∃(a C:Xb)(bs:List Bool)(j:Nat)(wd:Str),vs=[.ref a]/\H a=some (Rx.qQ a C)/\Rx.pS K C/\Zw (λc b=>Wy K (.ref C) (.ref c)=some b) cs bs/\Wy K (.ref C) (.type "ValueError")=some true /\
 bs.countP id=1/\bs[j]? = some true/\(∀m,m<j->bs[m]? = some false)/\xB[j]? = some wd/\∀H',ag H H'->Q (.str wd) H'
def JJ(h:Zw F (a::l) bs):∃b Cz,bs=b::Cz/\F a b/\Zw F l Cz:=by
 cases h with
 |cons r t=>exact⟨_,_,rfl,r,t⟩
def Ql5(h:Zw F [] bs):bs=[]:=by
 cases h;rfl
end Rk
namespace Rx
open PySem.Calls L2
section
variable{X:Cx}{E:XK}
def jf(zc:∀e s1,Xi (Xg X.prog X.w) X.A (leaving X.env e) (λ_ s2=>aY X.prog X.w X.outer X.H₀ X.s₀ E e s2) (λe' s2=>aY X.prog X.w X.outer X.H₀ X.s₀ E e' s2) s1->X.xe e s1)
  (dn:X.stack=X.env::X.outer)(nu:X.env.frame=some X.env.locals)(hex:X.ex=[]):g7 (aY X.prog X.w) X E:=by
 intro XI σ H s e s' I h;obtain⟨C,H',⟨a,t,B,rfl,os,bare,fl,fa,fH,land⟩,q⟩:=h;refine zc _ _ ?_
 have OB:=fl;rw[dn] at OB;have fr:X.A.frames=some (X.env::X.outer):=by rw[<- dn];exact I.ok.frames
 refine wpAny_leaves_onW fr nu OB λh' fl' up=>⟨C,H',⟨a,t,B,rfl,os.trans I.os,bare,fl',?_,fH,λh2 st BW=>?_⟩,q⟩
 ·cases z:X.s₀.heap.get? a with
  |none=>rfl
  |some o=>
   obtain⟨o',e'⟩:=I.base.there a o z (by rw[hex];simp);rw[fa] at e';cases e'
 ·obtain⟨un,ar⟩:=land h2 st<|up.trans BW;have J:=I.lZ (s':={ s' with heap:=h2 }) os un ar bare (λb z=>Z_ z<|by simp);have hb:=J.base;rw[hex] at hb;exact⟨hb,ar⟩
end
section
variable{X:Cx}{tf:TE}{fe:Zm}{pos:Pos}{e:Zm}{es:List Zm}{t:TA}{M:Xb->Sp->Prop}
end
end Rx
namespace Rk
open L2 _root_.Rd
structure aC (mg:Str->Option Xd):Prop where
 isinstance:mg "isinstance" = none
 int:mg "int" = none
 bool:mg "bool" = none
 str:mg "str" = none
 tuple:mg "tuple" = none
 list:mg "list" = none
 all:mg "all" = none
 len:mg "len" = none
 zip:mg "zip" = none
 enumerate:mg "enumerate" = none
 range:mg "range" = none
 max:mg "max" = none
 min:mg "min" = none
 sorted:mg "sorted" = none
 sum:mg "sum" = none
 set:mg "set" = none
 any:mg "any" = none
 reversed:mg "reversed" = none
 divmod:mg "divmod" = none
structure ot (K:Ws) (cs:List Xb) (R C:Xb) (wd:Str):Prop where
 by_:Rx.yp K C R
 ex:∃(bs:List Bool)(j:Nat),Rx.pS K C/\Zw (λc b=>Wy K (.ref C) (.ref c)=some b) cs bs/\Wy K (.ref C) (.type "ValueError")=some true/\bs.countP id=1/\bs[j]? = some true/\(∀m,m<j->bs[m]? = some false)/\xB[j]? = some wd
def Fn(u:Nat)(neg:Bool):R2:=λx y H Q=>∃c ps ds d,y=.ref c/\H c=some (.tup ps)/\aP H ps ds/\Dat H x d/\u+d.depth<cLine/\Q (.bl<|if neg then !(ds.any λe=>Qy e d) else ds.any λe=>Qy e d) H
def QAE:aI X (Xl .In) (Fn X.A.in1.units false):=QAF
end Rk
namespace Rx
open PySem.Calls L2
section
variable{P:QB}{w:Jh}{K:Ws}{mg:Str->Option Xd}{base:ZF}
def F9{st:Zo}(F:iw K x qual st f fd)(S:Yx N ps<|Q4 st)(len:∀vs H Q E,sp vs H Q E->vs.length=ps.length)
  (XL:∀(ao:Xd)(A:Jo)(outer:List Env)(s:Xe)(H:Hp)(vs:List V)(Q:VK)(E:XK),az k (A.deeper<|envOfC qual (Q4 st) s.heap.objs.size f ao)->sp vs H Q E ->
   ∃t,aV (bP (aY P w) P w K mg base N qual (Q4 st) f ao A outer s H E) (Yk st) t/\t { nx:=λ_ H'=>Q .aH H',rt:=Q } (start N vs) H):aO P w K mg base (aY P w) (k+1) f fd ps sp:=by
 obtain⟨oc,od,kV,doc,pm,an,ao,ct,oC,rfl,lk,bG⟩:=F.ex;exact QBr lk bG S len λA outer s H vs Q E hr ba=>XL ao A outer s H vs Q E hr ba
end
end Rx
namespace Rk
open L2 _root_.Rd
section
variable{X:Cx}{is js:List Nat}
end
def handled{K:Ws}(o:ot K cs R C wd){σ:L2.St}(hi:i < σ.length)(k:∀H',ag H1 H'->Q (.str wd) H') :
  Rx.yp K C R/\∀a,H1 a=none->(ZM (Yu i) bD) (σ.set i<|some<|.ref a) (upd H1 a<|Rx.qQ a C) λvs H2=>xA K cs vs H2 Q E0:=by
 refine⟨o.by_,λa ha=>?_⟩;obtain⟨bs,j,hx,pb,eV,hc,hj,hm,hw⟩:=o.ex;exact⟨_,EU hi,a,C,bs,j,wd,rfl,af,hx,pb,eV,hc,hj,hm,hw,λH2 s2=>k H2<|(JA ha).trans s2⟩
def QFw(t:TS):TS:=λD σ H=>∃R:L2.St->Hp->Prop,t { D with nx:=R } σ H/\∀σ' H',R σ' H'->D.nx σ' H'
def IU{st:Zo}(h:PS X st t):PS X st (QFw t):=by
 intro XI s σ H D I q;obtain⟨R,q1,q2⟩:=q;refine aD (h XI s σ H _ I q1) λf s' z=>?_
 cases f with
 |next=>
  obtain⟨σ',H',J,r⟩:=z;exact⟨σ',H',J,q2 σ' H' r⟩
 |brk=>exact z
 |cont=>exact z
 |ret u=>exact z
end Rk
namespace L2
section
variable{prog:QB}{w:Jh}{A:Jo}{E:Xd->Xe->Prop}{s:Xe}
end
section
variable{X:Cx}
def O5(K:Ws):List V->Hp->VK->Prop:=λxs H Q=>∃p ys,xs=[.ref p]/\(aA K H p ys∨aM K H p ys)/\Q (.int ys.length) H
def Ig:List V->Hp->VK->Prop:=λxs H Q=>(∃i,xs=[.int i]/\Q (.int i) H)∨∃k,xs=[.bl k]/\Q (.int<|if k then 1 else 0) H
def QB3:Xm "sum" = some (.builtin "sum"):=by decide
def l8:Xm "any" = some (.builtin "any"):=by decide
def Bh:Xm "sorted" = some (.builtin "sorted"):=by decide
def O9(K:Ws):List V->Hp->VK->Prop:=λxs H Q=>∃(p:Xb)(ns:List Int),xs=[.ref p]/\aA K H p (ns.map V.int)/\Q (.int ns.sum) H
def iC(i j:Int):Prop:=∃k:Nat,k<=1000000/\i.natAbs<2^k/\j.natAbs<2^k
def Tr(h:i.natAbs<2^k):Zp i<=k:=by
 unfold Zp;split
 ·exact Q9 _
 ·rename_i z
  have hz:i.natAbs≠0:=by
   intro q;apply z
   have:i=0:=by omega
   subst this;rfl
  have:=(ID hz).mpr h;omega
def iC.ok(h:iC i j):IntMulOk i j:=by
 obtain⟨k,hk,h1,h2⟩:=h;have a:=Tr h1;have b:=Tr h2;have c:Qg5 (Zp i+Zp j:Nat)=false:=by
  unfold Qg5;rw[X'];have:bitsLine=134217728:=by decide
  omega
 intro z;rw[Js] at z;have z2:=z.2;have e:((Zp i+Zp j:Nat):Int)=(Zp i:Int)+(Zp j:Int):=by omega
 rw[e] at c;rw[c] at z2;cases z2
def Qw7:aI X (Xr .Mult) (rI iC λi j=>.int<|i*j):=v_ λ_ _ _ _ _ _ _ hc q=>mul_int q hc.ok
def QtA:QFm X (qZ X.K):=by
 intro XI s σ H o i ov iv Q I ro ri h;obtain⟨p,xs,k,z,rfl,rfl,hq,he,q⟩:=h;cases ro;obtain⟨t,rfl⟩:=ri;obtain⟨ah,r,pl,hz⟩:=I.list hq;obtain⟨j,h1,h2,h3,h4,h5⟩:=DK he;obtain⟨w,ew,gr⟩:=r.get h2;have hl:=r.length;have hn:=xo;have fin:EP X XI σ Q w s:=⟨z,H,I,gr,q⟩;by_cases h0:0<=k
 ·have hj:k.toNat=j:=by
   rw[C5 h0 h5] at h1;exact QL h1
  exact wpAny_getItem_list pl.isList h0 (by omega) (by rw[hj];simpa using ew) fin
 ·have hj:(k+ah.toArray.size).toNat=j:=by
   rw[Dm (by omega) h4] at h1;rw[Qm,<- hl];exact QL h1
  exact S6 pl.isList (by omega) (by rw[Qm]<;>omega) (by omega) (by rw[hj];simpa using ew) fin
def Qp4(hc:X.calm=true):aG X (.builtin "sum") (O9 X.K):=by
 intro XI s σ H xs us Q I r h;obtain⟨p,ns,rfl,hp,q⟩:=h;obtain⟨u,rfl,ru⟩:=vals1 r;cases ru;obtain⟨ah,rv,pl,hz⟩:=I.list hp;have hi:=intsAre_of rv;obtain⟨ys,hx⟩:=hi.allInts.items;have oN:=hx ▸ pl.isList;refine sum_intListG (I.ok.hd hc) oN λh' tk t' hk=>?_
 have e1:ns=ys.toList.map (·.1):=by
  rw[<- nums_intItems,<- hx];exact(hi.numsOf).symm
 have e2:preSum (numAt ys) ys.size=ns.sum:=by
  rw[preSum_eq,MH<|by simp,e1]
 rw[e2];exact⟨.int _,H,I.kept hk,⟨_,rfl⟩,q⟩
end
end L2
namespace Rk
open L2 _root_.Rd
def QEN(u:Nat):R2:=λx y H Q=>∃dx dy,Dat H x dx/\Dat H y dy/\u+min dx.depth dy.depth<cLine/\Q (.bl<|!Qy dx dy) H
def Aq:aI X (Xl .NotEq) (QEN X.A.units):=QAC
def QES(u:Nat):R2:=λx y H Q=>∃dx dy,Dat H x dx/\Dat H y dy/\u+min dx.depth dy.depth<cLine/\Q (.bl<|Qy dx dy) H
def Sn:aI X (Xl .Eq) (QES X.A.units):=QAH
def QoI:aI X (Xl .NotIn) (Fn X.A.in1.units true):=QoJ
end Rk
namespace Rx
open PySem.Calls L2
end Rx
namespace Rk
open L2 _root_.Rd
def AR(h:k<n):jx n (k:Nat)=some k:=by
 unfold jx;rw[X9<|by omega,X9<|by omega];simp
end Rk
namespace HT
section
open PySem.SeqAt
open PySem.AutoSeq1 (wpAny_loadPart')
open PySem.MeetsSeq PySem.MeetsSeq2 PySem.MeetsSeq3
end
section
variable{prog:QB}{w:Jh}{A:Jo}{E:Xd->Xe->Prop}{s:Xe}
end
end HT
namespace L2
def O8(K:Ws):V->Option Int->Option Int->Hp->VK->Prop:=λx lo hi H Q=>∃a xs,x=.ref a/\aA K H a xs/\∀p H',ag H H'->H p=none->H' p=some (.lst<|jI xs lo hi)->Q (.ref p) H'
def V6:nJ X (O8 X.K):=by
 intro XI s σ H x v vl vu lo hi sl Q I rx hs pl pu h;obtain⟨a,xs,e,hx,q⟩:=h;exact Qwc XI s σ H x v vl vu lo hi sl Q I rx hs pl pu ⟨a,xs,e,hx,λp hp=>q p _ (JA hp) hp af⟩
def ie(xs:List V):(jI xs (some<|-1) none).length<=1:=by
 unfold jI;rw[yd,yb];have h2:xs.length - 1<=HT.aT xs.length 0 (some<|-1):=by
  show xs.length - 1<=(if(-1:Int)<0 then((-1:Int)+xs.length).toNat else min (-1:Int).toNat xs.length);rw[X9<|by decide];omega
 omega
end L2
namespace Rk
open L2 _root_.Rd
end Rk
namespace L2
section
variable{X:Cx}
def Dy(K:Ws):List V->Hp->VK->Prop:=λxs H Q=>∃p ys,xs=[.ref p]/\((aA K H p ys/\∀l H',ag H H'->H l=none->H' l=some (.tup ys)->Q (.ref l) H')∨(aM K H p ys/\Q (.ref p) H))
def JH:aG X (.type "tuple") (Dy X.K):=by
 intro XI s σ H xs us Q I r h;obtain⟨p,ys,e,h⟩:=h;refine QhE XI s σ H xs us Q I r ⟨p,ys,e,?_⟩;rcases h with⟨h1,h2⟩ | h
 ·exact .inl ⟨h1,λl hl=>h2 l _ (JA hl) hl af⟩
 ·exact .inr h
def U7(K:Ws):List V->Hp->VK->Prop:=λxs H Q=>∃p ys,xs=[.ref p]/\(aA K H p ys∨aM K H p ys)/\∀l H',ag H H'->H l=none->H' l=some (.lst ys)->Q (.ref l) H'
def EL:aG X (.type "list") (U7 X.K):=by
 intro XI s σ H xs us Q I r h;obtain⟨p,ys,e,h1,h2⟩:=h;exact Qi6 XI s σ H xs us Q I r ⟨p,ys,e,h1,λl hl=>h2 l _ (JA hl) hl af⟩
def Ih:R2:=λx y H Q=>∃l k xs,x=.ref l/\y=.int k/\H l=some (.lst xs) /\ -(2^63)<=k/\k<2^63/\xs.length*k.toNat<=1000000/\∀p H',ag H H'->H p=none->H' p=some (.lst (Jc k.toNat xs).flatten)->Q (.ref p) H'
def Qw5:aI X (Xr .Mult) Ih:=by
 intro XI s σ H x y v u Q I rx ry h;obtain⟨l,k,xs,e1,e2,h1,h2,h3,h4,q⟩:=h;exact Ss XI s σ H x y v u Q I rx ry ⟨l,k,xs,e1,e2,h1,h2,h3,QK h4<|by decide,λp hp=>q p _ (JA hp) hp af⟩
end
end L2
namespace Rk
open L2 _root_.Rd
end Rk
namespace L2
section
variable{X:Cx}
end
end L2
namespace Rk
open L2 _root_.Rd
end Rk
namespace Rx
open PySem.Calls L2
abbrev wL:=L2.Ends->L2.St->Hp->(Xb->Hp->Prop)->Prop
def PSX(X:Cx)(st:Zo)(t:wL):Prop:=∀(XI:List (Xb×Xo))(s:Xe)(σ:L2.St)(H:Hp)(D:L2.Ends)(Ex:Xb->Hp->Prop),Inv X XI σ H s->t D σ H Ex ->
 Xi (Xg X.prog X.w) X.A (exec st X.env) (SP X XI D) (XP X XI λσ1 C H1=>σ1=σ/\Ex C H1) s
def QFl(X:Cx)(yv:List Zo)(t:wL):Prop:=∀(XI:List (Xb×Xo))(s:Xe)(σ:L2.St)(H:Hp)(D:L2.Ends)(Ex:Xb->Hp->Prop),Inv X XI σ H s->t D σ H Ex ->
 Xi (Xg X.prog X.w) X.A (execs yv X.env) (SP X XI D) (XP X XI λσ1 C H1=>σ1=σ/\Ex C H1) s
section
variable{X:Cx}{e:Zm}{st:Zo}{pos:Pos}{te:TX}{t u:wL}{tc:TT}{c:Zm}{a b:List Zo}
def Qr9(h1:PSX X st t):QFl X [st] t:=by
 intro XI s σ H D Ex I h;refine D0<|aD (h1 XI s σ H D Ex I h) λf s1 q=>?_;cases f with
 |next=>exact yi q
 |ret v=>exact q
 |brk=>exact q
 |cont=>exact q
end
def QDl(K:Ws)(R:Xb)(i:Nat)(tb:wL)(th:TE):TS:=λD σ H=>tb D σ H λC H1=>yp K C R/\∀a,H1 a=none->th (σ.set i<|some<|.ref a) (upd H1 a<|qQ a C) D.rt
section
variable{X:Cx}{R:Xb}{i:Nat}{n r:Str}{body:List Zo}{hx:Zm}{tb:wL}{th:TE}{np hp zj pos:Pos}
def Qwy(dn:X.stack=X.env::X.outer)(nu:X.env.frame=some X.env.locals)(hc:QFl X body tb)(hN:X.N.Nodup)(hi:X.N[i]? = some n)(hl:X.env.scope.names.lookup n=some .local)
  (hg:Gl X r)(hm:X.mg r=some (.ref R))(hh:∀e,PE (Gg X e) hx th)(hd:(r == ("__debug__" : Str))=false:=by decide) :
  PS X (.Try body [.ExceptHandler (some<|.Name r np) (some n) [.Return (some hx) hp] zj] [] [] pos) (QDl X.K R i tb th):=by
 intro XI s σ H D I h;refine wpAny_Try_except<|Xk (hc XI s σ H D _ I h) (λf s1 q=>?_) λe s1 z=>?_
 ·cases f with
  |next=>exact yi q
  |ret v=>exact q
  |brk=>exact q
  |cont=>exact q
 obtain⟨σ1,C,H1,a,t,B,rfl,fl,fH,f0,fp,land,eσ,bc,q⟩:=z;subst eσ;rw[dn] at fl;have fr:X.A.frames=some (X.env::X.outer):=by rw[<- dn];exact I.ok.frames
 refine wpAny_looks_onW fr nu fl λh4 zx Nw=>(wpAny_landsW zx λh5 G_ Nv=>?_)
 have I5:=land h5 s1.toks G_.1<|Nw.trans Nv;have x5:fA a C h5:=by
  obtain⟨oe,vs,e1,e2,e3,_⟩:=G_.first
  exact⟨oe,vs,e1,e2,e3⟩
 refine wpAny_handleBy_cons (codeAny_handlers_test<|xE (TN I5 _) hg hm ?_ hd) nofun;refine Qmj I5.bX x5 bc ?_
 refine codeAny_handlers_suite_as<|lands_againW G_ λh6 OA up6=>?_;have I6:=land h6 s1.toks OA.1<|(Nw.trans Nv).trans up6;have x6:fA a C h6:=by
  obtain⟨oe,vs,e1,e2,e3,_⟩:=OA.first
  exact⟨oe,vs,e1,e2,e3⟩
 have I7:=Qpm I6 fH f0 fp x6;refine xV I7 hN hi (QM hl) (show RelV (.ref a) (.ref a) from rfl) (λs8 I8=>(D0<|LB<|Xk (hh (.ref a) XI s8 _ _ _ (TN I8 _)<|q a fH) (λv s9 ⟨x,H9,I9,r9,q9⟩=>?_) λ_ _ z=>z.elim))<|.inr hl;have J9:=Qtr I.ok I9;obtain⟨m,hn,hmm⟩:=id J9.loc;refine wpAny_nameGoes_keeps hl hn (by rw[I.ok.kind];rfl) λh' v' GH wx=>?_
 exact⟨x,_,H9,Qts J9 hN hi hmm GH wx,r9,q9⟩
end
end Rx
namespace L2
def aO.ex{P:QB}{w:Jh}{K:Ws}{mg:Str->Option Xd}{base:ZF}{CX:iV}{k:Nat}{f:Xb}{fd:Z3}{ps:List Str}{sp:Sp}(F:aO P w K mg base ax k f fd ps sp) :
  aO P w K mg base CX k f fd ps sp:=
 ⟨F.len,λA outer s H args us vs Q E hr he hb hv hs=>sv (F.run A outer s H args us vs Q E hr he hb hv hs) λr s' z=>by
  cases r with
  |error e=>exact Jr z
  |ok fl=>cases fl<;>exact z⟩
section
variable{X:Cx}
end
end L2
namespace Rk
open L2 _root_.Rd
end Rk
namespace Dl
open L2 _root_.Rd Rk
def zU(kvs:List (Int×Int)):List (Key×V):=kvs.map λp=>(Ze p.1,V.int p.2)
def Cr(kvs:List (Int×Int)):List (Xc×Xc):=kvs.map λp=>(Qp p.1,Qp p.2)
mutual
inductive DA (A:Xb->Prop) (H:Hp):V->Xc->Prop
 |aH:DA A H .aH .none
 |bl (b:Bool):DA A H (.bl b)<|.bool b
 |int (i:Int):DA A H (.int i)<|.int i
 |str (x:Str):Ji (.str x)=true->DA A H (.str x) (.str x)
 |tup {a:Xb} {xs:List V} {ds:List Xc}:¬A a->H a=some (.tup xs)->aJ A H xs ds->DA A H (.ref a) (.tuple ds)
 |lst {a:Xb} {xs:List V} {ds:List Xc}:¬A a->H a=some (.lst xs)->aJ A H xs ds->DA A H (.ref a) (.list ds)
 |gH {a:Xb} {kvs:List (Int×Int)} {ds:List (Xc×Xc)}:¬A a->H a=some (.dK<|zU kvs)->ds=Cr kvs->DA A H (.ref a) (.dict ds)
inductive aJ (A:Xb->Prop) (H:Hp):List V->List Xc->Prop
 |nil:aJ A H [] []
 |cons {x:V} {xs:List V} {d:Xc} {ds:List Xc}:DA A H x d->aJ A H xs ds->aJ A H (x::xs) (d::ds)
end
def DA.mv(q:DA A H x d)(k:∀a o,¬A a->H a=some o->H' a=some o)(m:∀a,A' a->A a∨H a=none):DA A' H' x d:=
 have f:∀{a o},¬A a->H a=some o->¬A' a:=λn e z=>(m _ z).elim n λz=>by rw[z] at e;cases e
 DA.rec (motive_1:=λx d _=>DA A' H' x d) (motive_2:=λxs ds _=>aJ A' H' xs ds) .aH .bl .int .str (λn e _ q=>.tup (f n e) (k _ _ n e) q) (λn e _ q=>.lst (f n e) (k _ _ n e) q) (λn e q=>.gH (f n e) (k _ _ n e) q) .nil (λ_ _ q qs=>.cons q qs) q
def aJ.mv(q:aJ A H x d)(k:∀a o,¬A a->H a=some o->H' a=some o)(m:∀a,A' a->A a∨H a=none):aJ A' H' x d:=
 have f:∀{a o},¬A a->H a=some o->¬A' a:=λn e z=>(m _ z).elim n λz=>by rw[z] at e;cases e
 aJ.rec (motive_1:=λx d _=>DA A' H' x d) (motive_2:=λxs ds _=>aJ A' H' xs ds) .aH .bl .int .str (λn e _ q=>.tup (f n e) (k _ _ n e) q) (λn e _ q=>.lst (f n e) (k _ _ n e) q) (λn e q=>.gH (f n e) (k _ _ n e) q) .nil (λ_ _ q qs=>.cons q qs) q
def DA.same(q:DA A H x d)(s:ag H H'):DA A H' x d:=q.mv (λa o _ e=>s a o e) λa z=>.inl z
def aJ.same(q:aJ A H x d)(s:ag H H'):aJ A H' x d:=q.mv (λa o _ e=>s a o e) λa z=>.inl z
def aJ.length{A:Xb->Prop}{H:Hp}:∀{xs:List V}{ds:List Xc},aJ A H xs ds->xs.length=ds.length
 |_,_,.nil=>rfl
 |_,_,.cons _ q=>by rw[Qz,Qz,q.length]
def aJ.get{xs:List V}{ds:List Xc}(h:aJ A H xs ds)(i:Nat)(d:Xc)(e:ds[i]? = some d):∃x,xs[i]? = some x/\DA A H x d:=by
 induction ds generalizing xs i with
 |nil=>simp at e
 |cons y ds ih=>
  cases h with
  |cons q qs=>
   cases i with
   |zero=>simp at e;subst e;exact⟨_,rfl,q⟩
   |succ i=>exact ih qs i (by simpa using e)
def aJ.app:∀{xs ys:List V}{ds es:List Xc},aJ A H xs ds->aJ A H ys es->aJ A H (xs++ys) (ds++es)
 |_,_,_,_,.nil,q=>q
 |_,_,_,_,.cons a b,q=>.cons a<|b.app q
def aJ.take{A:Xb->Prop}{H:Hp}{xs:List V}{ds:List Xc}(h:aJ A H xs ds)(n:Nat):aJ A H (xs.take n) (ds.take n):=by
 induction n generalizing xs ds with
 |zero=>exact .nil
 |succ n ih=>
  cases h with
  |nil=>exact .nil
  |cons a b=>exact .cons a<|ih b
def aJ.drop:∀{xs:List V}{ds:List Xc},aJ A H xs ds->∀n:Nat,aJ A H (xs.drop n) (ds.drop n)
 |_,_,.nil,n=>by rw[QCz,QCz];exact .nil
 |_,_,.cons a b,0=>.cons a b
 |_,_,.cons a b,n+1=>b.drop n
def aJ.set(q:DA A H x d):∀{xs:List V}{ds:List Xc},aJ A H xs ds->∀n:Nat,aJ A H (xs.set n x) (ds.set n d)
 |_,_,.nil,n=>.nil
 |_,_,.cons a b,0=>.cons q b
 |_,_,.cons a b,n+1=>.cons a<|b.set q n
mutual
def nd:Xc->Bool
 |.dict _=>false
 |.tuple ds=>gv ds
 |.list ds=>gv ds
 |_=>true
def gv:List Xc->Bool
 |[]=>true
 |d::ds=>nd d&&gv ds
end
def PZ(d:Xc)(x:V)(n:nd d=true)(q:DA A H x d):Dat H x d:=DA.rec (motive_1:=λx d _=>nd d=true->Dat H x d) (motive_2:=λxs ds _=>gv ds=true->aP H xs ds) (λ_=>.aH) (λb _=>.bl b) (λi _=>.int i) (λz c _=>.str z c) (λ_ e _ q n=>.tup e<|q n) (λ_ e _ q n=>.lst e<|q n) (λ_ _ _ n=>x_ n) (λ_=>.nil) (λ_ _ q qs n=>.cons (q (QH.mp n).1)<|qs (QH.mp n).2) q n
def xR(ds:List Xc)(xs:List V)(n:gv ds=true)(q:aJ A H xs ds):aP H xs ds:=aJ.rec (motive_1:=λx d _=>nd d=true->Dat H x d) (motive_2:=λxs ds _=>gv ds=true->aP H xs ds) (λ_=>.aH) (λb _=>.bl b) (λi _=>.int i) (λz c _=>.str z c) (λ_ e _ q n=>.tup e<|q n) (λ_ e _ q n=>.lst e<|q n) (λ_ _ _ n=>x_ n) (λ_=>.nil) (λ_ _ q qs n=>.cons (q (QH.mp n).1)<|qs (QH.mp n).2) q n
def KU:gv ds=true↔∀d∈ds,nd d=true:=by
 induction ds with
 |nil=>exact⟨(λ_ _ h=>nomatch h),λ_=>rfl⟩
 |cons d ds ih=>
  rw[show gv (d::ds)=(nd d&&gv ds) from rfl,QH,ih];constructor
  ·rintro⟨a,b⟩ e he;rcases Qt.mp he with z | z
   ·rw[z];exact a
   ·exact b e z
  ·intro h;exact⟨h d<|by simp,λe he=>h e<|by simp[he]⟩
def DP(A P:Xb->Prop)(H:Hp)(v:V)(d:Xc):Prop:=DA A H v d∨∃l xs ds,v=.ref l/\d=.list ds/\¬P l/\H l=some (.lst xs)/\aJ A H xs ds
def DP.dat(h:DP A P H v d)(n:nd d=true):Dat H v d:=by
 rcases h with h | ⟨l,xs,ds,rfl,rfl,_,e,q⟩
 ·exact PZ d v n h
 ·exact .lst e<|xR ds xs n q
def DP.list{A P:Xb->Prop}{H:Hp}{v:V}{ds:List Xc}(h:DP A P H v<|.list ds):∃l xs,v=.ref l/\H l=some (.lst xs)/\aJ A H xs ds:=by
 rcases h with h | ⟨l,xs,i',rfl,e,_,h2,q⟩
 ·cases h with | lst n e q=>exact⟨_,_,rfl,e,q⟩
 ·cases e;exact⟨l,xs,rfl,h2,q⟩
def DP.tuple{A P:Xb->Prop}{H:Hp}{v:V}{ds:List Xc}(h:DP A P H v<|.tuple ds):∃l xs,v=.ref l/\H l=some (.tup xs)/\aJ A H xs ds:=by
 rcases h with h | ⟨l,xs,i',rfl,e,_⟩
 ·cases h with | tup n e q=>exact⟨_,_,rfl,e,q⟩
 ·cases e
def DP.int{A P:Xb->Prop}{H:Hp}{v:V}{i:Int}(h:DP A P H v<|.int i):v=.int i:=by
 rcases h with h | ⟨l,xs,i',rfl,e,_⟩
 ·cases h;rfl
 ·cases e
def DP.bool{A P:Xb->Prop}{H:Hp}{v:V}{i:Bool}(h:DP A P H v<|.bool i):v=.bl i:=by
 rcases h with h | ⟨l,xs,i',rfl,e,_⟩
 ·cases h;rfl
 ·cases e
def DP.none{A P:Xb->Prop}{H:Hp}{v:V}(h:DP A P H v .none):v=.aH:=by
 rcases h with h | ⟨l,xs,i',rfl,e,_⟩
 ·cases h;rfl
 ·cases e
def DP.str{A P:Xb->Prop}{H:Hp}{v:V}{x:Str}(h:DP A P H v<|.str x):v=.str x/\Ji (.str x)=true:=by
 rcases h with h | ⟨l,xs,i',rfl,e,_⟩
 ·cases h with | str _ c=>exact⟨rfl,c⟩
 ·cases e
inductive Sl where
 |no | eJ | oB
 |v (d:Xc)
 |own (ds:List Xc)
 |pk (ds:List Xc)
abbrev aS:=List Sl
structure Fm where
 H0:Hp
 A0:Xb->Prop
 pt:Xb->Prop
def MQ(σ:L2.St)(δ:aS)(i:Nat)(a:Xb):Prop:=σ[i]? = some (some<|.ref a)/\(δ[i]? = some .eJ∨∃ds,δ[i]? = some (.own ds))
def Av(F:Fm)(σ:L2.St)(δ:aS)(a:Xb):Prop:=F.A0 a∨∃i,MQ σ δ i a
def YC(σ:L2.St)(δ:aS)(a:Xb):Prop:=∃i:Nat,σ[i]? = some (some<|.ref a)/\δ[i]? = some .eJ
def QFj(K:Ws)(F:Fm)(H:Hp)(A:Xb->Prop)(o:Option V):Sl->Prop
 |.no=>True
 |.v d=>∃v,o=some v/\DA A H v d
 |.own ds=>∃l xs,o=some (.ref l)/\H l=some (.lst xs)/\aJ A H xs ds/\F.H0 l=none
 |.pk ds=>∃l xs,o=some (.ref l)/\H l=some (.lst xs)/\aJ A H xs ds/\∃ys,F.H0 l=some (.lst ys)/\¬F.pt l
 |.eJ=>∃p n,o=some (.ref p)/\H p=some (.lst [.int n])/\(F.pt p∨F.H0 p=none)
 |.oB=>∃a ns,o=some (.ref a)/\aA K F.H0 a ((ns:List Int).map V.int)/\¬F.pt a/\ns.length<=63
structure Rel (K:Ws) (F:Fm) (σ:L2.St) (H:Hp) (δ:aS):Prop where
 len:σ.length=δ.length
 i_:∀a,F.A0 a->∃xs,H a=some (.lst xs)
 cz:∀a,F.A0 a->∃xs,F.H0 a=some (.lst xs)
 iE:∀p,F.pt p->F.A0 p/\∃n,H p=some (.lst [.int n])
 kx:∀b o,¬F.pt b->F.H0 b=some o->H b=some o
 sl:∀(i:Nat) o x,σ[i]? = some o->δ[i]? = some x->QFj K F H (Av F σ δ) o x
 inj:∀(i j:Nat) a ds,δ[i]? = some (.own ds)->σ[i]? = some (some<|.ref a)->MQ σ δ j a->i=j
def Kp(σ:L2.St)(δ:aS)(H H':Hp):Prop:=(∀b o,¬YC σ δ b->H b=some o->H' b=some o)/\∀b,YC σ δ b->∃n,H' b=some (.lst [.int n])
def a8(F:Fm)(σ:L2.St)(H:Hp)(δ:aS)(σ':L2.St)(H':Hp)(δ':aS):Prop:=(∀b o,¬Av F σ δ b->H b=some o->H' b=some o)/\∀b,Av F σ' δ' b->Av F σ δ b∨H b=none
def Ke(F:Fm)(H':Hp):Prop:=(∀b o,¬F.pt b->F.H0 b=some o->H' b=some o)/\∀p,F.pt p->∃n,H' p=some (.lst [.int n])
def g8(h:YC σ δ a):Av F σ δ a:=let ⟨i,h1,h2⟩:=h;.inr ⟨i,h1,.inl h2⟩
def Rel.ke{K:Ws}(r:Rel K F σ H δ):Ke F H:=⟨r.kx,λp hp=>(r.iE p hp).2⟩
def Rel.fI{K:Ws}(r:Rel K F σ H δ)(h:Av F σ δ a):∃xs,H a=some (.lst xs):=by
 rcases h with h | ⟨i,h1,h2⟩
 ·exact r.i_ a h
 ·rcases h2 with h2 | ⟨ds,h2⟩
  ·obtain⟨p,n,e,h,_⟩:=r.sl i _ _ h1 h2;cases e;exact⟨_,h⟩
  ·obtain⟨l,xs,e,h,_⟩:=r.sl i _ _ h1 h2;cases e;exact⟨_,h⟩
def Kp.refl{K:Ws}(r:Rel K F σ H δ):Kp σ δ H H:=⟨λ_ _ _ e=>e,λb ⟨i,h1,h2⟩=>by
 obtain⟨p,n,e,h,_⟩:=r.sl i _ _ h1 h2;cases e;exact⟨n,h⟩⟩
def Kp.trans(a:Kp σ δ H H1)(b:Kp σ δ H1 H2):Kp σ δ H H2:=⟨λc o n e=>b.1 c o n<|a.1 c o n e,b.2⟩
def Kp.same{K:Ws}(r:Rel K F σ H δ)(s:ag H H'):Kp σ δ H H':=⟨λb o _ e=>s b o e,λb hb=>let ⟨n,h⟩:=(Kp.refl r).2 b hb;⟨n,s _ _ h⟩⟩
def Kp.da(k:Kp σ δ H H')(h:DA (Av F σ δ) H v d):DA (Av F σ δ) H' v d:=h.mv (λa o n e=>k.1 a o (λz=>n<|g8 z) e) λa z=>.inl z
def Kp.oY(k:Kp σ δ H H')(h:aJ (Av F σ δ) H v d):aJ (Av F σ δ) H' v d:=h.mv (λa o n e=>k.1 a o (λz=>n<|g8 z) e) λa z=>.inl z
def Kp.dp(k:Kp σ δ H H')(h:DP (Av F σ δ) (YC σ δ) H v d):DP (Av F σ δ) (YC σ δ) H' v d:=by
 rcases h with h | ⟨l,xs,ds,e1,e2,n,e,q⟩
 ·exact .inl<|k.da h
 ·exact .inr ⟨l,xs,ds,e1,e2,n,k.1 _ _ n e,k.oY q⟩
def Rel.a7{K:Ws}(r:Rel K F σ H δ){i:Nat}(h:δ[i]? = some (.own ds))(e:σ[i]? = some (some<|.ref l)):¬YC σ δ l:=by
 rintro⟨j,h1,h2⟩;have:=r.inj i j l _ h e ⟨h1,.inl h2⟩;subst this;rw[h] at h2;cases h2
def Rel.sY{K:Ws}(r:Rel K F σ H δ)(k:Kp σ δ H H')(hp:F.pt p):∃n,H' p=some (.lst [.int n]):=by
 by_cases z:YC σ δ p
 ·exact k.2 p z
 ·obtain⟨n,e⟩:=(r.iE p hp).2;exact⟨n,k.1 _ _ z e⟩
def Rel.kp{K:Ws}(r:Rel K F σ H δ)(k:Kp σ δ H H'):Rel K F σ H' δ where
 len:=r.len
 i_:=λa ha=>by
  by_cases z:YC σ δ a
  ·exact⟨_,(k.2 a z).choose_spec⟩
  ·obtain⟨xs,e⟩:=r.i_ a ha;exact⟨xs,k.1 _ _ z e⟩
 cz:=r.cz
 iE:=λp hp=>⟨(r.iE p hp).1,r.sY k hp⟩
 kx:=λb o n e=>by
  by_cases z:YC σ δ b
  ·obtain⟨i,h1,h2⟩:=z;obtain⟨p,m,e1,h,q⟩:=r.sl i _ _ h1 h2;cases e1;rcases q with q | q
   ·exact Z_ q n
   ·rw[q] at e;cases e
  ·exact k.1 _ _ z<|r.kx b o n e
 sl:=λi o x h1 h2=>by
  have h:=r.sl i o x h1 h2;cases x with
  |no=>trivial
  |v d=>obtain⟨v,e,q⟩:=h;exact⟨v,e,k.da q⟩
  |own ds=>obtain⟨l,xs,rfl,e,q,f⟩:=h;exact⟨l,xs,rfl,k.1 _ _ (r.a7 h2 h1) e,k.oY q,f⟩
  |pk ds=>
   obtain⟨l,xs,rfl,e,q,ys,f,f2⟩:=h;refine⟨l,xs,rfl,k.1 _ _ ?_ e,k.oY q,ys,f,f2⟩;rintro⟨j,j1,j2⟩;obtain⟨p,m,e1,_,w⟩:=r.sl j _ _ j1 j2;cases e1;rcases w with w | w
   ·exact f2 w
   ·rw[w] at f;cases f
  |eJ=>
   obtain⟨p,n,rfl,e,q⟩:=h;obtain⟨m,e'⟩:=k.2 p ⟨i,h1,h2⟩;exact⟨p,m,rfl,e',q⟩
  |oB=>exact h
 inj:=r.inj
def Rel.same{K:Ws}(r:Rel K F σ H δ)(s:ag H H'):Rel K F σ H' δ:=r.kp<|Kp.same r s
def a8.refl:a8 F σ H δ σ H δ:=⟨λ_ _ _ e=>e,λ_ z=>.inl z⟩
def a8.trans(a:a8 F σ H δ σ1 H1 δ1)(b:a8 F σ1 H1 δ1 σ2 H2 δ2):a8 F σ H δ σ2 H2 δ2:=by
 refine⟨λc o n e=>?_,λc z=>?_⟩
 ·refine b.1 c o (λz=>?_)<|a.1 c o n e;rcases a.2 c z with q | q
  ·exact n q
  ·rw[q] at e;cases e
 ·rcases b.2 c z with q | q
  ·exact a.2 c q
  ·by_cases y:Av F σ δ c
   ·exact .inl y
   ·right
    cases e:H c with
    |none=>rfl
    |some o=>rw[a.1 c o y e] at q;cases q
def a8.kp(k:Kp σ δ H H'):a8 F σ H δ σ H' δ:=⟨λb o n e=>k.1 b o (λz=>n<|g8 z) e,λ_ z=>.inl z⟩
def a8.da(k:a8 F σ H δ σ' H' δ')(h:DA (Av F σ δ) H v d):DA (Av F σ' δ') H' v d:=h.mv k.1 k.2
end Dl


namespace Dl
open L2 _root_.Rd Rk
abbrev XP:=Xb->Prop
abbrev DE:=aS->(Xc->Prop)->XP->Prop
abbrev DT:=aS->(Bool->Prop)->XP->Prop
abbrev kj:=aS->(List Xc->Prop)->XP->Prop
abbrev lg:=aS->(List Sl->Prop)->XP->Prop
inductive Md where | D | P | F
def ki(H H':Hp)(v:V):Prop:=∀l,v=.ref l->(∃xs,H' l=some (.lst xs))->H l=none
def CF(m:Md)(F:Fm)(σ:L2.St)(δ:aS)(H H':Hp)(v:V)(d:Xc):Prop:=
 match m with
 |.D=>DA (Av F σ δ) H' v d
 |.P=>DP (Av F σ δ) (YC σ δ) H' v d
 |.F=>DA (Av F σ δ) H' v d/\ki H H' v
def Out(F:Fm)(E:XK)(EX:XP):Prop:=∀C,EX C->∀H',Ke F H'->E (.ref C) none H'
def tX(m:Md)(K:Ws)(E:XK)(w:DE):TE:=λσ H Q=>∃(F:Fm)(δ:aS)(R:Xc->Prop)(EX:XP),Rel K F σ H δ/\w δ R EX/\(∀d,R d->∀v H',Rel K F σ H' δ->Kp σ δ H H'->CF m F σ δ H H' v d->Q v H')/\Out F E EX
def tT(K:Ws)(E:XK)(w:DT):TT:=λσ H Q=>∃(F:Fm)(δ:aS)(R:Bool->Prop)(EX:XP),Rel K F σ H δ/\w δ R EX/\(∀b,R b->∀H',Rel K F σ H' δ->Kp σ δ H H'->Q b H')/\Out F E EX
def VD(m:Md)(A P:Xb->Prop)(H:Hp)(v:V)(d:Xc):Prop:=
 match m with
 |.P=>DP A P H v d
 |_=>DA A H v d
def jt(n:Nat)(m:Md)(K:Ws)(E:XK)(w:kj):TA:=λσ H Q=>∃(F:Fm)(δ:aS)(R:List Xc->Prop)(EX:XP),Rel K F σ H δ/\w δ R EX/\(∀ds,R ds->ds.length=n->∀vs H',Rel K F σ H' δ->Kp σ δ H H'->Zw (VD m (Av F σ δ) (YC σ δ) H') vs ds->Q vs H')/\Out F E EX
def uG(A pt:Xb->Prop)(H:Hp)(v:V):Sl->Prop
 |.v d=>DA A H v d
 |.eJ=>∃p,v=.ref p/\pt p
 |_=>False
def oz(K:Ws)(E:XK)(w:lg):TA:=λσ H Q=>∃(F:Fm)(δ:aS)(R:List Sl->Prop)(EX:XP),Rel K F σ H δ/\w δ R EX/\(∀ds,R ds->∀vs H',Rel K F σ H' δ->Kp σ δ H H'->Zw (uG (Av F σ δ) (YC σ δ) H') vs ds->Q vs H')/\Out F E EX
def Kp.vd(k:Kp σ δ H H')(h:VD m (Av F σ δ) (YC σ δ) H v d):VD m (Av F σ δ) (YC σ δ) H' v d:=by
 cases m
 ·exact k.da h
 ·exact k.dp h
 ·exact k.da h
def Kp.arg(k:Kp σ δ H H')(h:uG (Av F σ δ) (YC σ δ) H v d):uG (Av F σ δ) (YC σ δ) H' v d:=by
 cases d with
 |v d=>exact k.da h
 |eJ=>exact h
 |_=>exact h.elim
def jg(H:Hp):Prop:=∀a xs,H a=some (.lst xs)∨H a=some (.tup xs)->xs.length<=Xj
section
variable{X:Cx}{E:XK}
def Inv.j3(I:Inv X XI σ H s):jg H:=λa xs h=>by
 rcases h with h | h
 ·exact(I.ar a _ h).1
 ·exact(I.ar a _ h).1
def PE.imp(h:PE X e t)(i:∀σ H Q,t' σ H Q->t σ H Q):PE X e t':=λXI s σ H Q I q=>h XI s σ H Q I<|i σ H Q q
def PT.imp(h:PT X e t)(i:∀σ H Q,t' σ H Q->t σ H Q):PT X e t':=λXI s σ H Q I q=>h XI s σ H Q I<|i σ H Q q
def PW.imp(h:PW X e t)(i:∀σ H Q,t' σ H Q->t σ H Q):PW X e t':=λwh XI s σ H Q I q=>h wh XI s σ H Q I<|i σ H Q q
def PA.imp(h:PA X e t)(i:∀σ H Q,t' σ H Q->t σ H Q):PA X e t':=λpos XI s σ H Q I q=>h pos XI s σ H Q I<|i σ H Q q
def aI.len(h:aI X f r):aI X f (λx y H Q=>jg H->r x y H Q):=λXI s σ H x y v u Q I rx ry q=>h XI s σ H x y v u Q I rx ry<|q<|Inv.j3 I
def aG.len(h:aG X f r):aG X f (λxs H Q=>jg H->r xs H Q):=λXI s σ H xs us Q I rx q=>h XI s σ H xs us Q I rx<|q<|Inv.j3 I
def iU.len(h:iU X r):iU X (λx y H Q=>jg H->r x y H Q):=λa b XI s σ H x y v u Q I rx ry q hs=>h a b XI s σ H x y v u Q I rx ry (q<|Inv.j3 I) hs
def aI.j0(h:aI X f r)(h':aI X f r'):aI X f (λx y H Q=>r x y H Q∨r' x y H Q):=aI.or h h'
def iU.j0(h:iU X r)(h':iU X r'):iU X (λx y H Q=>r x y H Q∨r' x y H Q):=λa b XI s σ H x y v u Q I rx ry q hs=>q.elim (λq=>h a b XI s σ H x y v u Q I rx ry q hs) λq=>h' a b XI s σ H x y v u Q I rx ry q hs
def nJ.j0(h:nJ X r)(h':nJ X r'):nJ X (λx a b H Q=>r x a b H Q∨r' x a b H Q):=λXI s σ H x v vl vu lo hi sl Q I rx hs pl pu q=>q.elim (h XI s σ H x v vl vu lo hi sl Q I rx hs pl pu)<|h' XI s σ H x v vl vu lo hi sl Q I rx hs pl pu
def toD(h:PE X e<|tX .F X.K E w):PE X e (tX .D X.K E w):=PE.imp h λσ H Q ⟨F,δ,R,EX,r,hw,k,o⟩=>⟨F,δ,R,EX,r,hw,λd hd v H' r' kp vk=>k d hd v H' r' kp vk.1,o⟩
def cN{e:Zm}{w:DE}(h:PE X e<|tX .D X.K E w):PE X e (tX .P X.K E w):=PE.imp h λσ H Q ⟨F,δ,R,EX,r,hw,k,o⟩=>⟨F,δ,R,EX,r,hw,λd hd v H' r' kp vk=>k d hd v H' r' kp<|.inl vk,o⟩
def QFp(h:PE X e<|tX .F X.K E w):PE X e (tX .P X.K E w):=cN<|toD h
def kI(i:Nat):DE:=λδ Q _=>match δ[i]? with
 |some (.v d)=>Q d
 |_=>False
def f_(i:Nat):DE:=λδ Q _=>match δ[i]? with
 |some (.v d)=>Q d
 |some (.own ds)=>Q<|.list ds
 |some (.pk ds)=>Q<|.list ds
 |_=>False
def dC(d:Xc):DE:=λ_ Q _=>Q d
def Rel.lt{K:Ws}(r:Rel K F σ H δ){i:Nat}(h:δ[i]? = some x):∃o,σ[i]? = some o:=by
 have:=(QR.mp h).1;exact⟨σ[i]'(by rw[r.len];exact this),Qc _⟩
def QAg(h:PE X e<|Yu i):PE X e (tX .D X.K E<|kI i):=PE.imp h λσ H Q ⟨F,δ,R,EX,r,hw,k,o⟩=>by
 unfold kI at hw;split at hw
 ·rename_i d hd
  obtain⟨x,hx⟩:=r.lt hd;obtain⟨v,rfl,q⟩:=r.sl i _ _ hx hd;exact⟨v,hx,k d hw v H r (Kp.refl r) q⟩
 ·exact hw.elim
def QDM(h:PE X e<|Yu i):PE X e (tX .P X.K E<|f_ i):=PE.imp h λσ H Q ⟨F,δ,R,EX,r,hw,k,o⟩=>by
 unfold f_ at hw;split at hw
 ·rename_i d hd
  obtain⟨x,hx⟩:=r.lt hd;obtain⟨v,rfl,q⟩:=r.sl i _ _ hx hd;exact⟨v,hx,k d hw v H r (Kp.refl r)<|.inl q⟩
 ·rename_i d hd
  obtain⟨x,hx⟩:=r.lt hd;obtain⟨l,xs,rfl,e,q,_⟩:=r.sl i _ _ hx hd;exact⟨_,hx,k _ hw _ H r (Kp.refl r)<|.inr ⟨l,xs,d,rfl,rfl,r.a7 hd hx,e,q⟩⟩
 ·rename_i d hd
  obtain⟨x,hx⟩:=r.lt hd;obtain⟨l,xs,rfl,e,q,ys,f,f2⟩:=r.sl i _ _ hx hd;refine⟨_,hx,k _ hw _ H r (Kp.refl r)<|.inr ⟨l,xs,d,rfl,rfl,?_,e,q⟩⟩;rintro⟨j,j1,j2⟩;obtain⟨p,m,e1,_,w⟩:=r.sl j _ _ j1 j2;cases e1;rcases w with w | w
  ·exact f2 w
  ·rw[w] at f;cases f
 ·exact hw.elim
def Bz(h:PE X e<|tC v)(q:∀(A:Xb->Prop)(H:Hp),DA A H v d):PE X e (tX .D X.K E<|dC d):=PE.imp h λσ H Q ⟨F,δ,R,EX,r,hw,k,o⟩=>k d hw v H r (Kp.refl r)<|q _ _
def QAp{j pos}:PE X (.Constant (.int i) j pos) (tX .D X.K E<|dC<|.int i):=Bz Je λ_ _=>.int i
def QDQ{j pos}:PE X (.Constant (.bool b) j pos) (tX .D X.K E<|dC<|.bool b):=Bz uJ λ_ _=>.bl b
def QAm{j pos}:PE X (.Constant .none j pos) (tX .D X.K E<|dC .none):=Bz xw λ_ _=>.aH
def QAj{j pos}(h:Ji (.str x)=true:=by decide):PE X (.Constant (.str x) j pos) (tX .D X.K E<|dC<|.str x):=Bz Zf λ_ _=>.str x h
def iS(r:R2)(rD:Xc->Xc->(Xc->Prop)->Prop):Prop:=∀(A P:Xb->Prop)(H:Hp)(x y:V)(d1 d2:Xc)(R:Xc->Prop)(Q:VK),jg H->(∀a,A a->∃xs,H a=some (.lst xs))->DP A P H x d1->DP A P H y d2->rD d1 d2 R ->
 (∀d,R d->∀v H',ag H H'->DA A H' v d->ki H H' v->Q v H')->r x y H Q
def o_(r:R2)(rD:Xc->Xc->(Xc->Prop)->Prop):Prop:=∀(A P:Xb->Prop)(H:Hp)(x y:V)(d1 d2:Xc)(R:Xc->Prop)(Q:VK),jg H->(∀a,A a->∃xs,H a=some (.lst xs))->DP A P H x d1->DP A P H y d2->rD d1 d2 R ->
 (∀d,R d->∀v H',ag H H'->DA A H' v d->Q v H')->r x y H Q
def eX(rD:Xc->Xc->(Xc->Prop)->Prop)(wa wb:DE):DE:=λδ Q EX=>wa δ (λd1=>wb δ (λd2=>rD d1 d2 Q) EX) EX
def KY{K:Ws}(hd:iS r rD)(σ:L2.St)(H:Hp)(Q:VK)(h:tX .F K E (eX rD wa wb) σ H Q) :
  cY (λx y H Q=>jg H->r x y H Q) (tX .P K E wa) (tX .P K E wb) σ H Q:=by
 obtain⟨F,δ,R,EX,rel,hw,k,o⟩:=h;refine⟨F,δ,_,EX,rel,hw,λd1 h1 x H1 aF bU x1=>⟨F,δ,_,EX,aF,h1,λd2 h2 y H2 aN bC y2=>λln=>(hd (Av F σ δ) (YC σ δ) H2 x y d1 d2 R Q ln (λa ha=>aN.fI ha) (bC.dp x1) y2 h2 λd hR v H' s q f=>?_),o⟩,o⟩;refine k d hR v H' (aN.same s) ((bU.trans bC).trans<|Kp.same aN s) ⟨q,λl e1 e2=>?_⟩;have f2:=f l e1 e2;cases e:H l with
 |none=>rfl
 |some ob=>
  by_cases z:YC σ δ l
  ·obtain⟨n,en⟩:=bC.2 l z;rw[en] at f2;cases f2
  ·rw[(bU.trans bC).1 _ _ z e] at f2;cases f2
def QsG{K:Ws}(hd:o_ r rD)(σ:L2.St)(H:Hp)(Q:VK)(h:tX .D K E (eX rD wa wb) σ H Q) :
  cY (λx y H Q=>jg H->r x y H Q) (tX .P K E wa) (tX .P K E wb) σ H Q:=by
 obtain⟨F,δ,R,EX,rel,hw,k,o⟩:=h;refine⟨F,δ,_,EX,rel,hw,λd1 h1 x H1 aF bU x1=>⟨F,δ,_,EX,aF,h1,λd2 h2 y H2 aN bC y2=>λln=>(hd (Av F σ δ) (YC σ δ) H2 x y d1 d2 R Q ln (λa ha=>aN.fI ha) (bC.dp x1) y2 h2 λd hR v H' s q=>?_),o⟩,o⟩;exact k d hR v H' (aN.same s) ((bU.trans bC).trans<|Kp.same aN s) q
variable{a b:Zm}{wa wb:DE}{pos:Pos}{r:R2}{rD:Xc->Xc->(Xc->Prop)->Prop}
def QAv(ho:aI X (Xr op) r)(hd:iS r rD)(ha:PE X a<|tX .P X.K E wa)(hb:PE X b<|tX .P X.K E wb):PE X (.BinOp a op b pos) (tX .F X.K E<|eX rD wa wb):=PE.imp (YR (aI.len ho) ha hb)<|KY hd
def QAt(ho:aI X (Xl op) r)(hd:iS r rD)(ha:PE X a<|tX .P X.K E wa)(hb:PE X b<|tX .P X.K E wb)(hm:behindInMarks op b=false):PE X (.Compare a [op] [b] pos) (tX .F X.K E<|eX rD wa wb):=PE.imp (xH (aI.len ho) ha hb hm)<|KY hd
def QDO(ho:iU X r)(hd:o_ r rD)(ha:PE X a<|tX .P X.K E wa)(hb:PE X b<|tX .P X.K E wb)(hs:Kx b):PE X (.Subscript a b pos) (tX .D X.K E<|eX rD wa wb):=PE.imp (Z8 (iU.len ho) ha hb hs)<|QsG hd
def gI(w:DE):DT:=λδ Q EX=>w δ (λd=>match d with
 |.bool k=>Q k
 |_=>False) EX
def QwK(ho:aI X (Xl op) r)(hd:iS r rD)(ha:PE X a<|tX .P X.K E wa)(hb:PE X b<|tX .P X.K E wb)(hm:behindInMarks op b=false):PT X (.Compare a [op] [b] pos) (tT X.K E<|gI<|eX rD wa wb):=by
 refine PT.imp (Yw (aI.len ho) ha hb hm) λσ H Q ⟨F,δ,R,EX,rel,hw,k,o⟩=>(KY hd σ H (λx H'=>∃k,x=.bl k/\Q k H') ⟨F,δ,_,EX,rel,hw,λd hd2 v H' aj kp vk=>?_,o⟩)
 split at hd2
 ·rename_i b
  have:v=.bl b:=by cases vk.1;rfl
  exact⟨b,this,k b hd2 H' aj kp⟩
 ·exact hd2.elim
def BX:Xc->Bool
 |.none=>false
 |.bool b=>b
 |.int i=>i != 0
 |.str y=>(y.length:Int) != 0
 |.list ds => !ds.isEmpty
 |.tuple ds => !ds.isEmpty
 |.dict ds => !ds.isEmpty
def strOk:Xc->Prop
 |.str y=>y.length<=Xj
 |_=>True
def lX(w:DE):DT:=λδ Q EX=>w δ (λd=>strOk d/\Q (BX d)) EX
def Qzp{K:Ws}(h:DP A P H v d)(hs:strOk d):MS K v H (BX d):=by
 have sq:∀{xs:List V}{ds:List Xc},aJ A H xs ds->(!ds.isEmpty) = !xs.isEmpty:=λq=>by cases q<;>rfl
 rcases h with h | ⟨l,xs,ds,rfl,rfl,_,e,q⟩
 ·cases h with
  |aH=>rfl
  |bl b=>rfl
  |int i=>rfl
  |str x c=>exact⟨hs,rfl⟩
  |@tup a xs ds n e q=>exact .inr<|.inl ⟨xs,aM.of e,sq q⟩
  |@lst a xs ds n e q=>exact .inl ⟨xs,aA.of e,sq q⟩
  |@gH a kvs ds n e q=>subst q;exact .inr (.inr ⟨zU kvs,e,by cases kvs<;>rfl⟩)
 ·exact .inl ⟨xs,aA.of e,sq q⟩
def QwI(h:PE X e<|tX .P X.K E w)(he:∀whole,isTrue e X.env whole=(do let v <- whole;Xw e.pos;Xs [v]<|XG v)):PT X e (tT X.K E<|lX w):=by
 exact PT.imp (DZ h he) λσ H Q ⟨F,δ,R,EX,rel,hw,k,o⟩=>⟨F,δ,_,EX,rel,hw,λd ⟨hs,hq⟩ v H' aj kp vk=>⟨BX d,Qzp vk hs,k _ hq H' aj kp⟩,o⟩
def QwH(h:PE X e<|tX .P X.K E w)(he:∀whole,isTrue e X.env whole=(do let v <- whole;Xw e.pos;Xs [v]<|XG v):=by intro _;rfl):PT X e (tT X.K E<|gI w):=by
 refine PT.imp (Dd h he) λσ H Q ⟨F,δ,R,EX,rel,hw,k,o⟩=>⟨F,δ,_,EX,rel,hw,λd hd v H' aj kp vk=>?_,o⟩
 split at hd
 ·exact⟨_,DP.bool vk,k _ hd H' aj kp⟩
 ·exact hd.elim
def MV(wa wb:DT):DT:=λδ Q EX=>wa δ (λc=>if c=true then wb δ Q EX else Q false) EX
def ON(wa wb:DT):DT:=λδ Q EX=>wa δ (λc=>if c=true then Q true else wb δ Q EX) EX
def QE7(wa:DT):DT:=λδ Q EX=>wa δ (λc=>Q (!c)) EX
def nU[Decidable c]{q':Prop}(h:if c then p else q)(h1:p->p')(h2:q->q'):if c then p' else q':=by
 split at h
 ·rw[X9<|by assumption];exact h1 h
 ·rw[X8<|by assumption];exact h2 h
variable{rest:List Zm}{ta tb:DT}
def Qso(ha:PT X a<|tT X.K E ta):PW X (.BoolOp .And [a] pos) (tT X.K E ta):=AX ha
def QwF(ha:PT X a<|tT X.K E ta):PW X (.BoolOp .Or [a] pos) (tT X.K E ta):=IV ha
def QwG(ha:PT X a<|tT X.K E ta)(hb:PW X (.BoolOp .And (b::rest) pos)<|tT X.K E tb):PW X (.BoolOp .And (a::b::rest) pos) (tT X.K E<|MV ta tb):=by
 refine PW.imp (Aw ha hb) λσ H Q ⟨F,δ,R,EX,rel,hw,k,o⟩=>⟨F,δ,_,EX,rel,hw,λc hc H' aj kp=>?_,o⟩
 exact nU hc (λz=>⟨F,δ,R,EX,aj,z,λc hc H2 aN bC=>k c hc H2 aN<|kp.trans bC,o⟩) λz=>k _ z H' aj kp
def QAe(ha:PT X a<|tT X.K E ta)(hb:PW X (.BoolOp .Or (b::rest) pos)<|tT X.K E tb):PW X (.BoolOp .Or (a::b::rest) pos) (tT X.K E<|ON ta tb):=by
 refine PW.imp (H_ ha hb) λσ H Q ⟨F,δ,R,EX,rel,hw,k,o⟩=>⟨F,δ,_,EX,rel,hw,λc hc H' aj kp=>?_,o⟩
 exact nU hc (λz=>k _ z H' aj kp) λz=>⟨F,δ,R,EX,aj,z,λc hc H2 aN bC=>k c hc H2 aN<|kp.trans bC,o⟩
def QwJ(ha:PT X a<|tT X.K E ta):PT X (.UnaryOp .Not a pos) (tT X.K E<|QE7 ta):=by
 exact PT.imp (xx ha) λσ H Q ⟨F,δ,R,EX,rel,hw,k,o⟩=>⟨F,δ,_,EX,rel,hw,λc hc H' aj kp=>k _ hc H' aj kp,o⟩
def QBU(wa wb:DE):DE:=λδ Q EX=>wa δ (λd=>match d with
 |.bool c=>if c=true then wb δ Q EX else Q<|.bool false
 |_=>False) EX
def QE6(wa wb:DE):DE:=λδ Q EX=>wa δ (λd=>match d with
 |.bool c=>if c=true then Q (.bool true) else wb δ Q EX
 |_=>False) EX
def QBP(wa:DE):DE:=λδ Q EX=>wa δ (λd=>match d with
 |.bool c=>Q<|.bool (!c)
 |_=>False) EX
def QAk{op}(h:PE X a<|tX .D X.K E w):PE X (.BoolOp op [a] pos) (tX .D X.K E w):=IT h
def QAw(ha:PE X a<|tX .P X.K E wa)(hb:PE X (.BoolOp .And (b::rest) pos)<|tX .D X.K E wb):PE X (.BoolOp .And (a::b::rest) pos) (tX .D X.K E<|QBU wa wb):=by
 refine PE.imp (IQ ha hb) λσ H Q ⟨F,δ,R,EX,rel,hw,k,o⟩=>⟨F,δ,_,EX,rel,hw,λd hd v H' aj kp vk=>?_,o⟩
 split at hd
 ·exact⟨_,DP.bool vk,nU hd (λz=>⟨F,δ,R,EX,aj,z,λd hd v H2 aN bC=>k d hd v H2 aN<|kp.trans bC,o⟩) λz=>k _ z _ H' aj kp<|.bl _⟩
 ·exact hd.elim
def QDN(ha:PE X a<|tX .P X.K E wa)(hb:PE X (.BoolOp .Or (b::rest) pos)<|tX .D X.K E wb):PE X (.BoolOp .Or (a::b::rest) pos) (tX .D X.K E<|QE6 wa wb):=by
 refine PE.imp (QDJ ha hb) λσ H Q ⟨F,δ,R,EX,rel,hw,k,o⟩=>⟨F,δ,_,EX,rel,hw,λd hd v H' aj kp vk=>?_,o⟩
 split at hd
 ·exact⟨_,DP.bool vk,nU hd (λz=>k _ z _ H' aj kp<|.bl _) λz=>⟨F,δ,R,EX,aj,z,λd hd v H2 aN bC=>k d hd v H2 aN<|kp.trans bC,o⟩⟩
 ·exact hd.elim
def QAl(ha:PE X a<|tX .P X.K E wa):PE X (.UnaryOp .Not a pos) (tX .D X.K E<|QBP wa):=by
 refine PE.imp (QAd ha) λσ H Q ⟨F,δ,R,EX,rel,hw,k,o⟩=>⟨F,δ,_,EX,rel,hw,λd hd v H' aj kp vk=>?_,o⟩
 split at hd
 ·exact⟨_,DP.bool vk,k _ hd _ H' aj kp<|.bl _⟩
 ·exact hd.elim
def QFa(t:DT)(wa wb:DE):DE:=λδ Q EX=>t δ (λc=>if c=true then wa δ Q EX else wb δ Q EX) EX
def QAq(hc:PT X c<|tT X.K E ta)(ha:PE X a<|tX .D X.K E wa)(hb:PE X b<|tX .D X.K E wb):PE X (.IfExp c a b pos) (tX .D X.K E<|QFa ta wa wb):=by
 refine PE.imp (Wp hc ha hb) λσ H Q ⟨F,δ,R,EX,rel,hw,k,o⟩=>⟨F,δ,_,EX,rel,hw,λd hd H' aj kp=>?_,o⟩
 exact nU hd (λz=>⟨F,δ,R,EX,aj,z,λd hd v H2 aN bC=>k d hd v H2 aN<|kp.trans bC,o⟩) λz=>⟨F,δ,R,EX,aj,z,λd hd v H2 aN bC=>k d hd v H2 aN<|kp.trans bC,o⟩
end
def uX(dm:∀a,A a->∃xs,H a=some (.lst xs))(s:ag H H')(n:H l=none)(e:H' l=some (.lst xs))(q:aJ A H xs ds):DA A H' (.ref l) (.list ds):=
 .lst (λz=>by obtain⟨ys,e'⟩:=dm l z;rw[n] at e';cases e') e (q.same s)
def Az(dm:∀a,A a->∃xs,H a=some (.lst xs))(s:ag H H')(e:H' l=some (.tup xs))(q:aJ A H xs ds):DA A H' (.ref l) (.tuple ds):=
 .tup (λz=>by obtain⟨ys,e'⟩:=dm l z;rw[s _ _ e'] at e;cases e) e (q.same s)
def oh(n:H l=none):ki H H' (.ref l):=λl' e _=>by cases e;exact n
def AO(e:H' l=some (.tup xs)):ki H H' (.ref l):=λl' e1 ⟨ys,e2⟩=>by cases e1;rw[e] at e2;cases e2
def kZ:ki H H' (.int i):=λl' e _=>by cases e
def ip:ki H H' (.bl i):=λl' e _=>by cases e
def Qx8:ki H H' .aH:=λl' e _=>by cases e
def aJ.rep(q:aJ A H xs ds):∀k:Nat,aJ A H (Jc k xs).flatten (Jc k ds).flatten
 |0=>.nil
 |k+1=>by rw[Yy,Yy];exact q.app<|aJ.rep q k
def QFi:Xc->Xc->(Xc->Prop)->Prop
 |.int i,.int j,Q=>Q<|.int<|i+j
 |.tuple a,.tuple b,Q=>a.length+b.length<=1000000/\Q (.tuple<|a++b)
 |.list a,.list b,Q=>a.length+b.length<=1000000/\Q (.list<|a++b)
 |_,_,_=>False
def Oh(C:Int->Int->Prop)(f:Int->Int->Xc):Xc->Xc->(Xc->Prop)->Prop
 |.int i,.int j,Q=>C i j/\Q (f i j)
 |_,_,_=>False
def tH(f:Int->Int->Xc):Xc->Xc->(Xc->Prop)->Prop
 |.int i,.int j,Q=>Q<|f i j
 |_,_,_=>False
def QEW:Xc->Xc->(Xc->Prop)->Prop
 |.int i,.int j,Q=>(ni i j∨iC i j)/\Q (.int<|i*j)
 |.list a,.int k,Q=>(k<1000000 /\ -1000000<k/\a.length*k.toNat<=1000000)/\Q (.list (Jc k.toNat a).flatten)
 |_,_,_=>False
def rK:1000000<=Xj:=by decide
section
variable{X:Cx}{E:XK}
def w_{C:Int->Int->Prop}{g:Int->Int->Int}:iS (rI C λi j=>.int<|g i j) (Oh C λi j=>.int<|g i j):=λA P H x y d1 d2 R Q ln dm hx hy h k=>by
 cases d1<;>cases d2<;>first | exact h.elim | skip
 rw[hx.int,hy.int];exact⟨_,_,rfl,rfl,h.1,k _ h.2 _ H (ag.refl H) (.int _) kZ⟩
def nY{g:Int->Int->Int}:iS (dU λi j=>.int<|g i j) (tH λi j=>.int<|g i j):=λA P H x y d1 d2 R Q ln dm hx hy h k=>by
 cases d1<;>cases d2<;>first | exact h.elim | skip
 rw[hx.int,hy.int];exact⟨_,_,rfl,rfl,k _ h _ H (ag.refl H) (.int _) kZ⟩
def rQ{g:Int->Int->Bool}:iS (dU λi j=>.bl<|g i j) (tH λi j=>.bool<|g i j):=λA P H x y d1 d2 R Q ln dm hx hy h k=>by
 cases d1<;>cases d2<;>first | exact h.elim | skip
 rw[hx.int,hy.int];exact⟨_,_,rfl,rfl,k _ h _ H (ag.refl H) (.bl _) ip⟩
def sX:R2:=λx y H Q=>(dU (λi j=>.int<|i+j) x y H Q∨C3 x y H Q)∨QEU x y H Q
def ZO:aI X (Xr .Add) sX:=aI.j0 (aI.j0 pF Uw) Sk
def YH:iS sX QFi:=λA P H x y d1 d2 R Q ln dm hx hy h k=>by
 cases d1<;>cases d2<;>first | exact h.elim | skip
 ·rw[hx.int,hy.int];exact .inl<|.inl ⟨_,_,rfl,rfl,k _ h _ H (ag.refl H) (.int _) kZ⟩
 ·obtain⟨l1,xs,rfl,e1,q1⟩:=hx.list;obtain⟨l2,ys,rfl,e2,q2⟩:=hy.list;refine .inr ⟨l1,l2,xs,ys,rfl,rfl,e1,e2,QK (by rw[q1.length,q2.length];exact h.1) rK,λp hp=>?_⟩;exact k _ h.2 _ _ (JA hp) (uX dm (JA hp) hp af<|q1.app q2)<|oh hp
 ·obtain⟨l1,xs,rfl,e1,q1⟩:=hx.tuple;obtain⟨l2,ys,rfl,e2,q2⟩:=hy.tuple;refine .inl (.inr ⟨l1,l2,xs,ys,rfl,rfl,e1,e2,QK (by rw[q1.length,q2.length];exact h.1) rK,λp H' s e=>?_⟩);exact k _ h.2 _ _ s (Az dm s e<|q1.app q2)<|AO e
def O7:R2:=λx y H Q=>(rI ni (λi j=>.int<|i*j) x y H Q∨rI iC (λi j=>.int<|i*j) x y H Q)∨QEM x y H Q
def Uy:aI X (Xr .Mult) O7:=aI.j0 (aI.j0 xu Qw7) Ss
def Sj:iS O7 QEW:=λA P H x y d1 d2 R Q ln dm hx hy h k=>by
 cases d1<;>cases d2<;>first | exact h.elim | skip
 ·rw[hx.int,hy.int];rcases h.1 with c | c
  ·exact .inl<|.inl ⟨_,_,rfl,rfl,c,k _ h.2 _ H (ag.refl H) (.int _) kZ⟩
  ·exact .inl<|.inr ⟨_,_,rfl,rfl,c,k _ h.2 _ H (ag.refl H) (.int _) kZ⟩
 ·obtain⟨l1,xs,rfl,e1,q1⟩:=hx.list;rw[hy.int];obtain⟨⟨h1,h2,h3⟩,h4⟩:=h;refine .inr ⟨l1,_,xs,rfl,rfl,e1,by omega,by omega,QK (by rw[q1.length];exact h3) rK,λp hp=>?_⟩;exact k _ h4 _ _ (JA hp) (uX dm (JA hp) hp af<|q1.rep _)<|oh hp
def OD:Xc->Xc->(Xc->Prop)->Prop
 |.int i,.int j,Q=>Q<|.bool<|decide (i=j)
 |.bool i,.bool j,Q=>Q<|.bool<|decide (i=j)
 |.str i,.str j,Q=>Q<|.bool<|decide (i=j)
 |a,b,Q=>(nd a=true/\nd b=true/\(a.depth<=50∨b.depth<=50))/\Q (.bool<|Qy a b)
def Gd:Xc->Xc->(Xc->Prop)->Prop
 |.int i,.int j,Q=>Q<|.bool<|!decide (i=j)
 |.bool i,.bool j,Q=>Q<|.bool<|!decide (i=j)
 |.str i,.str j,Q=>Q<|.bool<|!decide (i=j)
 |a,b,Q=>(nd a=true/\nd b=true/\(a.depth<=50∨b.depth<=50))/\Q (.bool<|!Qy a b)
def QFM{a b:Xc}(h:a.depth<=50∨b.depth<=50):min a.depth b.depth<=50:=by rcases h with h | h<;>omega
def QET(u:Nat):R2:=λx y H Q=>FU x y H Q∨QES u x y H Q
def QEO(u:Nat):R2:=λx y H Q=>NW x y H Q∨QEN u x y H Q
def jj:aI X (Xl .Eq) (QET X.A.units):=aI.j0 rj Sn
def pG:aI X (Xl .NotEq) (QEO X.A.units):=aI.j0 QAD Aq
def QBF:decide (V.int i=V.int j)=decide (i=j):=by
 by_cases h:i=j
 ·subst h;simp
 ·rw[X' h,X' λz=>h<|V.int.inj z]
def QBG:decide (V.bl i=V.bl j)=decide (i=j):=by
 by_cases h:i=j
 ·subst h;simp
 ·rw[X' h,X' λz=>h<|V.bl.inj z]
def QBE:decide (V.str i=V.str j)=decide (i=j):=by
 by_cases h:i=j
 ·subst h;simp
 ·rw[X' h,X' λz=>h<|V.str.inj z]
def je{u:Nat}(hu:u+60<cLine):iS (QET u) OD:=λA P H x y d1 d2 R Q ln dm hx hy h k=>by
 unfold OD at h;split at h
 ·rw[hx.int,hy.int];exact .inl ⟨rfl,k (.bool<|decide (V.int _=V.int _)) (by rw[QBF];exact h) _ H (ag.refl H) (.bl _) ip⟩
 ·rw[hx.bool,hy.bool];exact .inl ⟨rfl,k (.bool<|decide (V.bl _=V.bl _)) (by rw[QBG];exact h) _ H (ag.refl H) (.bl _) ip⟩
 ·rw[hx.str.1,hy.str.1];exact .inl ⟨rfl,k (.bool<|decide (V.str _=V.str _)) (by rw[QBE];exact h) _ H (ag.refl H) (.bl _) ip⟩
 ·obtain⟨⟨n1,n2,dp⟩,hR⟩:=h;exact .inr ⟨_,_,hx.dat n1,hy.dat n2,by omega,k _ hR _ H (ag.refl H) (.bl _) ip⟩
def pj(hu:u+60<cLine):iS (QEO u) Gd:=λA P H x y d1 d2 R Q ln dm hx hy h k=>by
 unfold Gd at h;split at h
 ·rw[hx.int,hy.int];exact .inl ⟨rfl,k (.bool<|!decide (V.int _=V.int _)) (by rw[QBF];exact h) _ H (ag.refl H) (.bl _) ip⟩
 ·rw[hx.bool,hy.bool];exact .inl ⟨rfl,k (.bool<|!decide (V.bl _=V.bl _)) (by rw[QBG];exact h) _ H (ag.refl H) (.bl _) ip⟩
 ·rw[hx.str.1,hy.str.1];exact .inl ⟨rfl,k (.bool<|!decide (V.str _=V.str _)) (by rw[QBE];exact h) _ H (ag.refl H) (.bl _) ip⟩
 ·obtain⟨⟨n1,n2,dp⟩,hR⟩:=h;exact .inr ⟨_,_,hx.dat n1,hy.dat n2,by omega,k _ hR _ H (ag.refl H) (.bl _) ip⟩
def Ie(u:Nat)(neg:Bool):R2:=λx y H Q=>∃c ps ds d,y=.ref c/\H c=some (.lst ps)/\aP H ps ds/\Dat H x d/\u+d.depth<cLine/\Q (.bl<|if neg then !(ds.any λe=>Qy e d) else ds.any λe=>Qy e d) H
def Qw8:aI X (Xl .In) (Ie X.A.in1.units false):=by
 intro XI s σ H x y v u Q I rx ry h;obtain⟨c,ps,ds,d,rfl,hc,qs,qx,hu,q⟩:=h;cases ry;obtain⟨⟨as,ra⟩,ca⟩:=sx I.ar d x v qx rx;obtain⟨ah,rv,pl,hz⟩:=I.list<|aA.of hc;obtain⟨⟨bs,rb⟩,cb⟩:=EA I.ar ds ps ah qs rv;refine RA (ib s.heap d) pl.isList (λw hw=>AU ra ca rb cb hu w<|YD.mp hw) ⟨.bl _,H,I,rfl,?_⟩;rw[show ah.toArray.any (ib s.heap d)=ah.any (ib s.heap d) by simp,AY rb cb];exact q
def Ql7:aI X (Xl .NotIn) (Ie X.A.in1.units true):=by
 intro XI s σ H x y v u Q I rx ry h;obtain⟨c,ps,ds,d,rfl,hc,qs,qx,hu,q⟩:=h;cases ry;obtain⟨⟨as,ra⟩,ca⟩:=sx I.ar d x v qx rx;obtain⟨ah,rv,pl,hz⟩:=I.list<|aA.of hc;obtain⟨⟨bs,rb⟩,cb⟩:=EA I.ar ds ps ah qs rv;refine Tc (ib s.heap d) pl.isList (λw hw=>AU ra ca rb cb hu w<|YD.mp hw) ⟨.bl _,H,I,rfl,?_⟩;rw[show ah.toArray.any (ib s.heap d)=ah.any (ib s.heap d) by simp,AY rb cb];exact q
def inD(neg:Bool)(d:Xc):Xc->(Xc->Prop)->Prop
 |.list ds,Q=>(gv ds=true/\nd d=true/\d.depth<=50)/\Q (.bool<|if neg then !(ds.any λe=>Qy e d) else ds.any λe=>Qy e d)
 |.tuple ds,Q=>(gv ds=true/\nd d=true/\d.depth<=50)/\Q (.bool<|if neg then !(ds.any λe=>Qy e d) else ds.any λe=>Qy e d)
 |_,_=>False
def Nf(u:Nat)(neg:Bool):R2:=λx y H Q=>Fn u neg x y H Q∨Ie u neg x y H Q
def uY:aI X (Xl .In) (Nf X.A.in1.units false):=aI.j0 QAE Qw8
def vh:aI X (Xl .NotIn) (Nf X.A.in1.units true):=aI.j0 QoI Ql7
def jM(hu:u+60<cLine):iS (Nf u neg) (inD neg):=λA P H x y d1 d2 R Q ln dm hx hy h k=>by
 cases d2<;>first | exact h.elim | skip
 ·obtain⟨l,xs,rfl,e,q⟩:=hy.list;obtain⟨⟨n1,n2,n3⟩,hR⟩:=h;exact .inr ⟨l,xs,_,d1,rfl,e,xR _ _ n1 q,hx.dat n2,by omega,k _ hR _ H (ag.refl H) (.bl _) ip⟩
 ·obtain⟨l,xs,rfl,e,q⟩:=hy.tuple;obtain⟨⟨n1,n2,n3⟩,hR⟩:=h;exact .inl ⟨l,xs,_,d1,rfl,e,xR _ _ n1 q,hx.dat n2,by omega,k _ hR _ H (ag.refl H) (.bl _) ip⟩
def Nh:Xc->Bool
 |.none=>true
 |_=>false
def isD:Xc->Xc->(Xc->Prop)->Prop
 |.bool a,.bool b,Q=>Q<|.bool<|a == b
 |a,.none,Q=>Q<|.bool<|Nh a
 |_,_,_=>False
def QEZ:Xc->Xc->(Xc->Prop)->Prop
 |.bool a,.bool b,Q=>Q<|.bool<|a != b
 |a,.none,Q=>Q<|.bool<|!Nh a
 |_,_,_=>False
def QjU:aI X (Xl .IsNot) (λx y H Q=>∃a b,x=.bl a/\y=.bl b/\Q (.bl<|a != b) H):=by
 intro XI s σ H x y v u Q I rx ry h;obtain⟨a,b,rfl,rfl,q⟩:=h;cases(rx);cases(ry);exact isnot_bool ⟨.bl _,H,I,rfl,q⟩
def Px:R2:=λx y H Q=>(∃a b,x=.bl a/\y=.bl b/\Q (.bl<|a != b) H)∨(y=.aH/\Q (.bl<|!decide (x=.aH)) H)
def Ux:aI X (Xl .IsNot) Px:=aI.j0 QjU Qw6
def QBA(h:DP A P H v d):decide (v=.aH)=Nh d:=by
 rcases h with h | ⟨l,xs,i',rfl,rfl,_⟩
 ·cases h<;>first | rfl | exact X' nofun
 ·exact X' nofun
def S0:iS Px QEZ:=λA P H x y d1 d2 R Q ln dm hx hy h k=>by
 unfold QEZ at h;split at h
 ·rw[hx.bool,hy.bool];exact .inl ⟨_,_,rfl,rfl,k _ h _ H (ag.refl H) (.bl _) ip⟩
 ·refine .inr ⟨hy.none,?_⟩;rw[QBA hx];exact k _ h _ H (ag.refl H) (.bl _) ip
 ·exact h.elim
def za:Xc->Xc->(Xc->Prop)->Prop
 |.list ds,.int i,Q=>∃d,gb ds i=some d/\Q d
 |.tuple ds,.int i,Q=>∃d,gb ds i=some d/\Q d
 |_,_,_=>False
def RG(q:aJ A H xs ds)(h:gb ds i=some d):∃v,gb xs i=some v/\DA A H v d:=by
 unfold gb at h ⊢;rw[q.length];cases e:jx ds.length i with
 |none=>rw[e] at h;cases h
 |some j=>
  rw[e] at h;exact q.get j d h
def QEQ(K:Ws):R2:=λx y H Q=>qZ K x y H Q∨Ng K x y H Q
def Jm:iU X (QEQ X.K):=iU.j0 Za nV
def J6{K:Ws}:o_ (QEQ K) za:=λA P H x y d1 d2 R Q ln dm hx hy h k=>by
 cases d1<;>cases d2<;>first | exact h.elim | skip
 ·obtain⟨l,xs,rfl,e,q⟩:=hx.list;obtain⟨d,hd,hR⟩:=h;obtain⟨v,hv,dv⟩:=RG q hd;rw[hy.int];exact .inl ⟨l,xs,_,v,rfl,rfl,aA.of e,hv,k d hR v H (ag.refl H) dv⟩
 ·obtain⟨l,xs,rfl,e,q⟩:=hx.tuple;obtain⟨d,hd,hR⟩:=h;obtain⟨v,hv,dv⟩:=RG q hd;rw[hy.int];exact .inr ⟨l,xs,_,v,rfl,rfl,aM.of e,hv,k d hR v H (ag.refl H) dv⟩
def OK(rD:Xc->(Xc->Prop)->Prop)(wa:DE):DE:=λδ Q EX=>wa δ (λd=>rD d Q) EX
def QEV:Xc->(Xc->Prop)->Prop
 |.int i,Q=>Q<|.int<|-i
 |_,_=>False
variable{a b c:Zm}{wa wb wc:DE}{pos:Pos}
def QAn(ha:PE X a<|tX .P X.K E wa):PE X (.UnaryOp .USub a pos) (tX .F X.K E<|OK QEV wa):=by
 refine PE.imp (rm rT ha) λσ H Q ⟨F,δ,R,EX,rel,hw,k,o⟩=>⟨F,δ,_,EX,rel,hw,λd hd v H' aj kp vk=>?_,o⟩
 cases d<;>first | exact(hd).elim | skip
 exact⟨_,DP.int vk,k _ hd _ H' aj kp ⟨.int _,kZ⟩⟩
def Hh(p q:Int->Int->Bool)(wa wb wc:DE):DE:=λδ Q EX=>wa δ (λx=>wb δ (λy=>match x,y with
 |.int i,.int j=>if p i j=true then wc δ (λz=>match z with
  |.int k=>Q<|.bool<|q j k
  |_=>False) EX else Q<|.bool false
 |_,_=>False) EX) EX
def Qyu{K:Ws}(σ:L2.St)(H:Hp)(Q:VK)(h:tX .F K E (Hh p q wa wb wc) σ H Q) :
  R7 (dU λi j=>.bl<|p i j) (dU λi j=>.bl<|q i j) (tX .P K E wa) (tX .P K E wb) (tX .P K E wc) σ H Q:=by
 obtain⟨F,δ,R,EX,rel,hw,k,o⟩:=h;refine⟨F,δ,_,EX,rel,hw,λd1 h1 x H1 aF bU x1=>⟨F,δ,_,EX,aF,h1,λd2 h2 y H2 aN bC y2=>?_,o⟩,o⟩;cases d1<;>cases d2<;>first | exact(h2).elim | skip
 rw[DP.int x1,DP.int y2];refine⟨_,_,rfl,rfl,_,rfl,nU h2 (λz=>⟨F,δ,_,EX,aN,z,λd3 h3 v H3 g_ Cf v3=>?_,o⟩) λz=>k _ z _ H2 aN (bU.trans bC) ⟨.bl _,ip⟩⟩;cases d3<;>first | exact(h3).elim | skip
 rw[DP.int v3];exact⟨_,_,rfl,rfl,k _ h3 _ H3 g_ ((bU.trans bC).trans Cf) ⟨.bl _,ip⟩⟩
def QDP(ho:aI X (Xl op)<|dU λi j=>.bl<|p i j)(gw:aI X (Xl qF)<|dU λi j=>.bl<|q i j)(ha:PE X a<|tX .P X.K E wa)(hb:PE X b<|tX .P X.K E wb)(hc:PE X c<|tX .P X.K E wc)(hm:lastMarks [op,qF] [b,c]=false:=by with_unfolding_all rfl) :
  PE X (.Compare a [op,qF] [b,c] pos) (tX .F X.K E<|Hh p q wa wb wc):=PE.imp (Qsm ho gw ha hb hc (hm:=hm)) Qyu
def md:kj:=λ_ Q _=>Q []
def fV(we:DE)(wr:kj):kj:=λδ Q EX=>we δ (λd=>wr δ (λds=>Q (d::ds)) EX) EX
def QwZ:PA X [] (jt 0 m X.K E md):=PA.imp Qu λσ H Q ⟨F,δ,R,EX,rel,hw,k,o⟩=>k [] hw rfl [] H rel (Kp.refl rel) .nil
def Tj{K:Ws}(hm:∀{F:Fm}{σ:L2.St}{δ:aS}{H H':Hp}{v:V}{d:Xc},CF m F σ δ H H' v d->VD m (Av F σ δ) (YC σ δ) H' v d)(σ:L2.St)(H:Hp)(Q:List V->Hp->Prop)(h:jt (n+1) m K E (fV we wr) σ H Q):ZM (tX m K E we) (jt n m K E wr) σ H Q:=by
 obtain⟨F,δ,R,EX,rel,hw,k,o⟩:=h;exact⟨F,δ,_,EX,rel,hw,λd hd v H' aj kp vk=>⟨F,δ,_,EX,aj,hd,λds cI hl vs H2 aN bC yt=>(k _ cI (by rw[Qz,hl]) (v::vs) H2 aN (kp.trans bC)<|.cons (bC.vd<|hm vk) yt),o⟩,o⟩
def QoD(he:PE X e<|tX .D X.K E we)(hr:PA X es<|jt n .D X.K E wr)(hs:notStar e=true:=by rfl):PA X (e::es) (jt (n+1) .D X.K E<|fV we wr):=PA.imp (Y6 he hr hs)<|Tj λh=>h
def QoC(he:PE X e<|tX .P X.K E we)(hr:PA X es<|jt n .P X.K E wr)(hs:notStar e=true:=by rfl):PA X (e::es) (jt (n+1) .P X.K E<|fV we wr):=PA.imp (Y6 he hr hs)<|Tj λh=>h
def Mi:∀{vs:List V}{ds:List Xc},Zw (VD .D A P H) vs ds->aJ A H vs ds
 |_,_,.nil=>.nil
 |_,_,.cons a b=>.cons a<|Mi b
def wV(w:kj):DE:=λδ Q EX=>w δ (λds=>Q<|.tuple ds) EX
def Bw(w:kj):DE:=λδ Q EX=>w δ (λds=>Q<|.list ds) EX
def QAh{x1}(h:PA X es<|jt n .D X.K E w)(hn:n<=1000:=by decide):PE X (.Tuple es x1 pos) (tX .F X.K E<|wV w):=by
 refine PE.imp (YY h) λσ H Q ⟨F,δ,R,EX,rel,hw,k,o⟩=>⟨F,δ,_,EX,rel,hw,λds cI hl vs H' aj kp q=>?_,o⟩
 have q':=Mi q;refine⟨by rw[q'.length,hl];exact hn,λa H2 s n e=>k _ cI _ H2 (aj.same s) (kp.trans<|Kp.same aj s) ⟨Az (λa ha=>aj.fI ha) s e q',AO e⟩⟩
def ve(k:Kp σ δ H H')(n:H' l=none):H l=none:=by
 cases e:H l with
 |none=>rfl
 |some ob=>
  by_cases z:YC σ δ l
  ·obtain⟨m,em⟩:=k.2 l z;rw[em] at n;cases n
  ·rw[k.1 _ _ z e] at n;cases n
def QAo(h:PA X es<|jt n .D X.K E w)(hn:n<=1000:=by decide):PE X (.List es pos) (tX .F X.K E<|Bw w):=by
 refine PE.imp (Yi h) λσ H Q ⟨F,δ,R,EX,rel,hw,k,o⟩=>⟨F,δ,_,EX,rel,hw,λds cI hl vs H' aj kp q=>?_,o⟩
 have q':=Mi q;refine⟨by rw[q'.length,hl];exact hn,λa H2 s n e=>k _ cI _ H2 (aj.same s) (kp.trans<|Kp.same aj s) ⟨uX (λa ha=>aj.fI ha) s n e q',oh<|ve kp n⟩⟩
def QAr:PE X (.Dict [] [] pos) (tX .D X.K E<|dC<|.dict []):=by
 refine PE.imp QwE λσ H Q ⟨F,δ,R,EX,rel,hw,k,o⟩=>λp hp=>(k _ hw _ _ (rel.same<|JA hp) (Kp.same rel<|JA hp)<|.gH (kvs:=[]) (λz=>?_) af rfl)
 obtain⟨xs,e⟩:=rel.fI z;rw[hp] at e;cases e
def iL(r:List V->Hp->VK->Prop)(rD:List Xc->(Xc->Prop)->Prop):Prop:=∀(A P:Xb->Prop)(H:Hp)(vs:List V)(ds:List Xc)(R:Xc->Prop)(Q:VK),jg H->(∀a,A a->∃xs,H a=some (.lst xs))->Zw (DP A P H) vs ds->rD ds R ->
 (∀d,R d->∀v H',ag H H'->DA A H' v d->ki H H' v->Q v H')->r vs H Q
def ui(rD:List Xc->(Xc->Prop)->Prop)(wa:kj):DE:=λδ Q EX=>wa δ (λds=>rD ds Q) EX
def Ud{K:Ws}{wa:kj}(hd:iL r rD)(σ:L2.St)(H:Hp)(Q:VK)(h:tX .F K E (ui rD wa) σ H Q) :
  fZ (λxs H Q=>jg H->r xs H Q) (jt n .P K E wa) σ H Q:=by
 obtain⟨F,δ,R,EX,rel,hw,k,o⟩:=h;refine⟨F,δ,_,EX,rel,hw,λds cI hl vs H' aj kp q ln=>(hd (Av F σ δ) (YC σ δ) H' vs ds R Q ln (λa ha=>aj.fI ha) q cI λd hR v H2 s dv fr=>?_),o⟩;exact k d hR v H2 (aj.same s) (kp.trans<|Kp.same aj s) ⟨dv,λl e1 e2=>ve kp<|fr l e1 e2⟩
variable{x:Str}{CA T:String}{p:Pos}{e:Zm}{es:List Zm}{n:Nat}{wr:kj}{r:List V->Hp->VK->Prop}{rD:List Xc->(Xc->Prop)->Prop}
def QsF(hc:aG X (.builtin CA) r)(hd:iL r rD)(hg:Gl X x)(hm:X.mg x=none)(hv:Xm x=some (.builtin CA))(ha:PA X (e::es)<|jt n .P X.K E wr)(hn:x ≠ "__name__" := by decide)(bO:(x == ("__debug__" : Str))=false:=by decide)
  (he:Xh (e::es) X.env=(false,eval e X.env)::Xh es X.env:=by rfl)(hpl:(Xp pos<|Xh es X.env).any (·.1)=false:=by rfl):PE X (.Call (.Name x p) (e::es) [] pos) (tX .F X.K E<|ui rD wr):=
 PE.imp (Z4 (aG.len hc) hg hm hv ha hn bO he hpl) (Ud hd)
def QoE(hc:aG X (.type T) r)(hd:iL r rD)(hg:Gl X x)(hm:X.mg x=none)(hv:Xm x=some (.type T))(ha:PA X (e::es)<|jt n .P X.K E wr)(hn:x ≠ "__name__" := by decide)(bO:(x == ("__debug__" : Str))=false:=by decide)
  (he:Xh (e::es) X.env=(false,eval e X.env)::Xh es X.env:=by rfl)(hpl:(Xp pos<|Xh es X.env).any (·.1)=false:=by rfl):PE X (.Call (.Name x p) (e::es) [] pos) (tX .F X.K E<|ui rD wr):=
 PE.imp (Zg (aG.len hc) hg hm hv ha hn bO he hpl) (Ud hd)
def kC(q:Zw (DP A P H) vs [d]):∃v,vs=[v]/\DP A P H v d:=by
 cases q with
 |cons a b=>cases b;exact⟨_,rfl,a⟩
def pd2(q:Zw (DP A P H) vs [d,d']):∃v v',vs=[v,v']/\DP A P H v d/\DP A P H v' d':=by
 cases q with
 |cons a b=>cases b with | cons b c=>cases c;exact⟨_,_,rfl,a,b⟩
def Nc:List Xc->(Xc->Prop)->Prop
 |[.list ds],Q=>Q<|.int ds.length
 |[.tuple ds],Q=>Q<|.int ds.length
 |_,_=>False
def AD{K:Ws}:iL (O5 K) Nc:=λA P H vs ds R Q ln dm q h k=>by
 unfold Nc at h;split at h
 ·obtain⟨v,rfl,hv⟩:=kC q;obtain⟨l,xs,rfl,e,qq⟩:=hv.list;exact⟨l,xs,rfl,.inl<|aA.of e,by rw[qq.length];exact k _ h _ H (ag.refl H) (.int _) kZ⟩
 ·obtain⟨v,rfl,hv⟩:=kC q;obtain⟨l,xs,rfl,e,qq⟩:=hv.tuple;exact⟨l,xs,rfl,.inr<|aM.of e,by rw[qq.length];exact k _ h _ H (ag.refl H) (.int _) kZ⟩
 ·exact h.elim
def Bi:aG X (.builtin "len") (O5 X.K):=Yp
def HW:List Xc->(Xc->Prop)->Prop
 |[.int i,.int j],Q=>Q<|.int<|if j<i then j else i
 |_,_=>False
def Qyw:iL (λxs H Q=>∃i j,xs=[.int i,.int j]/\Q (.int<|if j<i then j else i) H) HW:=λA P H vs ds R Q ln dm q h k=>by
 unfold HW at h;split at h
 ·obtain⟨v,v',rfl,h1,h2⟩:=pd2 q;rw[h1.int,h2.int];exact⟨_,_,rfl,k _ h _ H (ag.refl H) (.int _) kZ⟩
 ·exact h.elim
def xD:List Xc->Option (List Bool)
 |[]=>some []
 |.bool b::ds=>(xD ds).map (b::·)
 |_::_=>none
def uZ:List Xc->Option (List Int)
 |[]=>some []
 |.int b::ds=>(uZ ds).map (b::·)
 |_::_=>none
def Qrb(bs:List Bool):xD (bs.map su)=some bs:=by
 induction bs with
 |nil=>rfl
 |cons b bs ih=>rw[JU,xD,ih];rfl
def ints_map(bs:List Int):uZ (bs.map Qp)=some bs:=by
 induction bs with
 |nil=>rfl
 |cons b bs ih=>rw[JU,uZ,ih];rfl
def bZ:∀{ds:List Xc}{bs:List Bool},xD ds=some bs->ds=bs.map su
 |[],bs,h=>by cases h;rfl
 |d::ds,bs,h=>by
  cases d<;>first | (unfold xD at h;cases h;done) | skip
  obtain⟨cs,h1,rfl⟩:=Ja.mp h;rw[bZ h1];rfl
def Lk:∀{ds:List Xc}{bs:List Int},uZ ds=some bs->ds=bs.map Qp
 |[],bs,h=>by cases h;rfl
 |d::ds,bs,h=>by
  cases d<;>first | (unfold uZ at h;cases h;done) | skip
  obtain⟨cs,h1,rfl⟩:=Ja.mp h;rw[Lk h1];rfl
def QpP{bs:List Bool}{xs:List V}(h:aJ A H xs<|bs.map su):xs=bs.map V.bl:=by
 induction bs generalizing xs with
 |nil=>cases h;rfl
 |cons b bs ih=>cases h with | cons q r=>cases q;rw[ih r];rfl
def A6{bs:List Int}{xs:List V}(h:aJ A H xs<|bs.map Qp):xs=bs.map V.int:=by
 induction bs generalizing xs with
 |nil=>cases h;rfl
 |cons b bs ih=>cases h with | cons q r=>cases q;rw[ih r];rfl
@[irreducible] def Fp:List Xc->(Xc->Prop)->Prop
 |[.list ds],Q=>∃ns,uZ ds=some ns/\Q (.int ns.sum)
 |_,_=>False
def QBY{K:Ws}:iL (O9 K) Fp:=λA P H vs ds R Q ln dm q h k=>by
 unfold Fp at h;split at h
 ·obtain⟨v,rfl,hv⟩:=kC q;obtain⟨bs,hb,hR⟩:=h;rw[Lk hb] at hv;obtain⟨l,xs,rfl,e,qq⟩:=hv.list;rw[A6 qq] at e;exact⟨l,bs,rfl,aA.of e,k _ hR _ H (ag.refl H) (.int _) kZ⟩
 ·exact h.elim
def Sb:List Xc->(Xc->Prop)->Prop
 |[.list ds],Q=>Q<|.tuple ds
 |[.tuple ds],Q=>Q<|.tuple ds
 |_,_=>False
def HV:List Xc->(Xc->Prop)->Prop
 |[.list ds],Q=>Q<|.list ds
 |[.tuple ds],Q=>Q<|.list ds
 |_,_=>False
def YT{K:Ws}:iL (Dy K) Sb:=λA P H vs ds R Q ln dm q h k=>by
 unfold Sb at h;split at h
 ·obtain⟨v,rfl,hv⟩:=kC q;obtain⟨l,xs,rfl,e,qq⟩:=hv.list;exact⟨l,xs,rfl,.inl ⟨aA.of e,λl' H' s n e'=>k _ h _ H' s (Az dm s e' qq)<|AO e'⟩⟩
 ·obtain⟨v,rfl,hv⟩:=kC q;obtain⟨l,xs,rfl,e,qq⟩:=hv.tuple;exact⟨l,xs,rfl,.inr ⟨aM.of e,k _ h _ H (ag.refl H) (Az dm (ag.refl H) e qq)<|AO e⟩⟩
 ·exact h.elim
def KA{K:Ws}:iL (U7 K) HV:=λA P H vs ds R Q ln dm q h k=>by
 unfold HV at h;split at h
 ·obtain⟨v,rfl,hv⟩:=kC q;obtain⟨l,xs,rfl,e,qq⟩:=hv.list;exact⟨l,xs,rfl,.inl<|aA.of e,λl' H' s n e'=>k _ h _ H' s (uX dm s n e' qq)<|oh n⟩
 ·obtain⟨v,rfl,hv⟩:=kC q;obtain⟨l,xs,rfl,e,qq⟩:=hv.tuple;exact⟨l,xs,rfl,.inr<|aM.of e,λl' H' s n e'=>k _ h _ H' s (uX dm s n e' qq)<|oh n⟩
 ·exact h.elim
end
section
variable{X:Cx}{E:XK}
inductive Tn where | int | bool | str | tuple | list
def Tn.s:Tn->String
 |.int => "int"
 |.bool => "bool"
 |.str => "str"
 |.tuple => "tuple"
 |.list => "list"
def Gr:Tn->Xc->Bool
 |.int,.int _=>true
 |.int,.bool _=>true
 |.bool,.bool _=>true
 |.str,.str _=>true
 |.tuple,.tuple _=>true
 |.list,.list _=>true
 |_,_=>false
def Qx4{K:Ws}(tn:Tn)(h:DP A P H v d):∃t,cW K H v t/\Wy K t (.type tn.s)=some (Gr tn d):=by
 rcases h with h | ⟨l,xs,ds,rfl,rfl,_,e,q⟩
 ·cases h with
  |aH=>exact⟨_,.aH,by cases tn<;>rfl⟩
  |bl b=>exact⟨_,.bl _,by cases tn<;>rfl⟩
  |int i=>exact⟨_,.int _,by cases tn<;>rfl⟩
  |str x c=>exact⟨_,.str _,by cases tn<;>rfl⟩
  |tup n e q=>exact⟨_,.tup e,by cases tn<;>rfl⟩
  |lst n e q=>exact⟨_,.lst e,by cases tn<;>rfl⟩
  |gH n e q=>exact⟨_,.dK e,by cases tn<;>rfl⟩
 ·exact⟨_,.lst e,by cases tn<;>rfl⟩
def QBR(tn:Tn)(we:DE):DE:=λδ Q EX=>we δ (λd=>Q<|.bool<|Gr tn d) EX
def Qw0(tn:Tn)(hg:Gl X "isinstance")(hm:X.mg "isinstance" = none)(he:PE X e<|tX .P X.K E we)(hf:PE X f<|tC<|.ty tn.s)(h1:notStar e=true:=by rfl)(h2:notStar f=true:=by rfl) :
  PE X (.Call (.Name "isinstance" p) [e,f] [] pos) (tX .F X.K E<|QBR tn we):=by
 refine PE.imp (Z4 Qkf hg hm MP (Y6 he (Y6 hf Qu h2) h1) (he:=mz h1) (hpl:=by rw[mz h2];rfl)) λσ H Q ⟨F,δ,R,EX,rel,hw,k,o⟩=>?_
 refine⟨F,δ,_,EX,rel,hw,λd hd v H' aj kp vk=>?_,o⟩;obtain⟨t,ty,et⟩:=Qx4 tn vk;exact⟨v,t,tn.s,_,rfl,ty,et,k _ hd _ H' aj kp ⟨.bl _,ip⟩⟩
def QDR(tn:Tn)(hg:Gl X x)(hm:X.mg x=none)(hv:Xm x=some (.type tn.s))(hn:x ≠ "__name__" := by decide)(hd:(x == ("__debug__" : Str))=false:=by decide):PE X (.Name x pos) (tC<|.ty tn.s):=Ui hg hm hv rfl hn hd
abbrev DO:=aS->(Option Int->Prop)->XP->Prop
def tO(K:Ws)(E:XK)(w:DO):TO:=λσ H Q=>∃(F:Fm)(δ:aS)(R:Option Int->Prop)(EX:XP),Rel K F σ H δ/\w δ R EX/\(∀d,R d->∀H',Rel K F σ H' δ->Kp σ δ H H'->Q d H')/\Out F E EX
def OO:DO:=λ_ Q _=>Q none
def OL(we:DE):DO:=λδ Q EX=>we δ (λd=>match d with
 |.int i=>Q<|some i
 |_=>False) EX
def PO.imp(h:PO X e t)(i:∀σ H Q,t' σ H Q->t σ H Q):PO X e t':=λXI s σ H Q I q=>h XI s σ H Q I<|i σ H Q q
def Qsz:PO X none (tO X.K E OO):=PO.imp Up λσ H Q ⟨F,δ,R,EX,rel,hw,k,o⟩=>k _ hw H rel<|Kp.refl rel
def Qsy(he:PE X e<|tX .P X.K E we):PO X (some e) (tO X.K E<|OL we):=by
 refine PO.imp (Uq he) λσ H Q ⟨F,δ,R,EX,rel,hw,k,o⟩=>⟨F,δ,_,EX,rel,hw,λd hd v H' aj kp vk=>?_,o⟩
 cases d<;>first | exact(hd).elim | skip
 exact⟨_,DP.int vk,k _ hd H' aj kp⟩
def cutD(xs:List Xc)(lo hi:Option Int):List Xc:=(xs.drop<|HT.aT xs.length 0 lo).take<|HT.aT xs.length xs.length hi - HT.aT xs.length 0 lo
def T4(q:aJ A H xs ds)(lo hi:Option Int):aJ A H (jI xs lo hi) (cutD ds lo hi):=by
 unfold jI cutD;rw[q.length];exact(q.drop _).take _
def slD(d:Xc)(lo hi:Option Int)(Q:Xc->Prop):Prop:=
 match d with
 |.list ds=>Q<|.list<|cutD ds lo hi
 |.tuple ds=>Q<|.tuple<|cutD ds lo hi
 |_=>False
def OM(we:DE)(wl wh:DO):DE:=λδ Q EX=>we δ (λd=>wl δ (λlo=>wh δ (λhi=>slD d lo hi Q) EX) EX) EX
def QEK(K:Ws):V->Option Int->Option Int->Hp->VK->Prop:=λx a b H Q=>QEL x a b H Q∨O8 K x a b H Q
def QsD{lo:Option Zm}(he:PE X e<|tX .P X.K E we)(hl:PO X lo<|tO X.K E wl)(hh:PO X hi<|tO X.K E wh):PE X (.Subscript e (.Slice lo hi none p2) pos) (tX .F X.K E<|OM we wl wh):=by
 refine PE.imp (Wq (nJ.j0 QzH V6) he hl hh) λσ H Q ⟨F,δ,R,EX,rel,hw,k,o⟩=>?_
 refine⟨F,δ,_,EX,rel,hw,λd hd v H1 aF bU vk=>⟨F,δ,_,EX,aF,hd,λa ha H2 aN bC=>⟨F,δ,_,EX,aN,ha,λb hb H3 g_ Cf=>?_,o⟩,o⟩,o⟩;have v3:=Cf.dp<|bC.dp vk;have K3:=(bU.trans bC).trans Cf;cases d<;>first | exact(hb).elim | skip
 ·obtain⟨l,xs,rfl,e,q⟩:=DP.list v3;exact .inr ⟨l,xs,rfl,aA.of e,λp H' s n e'=>k _ hb _ H' (g_.same s) (K3.trans<|Kp.same g_ s) ⟨uX (λa ha=>g_.fI ha) s n e'<|T4 q _ _,oh<|ve K3 n⟩⟩
 ·obtain⟨l,xs,rfl,e,q⟩:=DP.tuple v3;exact .inl ⟨l,xs,rfl,e,λp H' s e'=>k _ hb _ H' (g_.same s) (K3.trans<|Kp.same g_ s) ⟨Az (λa ha=>g_.fI ha) s e'<|T4 q _ _,AO e'⟩⟩
abbrev DF:=List Sl->(Xc->Prop)->XP->Prop
def Kq(pt:Xb->Prop)(H H':Hp):Prop:=(∀b o,¬pt b->H b=some o->H' b=some o)/\∀p,pt p->∃n,H' p=some (.lst [.int n])
def ZK(fr:Bool)(f:DF):Sp:=λvs H Q Ex=>∃(A pt:Xb->Prop)(args:List Sl)(R:Xc->Prop)(EX:XP),(∀a,A a->∃xs,H a=some (.lst xs))/\(∀p,pt p->A p/\∃n,H p=some (.lst [.int n]))/\Zw (uG A pt H) vs args/\f args R EX /\
 (∀d,R d->∀v H',Kq pt H H'->DA A H' v d->(fr=true->ki H H' v)->Q v H')/\∀C,EX C->∀H',Kq pt H H'->Ex (.ref C) none H'
def M':lg:=λ_ Q _=>Q []
def sV(we:DE)(wr:lg):lg:=λδ Q EX=>we δ (λd=>wr δ (λds=>Q (.v d::ds)) EX) EX
def Fo(i:Nat)(wr:lg):lg:=λδ Q EX=>match δ[i]? with
 |some .eJ=>wr δ (λds=>Q (.eJ::ds)) EX
 |_=>False
def QwQ:PA X [] (oz X.K E M'):=PA.imp Qu λσ H Q ⟨F,δ,R,EX,rel,hw,k,o⟩=>k [] hw [] H rel (Kp.refl rel) .nil
def QDL(he:PE X e<|tX .D X.K E we)(hr:PA X es<|oz X.K E wr)(hs:notStar e=true:=by rfl):PA X (e::es) (oz X.K E<|sV we wr):=by
 refine PA.imp (Y6 he hr hs) λσ H Q ⟨F,δ,R,EX,rel,hw,k,o⟩=>⟨F,δ,_,EX,rel,hw,λd hd v H' aj kp vk=>⟨F,δ,_,EX,aj,hd,λds cI vs H2 aN bC yt=>?_,o⟩,o⟩
 exact k _ cI (v::vs) H2 aN (kp.trans bC)<|.cons (bC.da vk) yt
def QwN(he:PE X e<|Yu i)(hr:PA X es<|oz X.K E wr)(hs:notStar e=true:=by rfl):PA X (e::es) (oz X.K E<|Fo i wr):=by
 refine PA.imp (Y6 he hr hs) λσ H Q ⟨F,δ,R,EX,rel,hw,k,o⟩=>?_
 unfold Fo at hw;split at hw
 ·rename_i hd
  obtain⟨x,hx⟩:=rel.lt hd;obtain⟨p,n,rfl,e,q⟩:=rel.sl i _ _ hx hd;exact⟨.ref p,hx,F,δ,_,EX,rel,hw,λds cI vs H2 aN bC yt=>(k _ cI (.ref p::vs) H2 aN bC<|.cons ⟨p,rfl,i,hx,hd⟩ yt),o⟩
 ·exact hw.elim
def pA(f:DF)(wa:lg):DE:=λδ Q EX=>wa δ (λargs=>f args Q EX) EX
def Kq.kp(k:Kq (YC σ δ) H H'):Kp σ δ H H':=k
def Qi4{K:Ws}(hm:∀{F:Fm}{σ:L2.St}{δ:aS}{H H':Hp}{v:V}{d:Xc},DA (Av F σ δ) H' v d->(fr=true->ki H H' v)->CF m F σ δ H H' v d)(σ:L2.St)(H:Hp)(Q:VK)(h:tX m K E (pA f wa) σ H Q):Ai (ZK fr f) [] E (oz K E wa) σ H Q:=by
 obtain⟨F,δ,R,EX,rel,hw,k,o⟩:=h;refine⟨F,δ,_,EX,rel,hw,λargs ha vs H1 aF bU q=>?_,o⟩;show ZK fr f (vs++[]) H1 Q E;rw[J4];exact⟨Av F σ δ,YC σ δ,args,R,EX,λa ha=>aF.fI ha,λp hp=>⟨g8 hp,(Kp.refl aF).2 p hp⟩,q,ha,λd hd v H' kq dv fr=>(k d hd v H' (aF.kp kq) (bU.trans kq)<|hm dv λz l e1 e2=>ve bU<|fr z l e1 e2),λC hC H' kq=>o C hC H' (aF.kp kq).ke⟩
variable{CX:iV}{k:Nat}{f:Xb}{fd:Z3}{ps:List Str}{x:Str}{p pos:Pos}{e:Zm}{es:List Zm}{fD:DF}{wa:lg}
def Qw2(G:aO X.prog X.w X.K X.mg X.base CX k f fd ps<|ZK false fD)(hr:az k X.A)(hg:Gl X x)(hm:X.mg x=some (.ref f))(hk:Wu X.K (.ref f)=true)(hb:Binds X.K fd ps [])(hx:g7 CX X E)
  (ha:PA X (e::es)<|oz X.K E wa)(bO:(x == ("__debug__" : Str))=false:=by decide)(he:Xh (e::es) X.env=(false,eval e X.env)::Xh es X.env:=by rfl)(hpl:(Xp pos<|Xh es X.env).any (·.1)=false:=by rfl) :
  PE X (.Call (.Name x p) (e::es) [] pos) (tX .D X.K E<|pA fD wa):=PE.imp (K6 G hr hg hm hk hb .nil hx ha bO he hpl)<|Qi4 λh _=>h
def QsE(G:aO X.prog X.w X.K X.mg X.base CX k f fd ps<|ZK true fD)(hr:az k X.A)(hg:Gl X x)(hm:X.mg x=some (.ref f))(hk:Wu X.K (.ref f)=true)(hb:Binds X.K fd ps [])(hx:g7 CX X E)
  (ha:PA X (e::es)<|oz X.K E wa)(bO:(x == ("__debug__" : Str))=false:=by decide)(he:Xh (e::es) X.env=(false,eval e X.env)::Xh es X.env:=by rfl)(hpl:(Xp pos<|Xh es X.env).any (·.1)=false:=by rfl) :
  PE X (.Call (.Name x p) (e::es) [] pos) (tX .F X.K E<|pA fD wa):=PE.imp (K6 G hr hg hm hk hb .nil hx ha bO he hpl)<|Qi4 λh z=>⟨h,z rfl⟩
end
end Dl


namespace Dl
open L2 _root_.Rd Rk
abbrev DG:=Xc->aS->(aS->Prop)->Prop
def tG(ix:List Nat)(K:Ws)(w:DG):TG:=λv σ H Q=>∃(F:Fm)(δ:aS)(d:Xc)(R:aS->Prop),Rel K F σ H δ/\DA (Av F σ δ) H v d/\w d δ R /\
 ∀δ',R δ'->∀σ',Rel K F σ' H δ'->a8 F σ H δ σ' H δ'->σ'.length=σ.length->(∀j,j∉ix->σ'[j]? = σ[j]?)->Q σ' H
def iQ{l:List α}(h:j≠i):(l.set i x)[j]? = l[j]? := EI<|iM h
def bq{l:List α}(h:(l.set i x)[i]? = some y):y=x:=by
 rw[LQ] at h;simp only[if_true] at h;split at h
 ·exact(QL h).symm
 ·cases h
def u0(h:Av F (σ.set i o) (δ.set i<|.v d) a):Av F σ δ a:=by
 rcases h with h | ⟨j,h1,h2⟩
 ·exact .inl h
 ·by_cases z:j=i
  ·subst z;rcases h2 with h2 | ⟨ds,h2⟩<;>cases bq h2
  ·rw[iQ z] at h1 h2;exact .inr ⟨j,h1,h2⟩
def Rel.di{K:Ws}(r:Rel K F σ H δ)(q:DA (Av F σ δ) H v d):Rel K F (σ.set i<|some v) H (δ.set i<|.v d) where
 len:=by rw[Zn,Zn];exact r.len
 i_:=r.i_
 cz:=r.cz
 iE:=r.iE
 kx:=r.kx
 sl:=λj o x h1 h2=>by
  by_cases z:j=i
  ·subst z;cases bq h1;cases bq h2;exact⟨v,rfl,q.mv (λ_ _ _ e=>e) λa z=>.inl<|u0 z⟩
  ·rw[iQ z] at h1 h2;have h:=r.sl j o x h1 h2;cases x with
   |no=>trivial
   |v d=>obtain⟨v',e,q'⟩:=h;exact⟨v',e,q'.mv (λ_ _ _ e=>e) λa z=>.inl<|u0 z⟩
   |own ds=>obtain⟨l,xs,e,e2,q',f⟩:=h;exact⟨l,xs,e,e2,q'.mv (λ_ _ _ e=>e) λa z=>.inl<|u0 z,f⟩
   |pk ds=>obtain⟨l,xs,e,e2,q',f⟩:=h;exact⟨l,xs,e,e2,q'.mv (λ_ _ _ e=>e) λa z=>.inl<|u0 z,f⟩
   |eJ=>exact h
   |oB=>exact h
 inj:=λj k a ds h1 h2 ⟨h3,h4⟩=>by
  by_cases z:j=i
  ·subst z;cases bq h1
  ·rw[iQ z] at h1 h2;by_cases z2:k=i
   ·subst z2;rcases h4 with h4 | ⟨ds,h4⟩<;>cases bq h4
   ·rw[iQ z2] at h3 h4;exact r.inj j k a ds h1 h2 ⟨h3,h4⟩
def a8.di:a8 F σ H δ (σ.set i o) H (δ.set i<|.v d):=⟨λ_ _ _ e=>e,λa z=>.inl<|u0 z⟩
def gN(i:Nat):DG:=λd δ Q=>Q<|δ.set i<|.v d
def Dg:aS->List Nat->List Xc->aS
 |δ,i::is,d::ds=>Dg (δ.set i<|.v d) is ds
 |δ,_,_=>δ
def G7(is:List Nat):DG:=λd δ Q=>match d with
 |.tuple ds=>ds.length=is.length/\Q (Dg δ is ds)
 |_=>False
section
variable{X:Cx}{E:XK}
def PG.imp(h:PG X e t)(i:∀v σ H Q,t' v σ H Q->t v σ H Q):PG X e t':=λXI s σ H v u Q I r q=>h XI s σ H v u Q I r<|i v σ H Q q
def QsC(h:PG X e<|Yj i):PG X e (tG [i] X.K<|gN i):=PG.imp h λv σ H Q ⟨F,δ,d,R,rel,dv,hw,k⟩=>
 k _ hw _ (rel.di dv) a8.di (Zn ..) λj hj=>iQ λz=>hj (by rw[z];exact Qo.mpr rfl)
def Cn:List Nat->wM
 |[]=>Bu
 |i::is=>rG (Yj i)<|Cn is
def Vt{K:Ws}:∀(is:List Nat)(vs:List V)(ds:List Xc)(σ:L2.St)(δ:aS),ds.length=is.length->Rel K F σ H δ->aJ (Av F σ δ) H vs ds ->
  (∀σ',Rel K F σ' H (Dg δ is ds)->a8 F σ H δ σ' H (Dg δ is ds)->σ'.length=σ.length->(∀j,j∉is->σ'[j]? = σ[j]?)->Q σ' H)->Cn is vs σ H Q
 |[],vs,ds,σ,δ,hl,rel,q,k=>by
  cases ds with
  |nil=>cases q;exact⟨rfl,k σ rel a8.refl rfl λ_ _=>rfl⟩
  |cons d ds=>cases hl
 |i::is,vs,ds,σ,δ,hl,rel,q,k=>by
  cases ds with
  |nil=>cases hl
  |cons d ds=>
   cases q with
   |@cons v vs _ _ q qs=>
    refine⟨v,vs,rfl,(Vt is vs ds _ _ (by simpa using hl) (rel.di q) (qs.mv (λ_ _ _ e=>e) λa z=>.inl<|u0 z) λσ' r' st oN hj=>?_)⟩;refine k σ' r' (a8.di.trans st) (by rw[oN,Zn]) λj hn=>?_
    rw[hj j λz=>hn<|QQ _ z,iQ λz=>hn (by rw[z];exact Q1)]
def QwY(h:PG X e<|Bv X.K n<|Cn is)(hn:is.length=n:=by rfl):PG X e (tG is X.K<|G7 is):=PG.imp h λv σ H Q ⟨F,δ,d,R,rel,dv,hw,k⟩=>by
 unfold G7 at hw;split at hw
 ·obtain⟨hl,hR⟩:=hw;cases dv with
  |@tup a xs ds na e q=>
   exact⟨a,xs,rfl,aM.of e,by rw[q.length,hl,hn],Vt is xs _ σ δ hl rel q λσ' r' st oN hj=>k _ hR σ' r' st oN hj⟩
 ·exact hw.elim
def BH(A S:Xb->Prop)(J:It)(items:List Xc)(H1:Hp):Prop:=items.length<=Xj/\∀(H2:Hp)(A':Xb->Prop),(∀b o,S b->H1 b=some o->H2 b=some o)->(∀b,A' b->A b∨H1 b=none)->(∀a,A' a->∃xs,H2 a=some (.lst xs)) ->
 (∀(i:Nat) d,items[i]? = some d->J.go i H2/\∀x H3,J.ow i H2 x H3->ag H2 H3/\DA A' H3 x d)/\J.stop items.length H2
def Sx(m:Md)(F:Fm)(σ:L2.St)(δ:aS)(b:Xb):Prop:=
 match m with
 |.P=>¬YC σ δ b
 |_=>¬Av F σ δ b
abbrev DI:=aS->(List Xc->Prop)->XP->Prop
def tI(m:Md)(K:Ws)(E:XK)(w:DI):TI:=λσ H R=>∃(F:Fm)(δ:aS)(R':List Xc->Prop)(EX:XP),Rel K F σ H δ/\w δ R' EX/\(∀items,R' items->∀J H',Rel K F σ H' δ->Kp σ δ H H'->BH (Av F σ δ) (Sx m F σ δ) J items H'->R J H')/\Out F E EX
def PI.imp(h:PI X tg e t)(i:∀σ H R,jg H->t' σ H R->t σ H R):PI X tg e t':=λXI s σ H R I q=>h XI s σ H R I<|i σ H R (Inv.j3 I) q
def PI.len(h:PI X tg e t):PI X tg e (λσ H R=>t σ H λJ H1=>jg H1->R J H1):=λXI s σ H R I q=>by
 refine aD (h XI s σ H _ I q) λv s1 h1=>aD h1 λnq s2 h2=>?_
 obtain⟨it,fp,tn,J,H',e,I',T,t0,fo,hR⟩:=h2;exact⟨it,fp,tn,J,H',e,I',T,t0,fo,hR<|Inv.j3 I'⟩
def QE9(w:DE):DI:=λδ Q EX=>w δ (λd=>match d with
 |.list ds=>Q ds
 |_=>False) EX
def QE8(w:DE):DI:=λδ Q EX=>w δ (λd=>match d with
 |.tuple ds=>Q ds
 |_=>False) EX
def Eb{S:Xb->Prop}(sA:∀b,¬A b->S b)(k:∀b o,S b->H b=some o->H2 b=some o)(m:∀b,A' b->A b∨H b=none)(q:aJ A H xs ds):aJ A' H2 xs ds:=q.mv (λa o n e=>k a o (sA a n) e) m
def QD2{K:Ws}(sA:∀b,¬A b->S b)(sl:S l)(e:H l=some (.lst xs))(q:aJ A H xs ds)(ln:xs.length<=Xj):BH A S (Nn K l) ds H:=by
 refine⟨by rw[<- q.length];exact ln,λH2 A' k m dm=>⟨λi d hd=>?_,xs,aA.of<|k _ _ sl e,by rw[q.length];exact Qd _⟩⟩;obtain⟨x,hx,dx⟩:=(Eb sA k m q).get i d hd;refine⟨⟨xs,x,aA.of<|k _ _ sl e,hx⟩,λy H3 ⟨e3,hy⟩=>?_⟩;subst e3;have:=hy xs<|aA.of<|k _ _ sl e;rw[hx] at this;cases this;exact⟨ag.refl _,dx⟩
def QD0{K:Ws}(sA:∀b,¬A b->S b)(sl:S l)(e:H l=some (.tup xs))(q:aJ A H xs ds)(ln:xs.length<=Xj):BH A S (yn K l) ds H:=by
 refine⟨by rw[<- q.length];exact ln,λH2 A' k m dm=>⟨λi d hd=>?_,xs,aM.of<|k _ _ sl e,by rw[q.length];exact Qd _⟩⟩;obtain⟨x,hx,dx⟩:=(Eb sA k m q).get i d hd;refine⟨⟨xs,x,aM.of<|k _ _ sl e,hx⟩,λy H3 ⟨e3,hy⟩=>?_⟩;subst e3;have:=hy xs<|aM.of<|k _ _ sl e;rw[hx] at this;cases this;exact⟨ag.refl _,dx⟩
def xf(h:¬Av F σ δ b):Sx m F σ δ b:=by
 cases m
 ·exact h
 ·exact λz=>h<|g8 z
 ·exact h
def NP{m:Md}{F:Fm}{σ:L2.St}{δ:aS}{H H':Hp}{v:V}{ds:List Xc}(h:VD m (Av F σ δ) (YC σ δ) H v<|.list ds):∃l xs,v=.ref l/\Sx m F σ δ l/\H l=some (.lst xs)/\aJ (Av F σ δ) H xs ds:=by
 cases m
 ·cases h with | @lst a xs _ n e q=>exact⟨a,xs,rfl,n,e,q⟩
 ·rcases h with h | ⟨l,xs,i',rfl,e,n,e2,q⟩
  ·cases h with | @lst a xs _ n e q=>exact⟨a,xs,rfl,xf n,e,q⟩
  ·cases e;exact⟨l,xs,rfl,n,e2,q⟩
 ·cases h with | @lst a xs _ n e q=>exact⟨a,xs,rfl,n,e,q⟩
def f6{m:Md}{F:Fm}{σ:L2.St}{δ:aS}{H H':Hp}{v:V}{ds:List Xc}(h:VD m (Av F σ δ) (YC σ δ) H v<|.tuple ds):∃l xs,v=.ref l/\Sx m F σ δ l/\H l=some (.tup xs)/\aJ (Av F σ δ) H xs ds:=by
 cases m
 ·cases h with | @tup a xs _ n e q=>exact⟨a,xs,rfl,n,e,q⟩
 ·rcases h with h | ⟨l,xs,i',rfl,e,n,e2,q⟩
  ·cases h with | @tup a xs _ n e q=>exact⟨a,xs,rfl,xf n,e,q⟩
  ·cases e
 ·cases h with | @tup a xs _ n e q=>exact⟨a,xs,rfl,n,e,q⟩
def C7(h:CF m F σ δ H H' v d):VD m (Av F σ δ) (YC σ δ) H' v d:=by
 cases m
 ·exact h
 ·exact h
 ·exact h.1
variable{m:Md}{tg e e':Zm}{w w':DE}{p pos cM:Pos}
def QsB(h:PE X e<|tX m X.K E w):PI X tg e (tI m X.K E<|QE9 w):=by
 refine PI.imp (PI.len<|AV h) λσ H R _ ⟨F,δ,R',EX,rel,hw,k,o⟩=>?_
 refine⟨F,δ,_,EX,rel,hw,λd hd v H' aj kp vk=>?_,o⟩;cases d<;>first | exact(show False from hd).elim | skip
 obtain⟨l,xs,rfl,sl,e,q⟩:=NP (H':=H')<|C7 vk;exact⟨l,rfl,⟨xs,aA.of e⟩,λln=>k _ hd _ H' aj kp<|QD2 (λb=>xf) sl e q<|ln _ _<|.inl e⟩
def QwX(h:PE X e<|tX m X.K E w):PI X tg e (tI m X.K E<|QE8 w):=by
 refine PI.imp (PI.len<|C_ h) λσ H R _ ⟨F,δ,R',EX,rel,hw,k,o⟩=>?_
 refine⟨F,δ,_,EX,rel,hw,λd hd v H' aj kp vk=>?_,o⟩;cases d<;>first | exact(show False from hd).elim | skip
 obtain⟨l,xs,rfl,sl,e,q⟩:=f6 (H':=H')<|C7 vk;exact⟨l,rfl,⟨xs,aM.of e⟩,λln=>k _ hd _ H' aj kp<|QD0 (λb=>xf) sl e q<|ln _ _<|.inr e⟩
def gX(lo:Int)(n:Nat):List Xc:=(Qv n).map λ(i:Nat)=>.int<|lo+i
def u7{lo:Int}{n i:Nat}{d:Xc}(h:(gX lo n)[i]? = some d):i<n/\d=.int (lo+i):=by
 unfold gX at h;rw[Qq] at h;by_cases z:i<n
 ·rw[JP z] at h;exact⟨z,(QL h).symm⟩
 ·rw[Jz (by rw[Q5];omega)] at h;cases h
def DB{lo:Int}:(gX lo n).length=n:=by unfold gX;rw[Qb,Q5]
def QD1{lo:Int}(hn:n<=1000000):BH A S (vz lo n) (gX lo n) H:=by
 refine⟨by rw[DB];exact QK hn rK,λH2 A' k m dm=>⟨λi d hd=>?_,by rw[DB];exact Qd _⟩⟩;obtain⟨hi,rfl⟩:=u7 hd;exact⟨hi,λx H3 ⟨e1,e2⟩=>by subst e1 e2;exact⟨ag.refl _,.int _⟩⟩
def QBM(w:DE):DI:=λδ Q EX=>w δ (λd=>match d with
 |.int j=>(-1000000<=j/\j<=1000000)/\Q (gX 0 j.toNat)
 |_=>False) EX
def QsA(hg:Gl X "range")(hm:X.mg "range" = none)(h:PE X e<|tX .P X.K E w)(hs:notStar e=true:=by rfl):PI X tg (.Call (.Name "range" p) [e] [] pos) (tI m X.K E<|QBM w):=by
 refine PI.imp (pO hg hm (Y6 h Qu hs) (by rw[mz hs];rfl)) λσ H R _ ⟨F,δ,R',EX,rel,hw,k,o⟩=>?_
 refine⟨F,δ,_,EX,rel,hw,λd hd v H' aj kp vk=>?_,o⟩;cases d<;>first | exact(hd).elim | skip
 obtain⟨⟨h1,h2⟩,hR⟩:=hd;rw[DP.int vk];exact⟨_,rfl,by omega,by omega,k _ hR _ H' aj kp<|QD1<|by omega⟩
def Uz(dm:∀a,A' a->∃xs,H2 a=some (.lst xs))(n:H2 r=none)(q:DA A' H2 x d)(q':DA A' H2 y d'):DA A' (upd H2 r<|.tup [x,y]) (.ref r) (.tuple [d,d']):=
 .tup (λz=>by obtain⟨xs,e⟩:=dm r z;rw[n] at e;cases e) af (.cons (q.same<|JA n)<|.cons (q'.same<|JA n) .nil)
def ph(ds:List Xc):List Xc:=(Qv ds.length).map λ(i:Nat)=>.tuple [.int i,ds.getD i .none]
def xS{i:Nat}(h:(ph ds)[i]? = some d):∃e,ds[i]? = some e/\d=.tuple [.int i,e]:=by
 unfold ph at h;rw[Qq] at h;by_cases z:i<ds.length
 ·rw[JP z] at h;refine⟨ds[i],Qc z,?_⟩;rw[<- QL h];show sk [.int i,ds.getD i .none]=_;rw[Qi,Qc z];rfl
 ·rw[Jz (by rw[Q5];omega)] at h;cases h
def vo:(ph ds).length=ds.length:=by unfold ph;rw[Qb,Q5]
def QFc(w:DE):DI:=λδ Q EX=>w δ (λd=>match d with
 |.list ds=>Q<|ph ds
 |_=>False) EX
def QFb(w:DE):DI:=λδ Q EX=>w δ (λd=>match d with
 |.tuple ds=>Q<|ph ds
 |_=>False) EX
variable{elts:List Zm}
def QoB{x1}(hg:Gl X "enumerate")(hm:X.mg "enumerate" = none)(h:PE X e<|tX m X.K E w)(hs:notStar e=true:=by rfl):PI X (.Tuple elts x1 cM) (.Call (.Name "enumerate" p) [e] [] pos) (tI m X.K E<|QFc w):=by
 refine PI.imp (PI.len<|QwB hg hm (Y6 h Qu hs) (by rw[mz hs];rfl)) λσ H R _ ⟨F,δ,R',EX,rel,hw,k,o⟩=>?_
 refine⟨F,δ,_,EX,rel,hw,λd hd v H' aj kp vk=>?_,o⟩;cases d<;>first | exact(show False from hd).elim | skip
 obtain⟨l,xs,rfl,sl,e,q⟩:=NP (H':=H')<|C7 vk;refine⟨l,xs,rfl,e,λln=>k _ hd _ H' aj kp ⟨by rw[vo,<- q.length];exact ln _ _<|.inl e,λH2 A' kk mm dm=>⟨λi d dB=>?_,xs,kk _ _ sl e,by rw[vo,q.length];exact Qd _⟩⟩⟩;obtain⟨d',hd2,rfl⟩:=xS dB;obtain⟨x,hx,dx⟩:=(Eb (S:=Sx m F σ δ) (λb=>xf) kk mm q).get i d' hd2;refine⟨⟨xs,x,kk _ _ sl e,hx⟩,λy H3 ⟨r,x',nr,iG,e1,e2⟩=>?_⟩;subst e1 e2;have:=iG xs<|kk _ _ sl e;rw[hx] at this;cases this;exact⟨JA nr,Uz dm nr (.int _) dx⟩
def QoA{x1}(hg:Gl X "enumerate")(hm:X.mg "enumerate" = none)(h:PE X e<|tX m X.K E w)(hs:notStar e=true:=by rfl):PI X (.Tuple elts x1 cM) (.Call (.Name "enumerate" p) [e] [] pos) (tI m X.K E<|QFb w):=by
 refine PI.imp (PI.len<|Qsd hg hm (Y6 h Qu hs) (by rw[mz hs];rfl)) λσ H R _ ⟨F,δ,R',EX,rel,hw,k,o⟩=>?_
 refine⟨F,δ,_,EX,rel,hw,λd hd v H' aj kp vk=>?_,o⟩;cases d<;>first | exact(show False from hd).elim | skip
 obtain⟨l,xs,rfl,sl,e,q⟩:=f6 (H':=H')<|C7 vk;refine⟨l,xs,rfl,e,λln=>k _ hd _ H' aj kp ⟨by rw[vo,<- q.length];exact ln _ _<|.inr e,λH2 A' kk mm dm=>⟨λi d dB=>?_,xs,kk _ _ sl e,by rw[vo,q.length]⟩⟩⟩;obtain⟨d',hd2,rfl⟩:=xS dB;obtain⟨x,hx,dx⟩:=(Eb (S:=Sx m F σ δ) (λb=>xf) kk mm q).get i d' hd2;refine⟨⟨xs,x,kk _ _ sl e,hx⟩,λy H3 ⟨r,x',nr,iG,e1,e2⟩=>?_⟩;subst e1 e2;have:=iG xs<|kk _ _ sl e;rw[hx] at this;cases this;exact⟨JA nr,Uz dm nr (.int _) dx⟩
end
def HF:Option Sl->Sl
 |some (.v d)=>.v d
 |some (.own ds)=>.pk ds
 |some (.pk ds)=>.pk ds
 |some .eJ=>.eJ
 |_=>.no
def eY(cap:List<|Option Nat)(δ:aS):aS:=cap.map λo=>match o with
 |none=>.no
 |some j=>HF δ[j]?
def LG{i:Nat}(h:(dE cap σ)[i]? = some o):(cap[i]? = some none/\o=none)∨∃j,cap[i]? = some (some j)/\o=(σ[j]?).getD none:=by
 unfold dE at h;rw[Qq] at h;obtain⟨c,hc,rfl⟩:=Ja.mp h;cases c with
 |none=>exact .inl ⟨hc,rfl⟩
 |some j=>exact .inr ⟨j,hc,rfl⟩
def LF{i:Nat}(h:(eY cap δ)[i]? = some x):(cap[i]? = some none/\x=.no)∨∃j,cap[i]? = some (some j)/\x=HF δ[j]? := by
 unfold eY at h;rw[Qq] at h;obtain⟨c,hc,rfl⟩:=Ja.mp h;cases c with
 |none=>exact .inl ⟨hc,rfl⟩
 |some j=>exact .inr ⟨j,hc,rfl⟩
def sg{i:Nat}(h1:(dE cap σ)[i]? = some o)(h2:(eY cap δ)[i]? = some x)(hx:x≠.no):∃(j:Nat)(y:Sl),δ[j]? = some y/\x=HF (some y)/\o=(σ[j]?).getD none:=by
 rcases LF h2 with⟨_,e⟩ | ⟨j,hj,e⟩
 ·exact Z_ e hx
 ·rcases LG h1 with⟨z,_⟩ | ⟨j',zt,e'⟩
  ·rw[hj] at z;cases z
  ·rw[hj] at zt;cases zt;cases e2:δ[j]? with
   |none=>rw[e2] at e;exact Z_ e hx
   |some y=>exact⟨j,y,e2,by rw[e,e2],e'⟩
def u9(h:YC (dE cap σ) (eY cap δ) a):YC σ δ a:=by
 obtain⟨i,h1,h2⟩:=h;obtain⟨j,y,hy,e,eo⟩:=sg h1 h2 nofun;cases y<;>first | (cases e;done) | skip
 refine⟨j,?_,hy⟩;cases e2:σ[j]? with
 |none=>rw[e2] at eo;cases eo
 |some o'=>rw[e2] at eo;exact congrArg some eo.symm
def dj(A1:Xb->Prop)(cap:List<|Option Nat)(σ:L2.St)(δ:aS)(H:Hp):Fm:=⟨H,A1,YC (dE cap σ)<|eY cap δ⟩
def C4(h:∀a,YC σ δ a->A1 a):Av (dj A1 cap σ δ H) (dE cap σ) (eY cap δ) a↔A1 a:=by
 constructor
 ·rintro(z | ⟨i,h1,h2⟩)
  ·exact z
  ·rcases h2 with h2 | ⟨ds,h2⟩
   ·exact h a<|u9 ⟨i,h1,h2⟩
   ·obtain⟨j,y,hy,e,eo⟩:=sg h1 h2 nofun;cases y<;>cases e
 ·exact .inl
def II{K:Ws}(rel:Rel K F σ H1 δ)(hA:∀a,Av F σ δ a->A1 a)(hN:∀a,A1 a->Av F σ δ a∨H1 a=none)
  (dm:∀a,A1 a->∃xs,H3 a=some (.lst xs))(kp:Kp σ δ H1 H3):Rel K (dj A1 cap σ δ H3) (dE cap σ) H3 (eY cap δ) where
 len:=by unfold dE eY;rw[Qb,Qb]
 i_:=dm
 cz:=dm
 iE:=λp hp=>⟨hA p<|g8<|u9 hp,kp.2 p<|u9 hp⟩
 kx:=λb o _ e=>e
 sl:=λi o x h1 h2=>by
  have iv:∀{a:Xb},Av (dj A1 cap σ δ H3) (dE cap σ) (eY cap δ) a->A1 a:=λ{a}=>(C4 λa z=>hA a<|g8 z).mp
  have mv:∀{v:V}{d:Xc},DA (Av F σ δ) H1 v d->DA (Av (dj A1 cap σ δ H3) (dE cap σ)<|eY cap δ) H3 v d:=λq=>q.mv (λa o n e=>kp.1 a o (λz=>n<|g8 z) e) λa z=>hN a<|iv z
  have N7:∀{v:List V}{d:List Xc},aJ (Av F σ δ) H1 v d->aJ (Av (dj A1 cap σ δ H3) (dE cap σ)<|eY cap δ) H3 v d:=λq=>q.mv (λa o n e=>kp.1 a o (λz=>n<|g8 z) e) λa z=>hN a<|iv z
  cases x with
  |no=>trivial
  |own ds=>
   obtain⟨j,y,hy,e,eo⟩:=sg h1 h2 nofun;cases y<;>cases e
  |oB=>
   obtain⟨j,y,hy,e,eo⟩:=sg h1 h2 nofun;cases y<;>cases e
  |v d=>
   obtain⟨j,y,hy,e,eo⟩:=sg h1 h2 nofun;cases y<;>first | (cases e;done) | skip
   cases e;obtain⟨x,hx⟩:=rel.lt hy;obtain⟨v,rfl,q⟩:=rel.sl j _ _ hx hy;rw[hx] at eo;exact⟨v,eo,mv q⟩
  |pk ds=>
   obtain⟨j,y,hy,e,eo⟩:=sg h1 h2 nofun;cases y<;>first | (cases e;done) | skip
   ·cases e;obtain⟨x,hx⟩:=rel.lt hy;obtain⟨l,xs,rfl,e,q,f⟩:=rel.sl j _ _ hx hy;rw[hx] at eo;have np:=rel.a7 hy hx;exact⟨l,xs,eo,kp.1 _ _ np e,N7 q,xs,kp.1 _ _ np e,λz=>np<|u9 z⟩
   ·cases e;obtain⟨x,hx⟩:=rel.lt hy;obtain⟨l,xs,rfl,e,q,ys,f,f2⟩:=rel.sl j _ _ hx hy;rw[hx] at eo;have np:¬YC σ δ l:=by
     rintro⟨j,j1,j2⟩;obtain⟨p,m,e1,_,w⟩:=rel.sl j _ _ j1 j2;cases e1;rcases w with w | w
     ·exact f2 w
     ·rw[w] at f;cases f
    exact⟨l,xs,eo,kp.1 _ _ np e,N7 q,xs,kp.1 _ _ np e,λz=>np<|u9 z⟩
  |eJ=>
   obtain⟨j,y,hy,e,eo⟩:=sg h1 h2 nofun;cases y<;>first | (cases e;done) | skip
   obtain⟨x,hx⟩:=rel.lt hy;obtain⟨p,n,rfl,e,q⟩:=rel.sl j _ _ hx hy;rw[hx] at eo;obtain⟨m,em⟩:=kp.2 p ⟨j,hx,hy⟩;have eo':=eo;subst eo';exact⟨p,m,rfl,em,.inl ⟨i,h1,h2⟩⟩
 inj:=λi j a ds h1 h2 _=>by
  obtain⟨j,y,hy,e,eo⟩:=sg h2 h1 nofun;cases y<;>cases e
def C2:∀{σ σ':L2.St},σ'.length=σ.length->(∀(i:Nat) v,σ[i]? = some (some v)->σ'[i]? = some (some v))->Wk σ σ'
 |[],[],_,_=>trivial
 |[],_::_,h,_=>by cases h
 |_::_,[],h,_=>by cases h
 |none::a,x::b,h,g=>C2 (σ':=b) (by simpa using h) λi v e=>by simpa using g (i+1) v (by simpa using e)
 |some u::a,x::b,h,g=>by
  have h0:=g 0 u rfl;simp only[List.getElem?_cons_zero,Option.some.injEq] at h0;subst h0;exact⟨rfl,C2 (by simpa using h) λi v e=>by simpa using g (i+1) v (by simpa using e)⟩
def jh(cap:List<|Option Nat)(ix:List Nat):Bool:=ix.all λi=>match cap[i]? with
 |some none=>true
 |_=>false
def RK(hf:jh cap ix=true)(hl:σ4.length=(dE cap σ).length)(hj:∀j,j∉ix->σ4[j]? = (dE cap σ)[j]?):Wk (dE cap σ) σ4:=by
 refine C2 hl λi v e=>?_
 by_cases z:i∈ix
 ·have:=ZG.mp hf i z;rcases LG e with⟨_,e2⟩ | ⟨j,wC,_⟩
  ·cases e2
  ·rw[wC] at this;cases this
 ·rw[hj i z];exact e
def XF:XP:=λ_=>False
@[irreducible] def uH(items:List Xc)(wg:DG)(wt:DT)(we:DE)(δ:aS)(Q:Xc->Prop):Prop:=∃Iv:Nat->List Xc->Prop,Iv 0 [] /\
 (∀(i:Nat) acc d,items[i]? = some d->Iv i acc->wg d δ λδ4=>wt δ4 (λb=>if b=true then we δ4 (λe=>Iv (i+1)<|acc++[e]) XF else Iv (i+1) acc) XF)/\∀acc,Iv items.length acc->Q (.list acc)
def jE(cap:List<|Option Nat)(wi:DI)(wg:DG)(wt:DT)(we:DE):DE:=λδ Q EX=>wi δ (λitems=>uH items wg wt we (eY cap δ) Q) EX
def M0:DT:=λ_ Q _=>Q true
section
variable{X:Cx}{E:XK}
def uF:Out F E XF:=λ_ z=>z.elim
def iR.imp(h:iR X es t)(i:∀σ H Q,t' σ H Q->t σ H Q):iR X es t':=λXI s σ H Q I q=>h XI s σ H Q I<|i σ H Q q
def Qsq:iR X [] (tT X.K E M0):=iR.imp kX λσ H Q ⟨F,δ,R,EX,rel,hw,k,o⟩=>k _ hw H rel<|Kp.refl rel
def Qsp(h:PT X c<|tT X.K E t):iR X [c] (tT X.K E t):=Qww h
def Lj{K:Ws}(r:Rel K (dj A1 cap σ δ H3) σ4 H4 δ4)(hk:∀b o,¬YC σ δ b->H4 b=some o->H3 b=none->False)(h:YC σ4 δ4 b):YC σ δ b:=by
 obtain⟨i,h1,h2⟩:=h;obtain⟨p,n,e,hp,w⟩:=r.sl i _ _ h1 h2;cases e;rcases w with w | w
 ·exact u9 w
 ·by_cases z:YC σ δ b
  ·exact z
  ·exact(hk b _ z hp w).elim
def UI{K:Ws}{T:aS->Prop} 
  (hf:jh cap ix=true)(rel:Rel K F σ H1 δ)(hA:∀a,Av F σ δ a->A1 a)(hN:∀a,A1 a->Av F σ δ a∨H1 a=none)(dm:∀a,A1 a->∃xs,H3 a=some (.lst xs))(kp:Kp σ δ H1 H3)(dx:DA A1 H3 x d)
  (h:wg d (eY cap δ) λδ4=>wt δ4 (λb=>if b=true then T δ4 else N) XF)
  (hT:∀σ4 δ4 H5,T δ4->Rel K (dj A1 cap σ δ H3) σ4 H5 δ4->Kp σ δ H3 H5->(∀b,YC σ4 δ4 b->YC σ δ b)->inner σ4 H5 kk)(hF:N->∀H5,Kp σ δ H3 H5->kk H5) :
  uo (dE cap σ) (tG ix K wg) (tT K E0 wt) inner x H3 kk:=by
 have ri:=II (cap:=cap) rel hA hN dm kp;have iv:∀{a:Xb},Av (dj A1 cap σ δ H3) (dE cap σ) (eY cap δ) a->A1 a:=λ{a}=>(C4 λa z=>hA a<|g8 z).mp
 refine⟨dj A1 cap σ δ H3,eY cap δ,d,_,ri,dx.mv (λ_ _ _ e=>e) λa z=>.inl<|iv z,h,λδ4 h4 σ4 r4 kz l4 j4=>⟨RK hf l4 j4,dj A1 cap σ δ H3,δ4,_,XF,r4,h4,λb hb H5 r5 tw=>?_,uF⟩⟩;have cq:∀{b:Xb},YC σ4 δ4 b->YC σ δ b:=λz=>Lj r4 (λb o _ e1 e2=>by rw[e2] at e1;cases e1) z
 have K5:Kp σ δ H3 H5:=by
  refine⟨λb o n e=>tw.1 b o (λz=>n<|cq z) e,λb hb=>?_⟩;by_cases z:YC σ4 δ4 b
  ·exact tw.2 b z
  ·obtain⟨n,e⟩:=kp.2 b hb;exact⟨n,tw.1 _ _ z e⟩
 exact nU hb (λz=>hT σ4 δ4 H5 z r5 K5 λb=>cq) λz=>hF z H5 K5
structure Lp (σ:L2.St) (δ:aS) (A1:Xb->Prop) (p:Xb) (H1 H2:Hp) (acc:List Xc):Prop where
 kp:Kp σ δ H1 H2
 at_:∃ys,H2 p=some (.lst ys)/\aJ A1 H2 ys acc
def Lp.step(zl:∀a,YC σ δ a->A1 a)(dH:¬YC σ δ p)(h:Lp σ δ A1 p H1 H2 acc)(k:Kp σ δ H2 H3):Lp σ δ A1 p H1 H3 acc:=by
 obtain⟨ys,e,q⟩:=h.at_;exact⟨h.kp.trans k,ys,k.1 _ _ dH e,q.mv (λa o n e=>k.1 a o (λz=>n<|zl a z) e) λa z=>.inl z⟩
def P5{K:Ws} 
  (zl:A1 p)(hP:∀a,YC σ δ a->A1 a)(Gz:H1 p=none)(dH:¬YC σ δ p)(lp:Lp σ δ A1 p H1 H5 acc)(hl:acc.length<Xj)(r5:Rel K (dj A1 cap σ δ H3) σ4 H5 δ4)(cq:∀b,YC σ4 δ4 b->YC σ δ b)
  (h:we δ4 G XF)(hk:∀e,G e->∀H',Lp σ δ A1 p H1 H' (acc++[e])->kk H'):wU p (tX .D K E0 we) σ4 H5 kk:=by
 refine⟨dj A1 cap σ δ H3,δ4,G,XF,r5,h,λe he v H6 r6 qL dv=>?_,uF⟩;have Gp:Kp σ δ H5 H6:=by
  refine⟨λb o n e=>qL.1 b o (λz=>n<|cq b z) e,λb hb=>?_⟩;by_cases z:YC σ4 δ4 b
  ·exact qL.2 b z
  ·obtain⟨n,e⟩:=lp.kp.2 b hb;exact⟨n,qL.1 _ _ z e⟩
 obtain⟨k6,ys,e6,q6⟩:=lp.step hP dH Gp;have up:∀{b:Xb}{o:HO},¬A1 b->H6 b=some o->upd H6 p (.lst<|ys++[v]) b=some o:=λ{b o} n e=>by rw[QY λz=>n (by rw[z];exact zl)];exact e
 refine⟨ys,e6,by rw[q6.length];exact hl,hk e he _ ⟨⟨λb o n e=>?_,λb hb=>?_⟩,ys++[v],af,aJ.app (q6.mv (λ_ _=>up) λa z=>.inl z)<|.cons (DA.mv dv (λa o n e=>up (λz=>n<|.inl z) e) λa z=>.inl<|.inl z) .nil⟩⟩
 ·rw[QY (λz=>by rw[z,Gz] at e;cases e)];exact k6.1 b o n e
 ·rw[QY λz=>dH (by rw[<- z];exact hb)];exact k6.2 b hb
def Qw1(hc:X.calm=true)(ok:pz X.N X.env.scope M scope cap=true)(hf:jh cap ix=true)
  (hi:PI X tg iter<|tI .P X.K E wi)(hb:∀cl ex s3 H3 C,PG (bV X M scope cl ex s3 H3 C) tg (tG ix X.K wg)/\iR (bV X M scope cl ex s3 H3 C) ifs (tT X.K E0 wt)/\PE (bV X M scope cl ex s3 H3 C) elt (tX .D X.K E0 we))
  (hs:∀x,Xn iter X.env x=pure x:=by intro _;rfl):PE X (.ListComp elt [⟨tg,iter,ifs,0⟩] scope pos) (tX .F X.K E<|jE cap wi wg wt we):=by
 refine PE.imp (Y5 hc ok hi hb hs) λσ H Q ⟨F,δ,R,EX,rel,hw,k,o⟩=>⟨F,δ,_,EX,rel,hw,λitems hC J H1 aF bU ⟨ln,it⟩ p hp=>?_,o⟩
 unfold uH at hC;obtain⟨Iv,i0,step,fin⟩:=hC;have dH:¬YC σ δ p:=λz=>by obtain⟨xs,e⟩:=aF.fI<|g8 z;rw[hp] at e;cases e
 let A1:Xb->Prop:=λa=>Av F σ δ a∨a=p
 have hP:∀a,YC σ δ a->A1 a:=λa z=>.inl<|g8 z
 have hN:∀a,A1 a->Av F σ δ a∨H1 a=none:=λa z=>z.elim .inl λz=>.inr (by rw[z];exact hp)
 have jD:∀{H2:Hp},Kp σ δ H1 H2->(∃ys,H2 p=some (.lst ys))->∀a,A1 a->∃xs,H2 a=some (.lst xs):=λ{H2} k2 e2 a z=>by
  rcases z with z | z
  ·exact(aF.kp k2).fI z
  ·rw[z];exact e2
 refine AS items.length (λi H2=>i<=items.length/\∃acc,Iv i acc/\acc.length<=i/\Lp σ δ A1 p H1 H2 acc) ⟨Q9 _,[],i0,Qd _,Kp.same aF<|JA hp,[],af,.nil⟩ (λi H2 hi ⟨_,acc,iv,hl,lp⟩=>?_) λH2 ⟨_,acc,iv,hl,lp⟩=>?_
 ·obtain⟨k2,ys,e2,q2⟩:=lp;obtain⟨go,_⟩:=it H2 A1 (λb o n e=>k2.1 b o n e) hN<|jD k2 ⟨ys,e2⟩;have hd:=Qc hi;obtain⟨g1,g2⟩:=go i _ hd;refine⟨g1,λx H3 y kk hk=>?_⟩;obtain⟨s3,dx⟩:=g2 x H3 y;have y_:=Kp.same (aF.kp k2) s3;have jw:=Lp.step hP dH ⟨k2,ys,e2,q2⟩ y_;refine UI hf aF (λa z=>.inl z) hN (jD jw.kp ⟨ys,s3 _ _ e2⟩) jw.kp dx (step i acc _ hd iv) (λσ4 δ4 H5 h5 r5 k5 cq=>?_) λh5 H5 k5=>hk _ ⟨hi,acc,h5,by omega,jw.step hP dH k5⟩
  exact P5 (.inr rfl) hP hp dH (jw.step hP dH k5) (by omega) r5 cq h5 λe he H' yX=>hk _ ⟨hi,acc++[e],he,by rw[Qj];show _+1<=_;omega,yX⟩
 ·obtain⟨k2,ys,e2,q2⟩:=lp;obtain⟨_,st⟩:=it H2 A1 (λb o n e=>k2.1 b o n e) hN<|jD k2 ⟨ys,e2⟩;refine⟨st,k _ (fin acc iv) (.ref p) H2 (aF.kp k2) (bU.trans k2) ⟨.lst (λz=>?_) e2<|q2.mv (λ_ _ _ e=>e) λa z=>.inl<|.inl z,λl e1 _=>?_⟩⟩
  ·obtain⟨xs,e⟩:=aF.fI z;rw[hp] at e;cases e
  ·cases e1;exact ve bU hp
def kg{items:List Xc}{wg:DG}{wt:DT}{we:DE}{δ:aS}{Q:Xc->Prop}(G:Xc->Option Xc)
  (h:∀d∈items,∀(k1:Prop)(k2:Xc->Prop),(G d=none->k1)->(∀e,G d=some e->k2 e)->wg d δ λδ4=>wt δ4 (λb=>if b=true then we δ4 k2 XF else k1) XF)(q:Q<|.list<|items.filterMap G) :
  uH items wg wt we δ Q:=by
 unfold uH;refine⟨λi acc=>acc=(items.take i).filterMap G,by simp,λi acc d hd e=>?_,λacc e=>by rw[e,Zh];exact q⟩;have hs:(items.take<|i+1).filterMap G=(items.take i).filterMap G++(G d).toList:=by
  rw[ZV,hd];cases e2:G d<;>simp[e2]
 have e:=e;refine h d (Jb hd) _ _ (λe2=>?_) λe' e2=>?_
 ·show acc=(items.take<|i+1).filterMap G;rw[hs,e2,e];simp
 ·show acc++[e']=(items.take<|i+1).filterMap G;rw[hs,e2,e];rfl
def uT{items:List Xc}{wg:DG}{we:DE}{δ:aS}{Q:Xc->Prop}(G:Xc->Xc)
  (h:∀d∈items,∀(k2:Xc->Prop),k2 (G d)->wg d δ λδ4=>we δ4 k2 XF)(q:Q<|.list<|items.map G) :
  uH items wg M0 we δ Q:=by
 unfold uH;refine⟨λi acc=>acc=(items.take i).map G,by simp,λi acc d hd e=>?_,λacc e=>by rw[e,Zh];exact q⟩;have hs:(items.take<|i+1).map G=(items.take i).map G++[G d]:=by
  rw[ZV,hd];simp
 have e:=e;have hh:=h d (Jb hd) (λe=>acc++[e]=(items.take<|i+1).map G) (by rw[hs,e]);exact hh
end
def T_:∀{a b:List (Int×Int)},zU a=zU b->a=b
 |[],[],_=>rfl
 |[],_::_,h=>by cases h
 |_::_,[],h=>by cases h
 |p::a,q::b,h=>by
  have h:=vq (h);have h1:=ZD h.1;rw[T_ h.2,rV (Ku h1.1)<|V.int.inj h1.2]
def Qym(d d':Xc)(x:V)(q:DA A H x d)(h:DA B H x d'):d=d':=by
 refine DA.rec (motive_1:=λx d _=>∀d',DA B H x d'->d=d') (motive_2:=λxs ds _=>∀es,aJ B H xs es->ds=es) ?_ ?_ ?_ ?_ ?_ ?_ ?_ ?_ ?_ q d' h
 ·intro d' h;cases h;rfl
 ·intro _ d' h;cases h;rfl
 ·intro _ d' h;cases h;rfl
 ·intro _ _ d' h;cases h;rfl
 ·intro a xs ds n e _ ih d' h;cases h with
  |tup n' e' q'=>rw[e] at e';cases e';rw[ih _ q']
  |lst n' e' q'=>rw[e] at e';cases e'
  |gH n' e' q'=>rw[e] at e';cases e'
 ·intro a xs ds n e _ ih d' h;cases h with
  |tup n' e' q'=>rw[e] at e';cases e'
  |lst n' e' q'=>rw[e] at e';cases e';rw[ih _ q']
  |gH n' e' q'=>rw[e] at e';cases e'
 ·intro a kvs ds n e q d' h;cases h with
  |tup n' e' q'=>rw[e] at e';cases e'
  |lst n' e' q'=>rw[e] at e';cases e'
  |gH n' e' q'=>rw[e] at e';rw[q,q',T_<|HO.dK.inj<|QL e']
 ·intro es h;cases h;rfl
 ·intro x xs d ds _ _ ih ihs es h;cases h with | cons q' qs'=>rw[ih _ q',ihs _ qs']
def Qyl(root:DA A H (.ref l)<|.list rs)(ds:List Xc)(xs:List V)(h:sizeOf ds<sizeOf (pP rs))(q:aJ A H xs ds):aJ (λa=>A a∨a=l) H xs ds:=by
 have nl:∀{a:Xb}{o:HO},¬A a->H a=some o->(∀xs,o≠.lst xs)->¬(A a∨a=l):=λn e no z=>z.elim n λz=>by
  subst z;cases root with | lst n' e' q'=>rw[e] at e';cases e';exact no _ rfl
 refine aJ.rec (motive_1:=λx d _=>sizeOf d<sizeOf (pP rs)->DA (λa=>A a∨a=l) H x d) (motive_2:=λxs ds _=>sizeOf ds<sizeOf (pP rs)->aJ (λa=>A a∨a=l) H xs ds) (λ_=>.aH) (λb _=>.bl b) (λi _=>.int i) (λz c _=>.str z c) (λn e _ q hs=>.tup (nl n e nofun) e<|q (by simp at hs ⊢;omega)) (λn e p q hs=>.lst (λz=>z.elim n λz=>?_) e<|q (by simp at hs ⊢;omega)) (λn e q _=>.gH (nl n e nofun) e q) (λ_=>.nil) (λ_ _ q qs hs=>.cons (q (by simp at hs ⊢;omega))<|qs (by simp at hs ⊢;omega)) q h;subst z;have:=Qym _ _ _ root<|.lst n e p;rw[this] at hs;omega
def DA.items(root:DA A H (.ref l)<|.list ds):∃xs,H l=some (.lst xs)/\aJ (λa=>A a∨a=l) H xs ds:=by
 have yF:=root;cases root with
 |@lst _ xs _ n e q=>exact⟨xs,e,Qyl yF ds xs (by simp) q⟩
structure rg where
 nx:aS->Prop
 rt:Xc->Prop
 lB:Xc->Prop
 bk:aS->Prop
 ct:aS->Prop
 ex:XP
abbrev DS:=rg->aS->Prop
structure Nx (K:Ws) (F:Fm) (σ:L2.St) (H:Hp) (δ:aS) (R:aS->Prop) (T:L2.St->Hp->Prop):Prop where
 go:∀δ',R δ'->∀σ' H',Rel K F σ' H' δ'->a8 F σ H δ σ' H' δ'->T σ' H'
structure iz (K:Ws) (E:XK) (F:Fm) (σ:L2.St) (H:Hp) (δ:aS) (DD:rg) (D:Ends):Prop where
 nx:Nx K F σ H δ DD.nx D.nx
 rt:∀d,DD.rt d->∀v H',Ke F H'->DA F.A0 H' v d->D.rt v H'
 lB:∀d,DD.lB d->∀v H',Ke F H'->DA F.A0 H' v d->ki F.H0 H' v->D.rt v H'
 bk:Nx K F σ H δ DD.bk D.bk
 ct:Nx K F σ H δ DD.ct D.ct
 ex:Out F E DD.ex
def tS(K:Ws)(E:XK)(w:DS):TS:=λD σ H=>∃(F:Fm)(δ:aS)(DD:rg),Rel K F σ H δ/\w DD δ/\iz K E F σ H δ DD D
def Nx.step{K:Ws}(h:Nx K F σ H δ R T)(s:a8 F σ H δ σ1 H1 δ1):Nx K F σ1 H1 δ1 R T:=⟨λδ' hR σ' H' r st=>h.go δ' hR σ' H' r<|s.trans st⟩
def iz.step{K:Ws}(h:iz K E F σ H δ DD D)(s:a8 F σ H δ σ1 H1 δ1):iz K E F σ1 H1 δ1 DD D:=⟨h.nx.step s,h.rt,h.lB,h.bk.step s,h.ct.step s,h.ex⟩
section
variable{X:Cx}{E:XK}
def PS.imp(h:PS X e t)(i:∀D σ H,t' D σ H->t D σ H):PS X e t':=λXI s σ H D I q=>h XI s σ H D I<|i D σ H q
def aV.imp(h:aV X e t)(i:∀D σ H,t' D σ H->t D σ H):aV X e t':=λXI s σ H D I q=>h XI s σ H D I<|i D σ H q
def o9(a b:DS):DS:=λD δ=>a { D with nx:=b D } δ
def rC:DS:=λD δ=>D.nx δ
def Qsr:aV X [] (tS X.K E rC):=aV.imp Yh λD σ H ⟨F,δ,DD,rel,hw,en⟩=>en.nx.go δ hw σ H rel a8.refl
def QwP{st:Zo}(h:PS X st<|tS X.K E w):aV X [st] (tS X.K E w):=Q6 h
def Qsw{st:Zo}{rest:List Zo}(h:PS X st<|tS X.K E w)(h':aV X rest<|tS X.K E w'):aV X (st::rest) (tS X.K E<|o9 w w'):=by
 exact aV.imp (QC h h') λD σ H ⟨F,δ,DD,rel,hw,en⟩=>⟨F,δ,_,rel,hw,⟨λδ' h' σ' H' r st=>⟨F,δ',DD,r,h',en.step st⟩⟩,en.rt,en.lB,en.bk,en.ct,en.ex⟩
def Fd(i:Nat)(we:DE):DS:=λD δ=>we δ (λd=>D.nx<|δ.set i<|.v d) D.ex
def CT(i:Nat)(we:DE):DS:=λD δ=>we δ (λd=>match d with
 |.list ds=>D.nx<|δ.set i<|.own ds
 |_=>False) D.ex
def QFQ(i:Nat)(we:DE):DS:=λD δ=>we δ (λd=>match d with
 |.list [.int _]=>D.nx<|δ.set i .eJ
 |_=>False) D.ex
variable{i:Nat}{e:Zm}{st:Zo}{we wi:DE}
def K4(h:PS X st<|fU (tX .D X.K E we)<|Yj i):PS X st (tS X.K E<|Fd i we):=by
 refine PS.imp h λD σ H ⟨F,δ,DD,rel,hw,en⟩=>⟨F,δ,_,DD.ex,rel,hw,λd hd v H' aj kp vk=>?_,en.ex⟩
 exact en.nx.go _ hd _ H' (aj.di vk)<|(a8.kp kp).trans a8.di
def RH(h:Av F (σ.set i<|some<|.ref l) (δ.set i x) a):Av F σ δ a∨a=l:=by
 rcases h with h | ⟨j,h1,h2⟩
 ·exact .inl<|.inl h
 ·by_cases z:j=i
  ·subst z;cases bq h1;exact .inr rfl
  ·rw[iQ z] at h1 h2;exact .inl<|.inr ⟨j,h1,h2⟩
def Rel.FK{K:Ws}(r:Rel K F σ H δ)(r':Rel K F σ H' δ)(kp:Kp σ δ H H')(n:H l=none)(hx:∀A:Xb->Prop,(∀a,A a->Av F σ δ a∨H a=none)->(∀a,A a->Av F σ δ a∨a=l)->QFj K F H' A (some<|.ref l) x) :
  Rel K F (σ.set i<|some<|.ref l) H' (δ.set i x)/\a8 F σ H δ (σ.set i<|some<|.ref l) H' (δ.set i x):=by
 have nA:∀a,Av F (σ.set i<|some<|.ref l) (δ.set i x) a->Av F σ δ a∨H a=none:=λa z=>(RH z).elim .inl λz=>.inr (by rw[z];exact n)
 have kk:∀a o,¬Av F σ δ a->H a=some o->H' a=some o:=λa o m e=>kp.1 a o (λz=>m<|g8 z) e
 refine⟨?_,⟨kk,nA⟩⟩;exact{
  len:=by rw[Zn,Zn];exact r.len
  i_:=r'.i_
  cz:=r'.cz
  iE:=r'.iE
  kx:=r'.kx
  sl:=λj o y h1 h2=>by
   by_cases z:j=i
   ·subst z;cases bq h1;cases bq h2;exact hx _ nA λa z=>RH z
   ·rw[iQ z] at h1 h2;have h:=r.sl j o y h1 h2;have h':=r'.sl j o y h1 h2;cases y with
    |no=>trivial
    |v d=>obtain⟨v',e,q'⟩:=h;exact⟨v',e,q'.mv kk nA⟩
    |own ds=>obtain⟨l',xs,rfl,e2,q',f⟩:=h;exact⟨l',xs,rfl,kp.1 _ _ (r.a7 h2 h1) e2,q'.mv kk nA,f⟩
    |pk ds=>
     obtain⟨l',xs,rfl,e2,q',ys,f,f2⟩:=h;refine⟨l',xs,rfl,kp.1 _ _ ?_ e2,q'.mv kk nA,ys,f,f2⟩;rintro⟨j,j1,j2⟩;obtain⟨p,m,e1,_,w⟩:=r.sl j _ _ j1 j2;cases e1;rcases w with w | w
     ·exact f2 w
     ·rw[w] at f;cases f
    |eJ=>exact h'
    |oB=>exact h'
  inj:=λj k a ds h1 h2 ⟨h3,h4⟩=>by
   have ne:∀(k:Nat),k≠i->σ[k]? = some (some<|.ref l)->(δ[k]? = some .eJ∨∃ds,δ[k]? = some (.own ds))->False:=λk _ h3 h4=>by
    obtain⟨xs,e⟩:=r.fI<|.inr ⟨k,h3,h4⟩;rw[n] at e;cases e
   by_cases z:j=i
   ·subst z;cases bq h2;by_cases z2:k=j
    ·exact z2.symm
    ·rw[iQ z2] at h3 h4;exact(ne k z2 h3 h4).elim
   ·rw[iQ z] at h1 h2;by_cases z2:k=i
    ·subst z2;cases bq h3;exact(ne j z h2<|.inr ⟨ds,h1⟩).elim
    ·rw[iQ z2] at h3 h4;exact r.inj j k a ds h1 h2 ⟨h3,h4⟩ }
def P_{K:Ws}(r:Rel K F σ H δ)(n:H l=none):F.H0 l=none:=by
 cases e:F.H0 l with
 |none=>rfl
 |some o=>
  by_cases z:F.pt l
  ·obtain⟨_,m,e'⟩:=r.iE l z;rw[n] at e';cases e'
  ·rw[r.kx l o z e] at n;cases n
def Qss(h:PS X st<|fU (tX .F X.K E we)<|Yj i):PS X st (tS X.K E<|CT i we):=by
 refine PS.imp h λD σ H ⟨F,δ,DD,rel,hw,en⟩=>⟨F,δ,_,DD.ex,rel,hw,λd hd v H' aj kp ⟨vk,fr⟩=>?_,en.ex⟩
 obtain⟨ds,rfl⟩:∃ds,d=.list ds:=by cases d<;>first | exact⟨_,rfl⟩ | exact(hd).elim
 obtain⟨l,rfl⟩:∃l,v=.ref l:=by cases vk;exact⟨_,rfl⟩
 obtain⟨xs,e,q⟩:=DA.items vk;have n:=fr l rfl ⟨xs,e⟩;obtain⟨r2,st⟩:=rel.FK (x:=.own ds) aj kp n λA hA hB=>⟨l,xs,rfl,e,q.mv (λ_ _ _ e=>e) λa z=>.inl<|hB a z,P_ rel n⟩
 exact en.nx.go _ hd _ H' r2 st
def QFd(we:DE)(wg:DG):DS:=λD δ=>we δ (λd=>wg d δ D.nx) D.ex
def QwV(h:PS X st<|fU (tX .D X.K E we)<|tG ix X.K wg):PS X st (tS X.K E<|QFd we wg):=by
 refine PS.imp h λD σ H ⟨F,δ,DD,rel,hw,en⟩=>⟨F,δ,_,DD.ex,rel,hw,λd hd v H' aj kp vk=>?_,en.ex⟩
 exact⟨F,δ,d,_,aj,vk,hd,λδ' h' σ' r' bH _ _=>en.nx.go _ h' _ H' r'<|(a8.kp kp).trans bH⟩
def QE5(i j:Nat)(wa:kj):DS:=λD δ=>wa δ (λds=>match ds with
 |[a,b]=>D.nx<|(δ.set i<|.v a).set j<|.v b
 |_=>False) D.ex
def QwO(h:PS X st<|QEF i j<|jt n .D X.K E wa):PS X st (tS X.K E<|QE5 i j wa):=by
 refine PS.imp h λD σ H ⟨F,δ,DD,rel,hw,en⟩=>⟨F,δ,_,DD.ex,rel,hw,λds cI _ vs H' aj kp q=>?_,en.ex⟩
 split at cI
 ·cases q with
  |cons q1 q2=>cases q2 with
   |cons q2 q3=>
    cases q3;refine⟨_,_,rfl,en.nx.go _ cI _ H' ((aj.di q1).di<|DA.mv q2 (λ_ _ _ e=>e) λa z=>.inl<|u0 z)<|((a8.kp kp).trans a8.di).trans a8.di⟩
 ·exact cI.elim
def QE4(we:DE):DS:=λD δ=>we δ D.rt D.ex
def HH(we:DE):DS:=λD δ=>we δ D.lB D.ex
def CU(h:DA (Av F σ δ) H v d):DA F.A0 H v d:=h.mv (λ_ _ _ e=>e) λa z=>.inl<|.inl z
def QwL(h:PE X e<|tX .D X.K E we):PS X (.Return (some e) pos) (tS X.K E<|QE4 we):=by
 exact PS.imp (JZ h) λD σ H ⟨F,δ,DD,rel,hw,en⟩=>⟨F,δ,_,DD.ex,rel,hw,λd hd v H' aj kp vk=>en.rt d hd v H' aj.ke<|CU vk,en.ex⟩
def Qsu(h:PE X e<|tX .F X.K E we):PS X (.Return (some e) pos) (tS X.K E<|HH we):=by
 exact PS.imp (JZ h) λD σ H ⟨F,δ,DD,rel,hw,en⟩=>⟨F,δ,_,DD.ex,rel,hw,λd hd v H' aj kp vk=>en.lB d hd v H' aj.ke (CU vk.1) λl e1 e2=>P_ rel<|vk.2 l e1 e2,en.ex⟩
def HI(i:Nat):DS:=λD δ=>match δ[i]? with
 |some (.own ds)=>D.lB<|.list ds
 |some (.v d)=>D.rt d
 |_=>False
def Qst(h:PE X e<|Yu i):PS X (.Return (some e) pos) (tS X.K E<|HI i):=by
 refine PS.imp (JZ h) λD σ H ⟨F,δ,DD,rel,hw,en⟩=>?_
 unfold HI at hw;split at hw
 ·rename_i ds hd
  obtain⟨x,hx⟩:=rel.lt hd;obtain⟨l,xs,rfl,e,q,f⟩:=rel.sl i _ _ hx hd;refine⟨_,hx,en.lB _ hw _ H rel.ke (.lst (λz=>?_) e<|q.mv (λ_ _ _ e=>e) λa z=>.inl<|.inl z) λl' e1 _=>by cases e1;exact f⟩;obtain⟨ys,e'⟩:=rel.cz l z;rw[f] at e';cases e'
 ·rename_i d hd
  obtain⟨x,hx⟩:=rel.lt hd;obtain⟨v,rfl,q⟩:=rel.sl i _ _ hx hd;exact⟨v,hx,en.rt _ hw _ H rel.ke<|CU q⟩
 ·exact hw.elim
def qS(t:DT)(a b:DS):DS:=λD δ=>t δ (λc=>if c=true then a D δ else b D δ) D.ex
def QAf(hc:PT X c<|tT X.K E t)(ha:aV X a<|tS X.K E w)(hb:aV X b<|tS X.K E w'):PS X (.If c a b pos) (tS X.K E<|qS t w w'):=by
 exact PS.imp (gj hc ha hb) λD σ H ⟨F,δ,DD,rel,hw,en⟩=>⟨F,δ,_,DD.ex,rel,hw,λb hb H' aj kp=>nU hb (λz=>⟨F,δ,DD,aj,z,en.step<|a8.kp kp⟩) λz=>⟨F,δ,DD,aj,z,en.step<|a8.kp kp⟩,en.ex⟩
def Qoz:aV X yv (tS X.K E λ_ _=>False):=λXI s σ H D I ⟨F,δ,DD,rel,hw,en⟩=>hw.elim
def MX(i:Nat)(rD:Xc->Xc->(Xc->Prop)->Prop)(we:DE):DS:=λD δ=>match δ[i]? with
 |some (.v d)=>we δ (λe=>rD d e λz=>D.nx<|δ.set i<|.v z) D.ex
 |_=>False
def QwU(hd:o_ r rD)(h:PS X st<|QEG i (tX .P X.K E we) λx y H Q=>jg H->r x y H Q):PS X st (tS X.K E<|MX i rD we):=by
 refine PS.imp h λD σ H ⟨F,δ,DD,rel,hw,en⟩=>?_
 unfold MX at hw;split at hw
 ·rename_i d dB
  obtain⟨x,hx⟩:=rel.lt dB;obtain⟨v,rfl,q⟩:=rel.sl i _ _ hx dB;refine⟨v,hx,F,δ,_,DD.ex,rel,hw,λe he y H' aj kp yk ln=>(hd (Av F σ δ) (YC σ δ) H' v y d e _ _ ln (λa ha=>aj.fI ha) (.inl<|kp.da q) yk he λz hz u H2 s du=>?_),en.ex⟩;exact en.nx.go _ hz _ H2 ((aj.same s).di du)<|((a8.kp kp).trans<|a8.kp<|Kp.same aj s).trans a8.di
 ·exact hw.elim
def KW:o_ (Gs g) (tH λi j=>.int<|g i j):=λA P H x y d1 d2 R Q ln dm hx hy h k=>by
 cases d1<;>cases d2<;>first | exact h.elim | skip
 rw[hx.int,hy.int];exact⟨_,_,rfl,rfl,k _ h _ H (ag.refl H)<|.int _⟩
def mI.len(h:mI X op t):mI X op (λx y H Q=>jg H->t x y H Q):=λXI s σ H x y v u Q I rx ry q=>h XI s σ H x y v u Q I rx ry<|q<|Inv.j3 I
def Rel.mut{K:Ws}(r:Rel K F σ H δ)(h:δ[i]? = some (.own ds))(hx:σ[i]? = some (some<|.ref l))(q:aJ (Av F σ δ) H ys i') :
  Rel K F σ (upd H l<|.lst ys) (δ.set i<|.own i')/\a8 F σ H δ σ (upd H l<|.lst ys) (δ.set i<|.own i'):=by
 have hl:Av F σ δ l:=.inr ⟨i,hx,.inr ⟨ds,h⟩⟩;obtain⟨l',xs0,e0,el,_,f⟩:=r.sl i _ _ hx h;cases e0;have lt:=(QR.mp h).1;have ge:(δ.set i<|.own i')[i]? = some (.own i'):=by rw[EU lt]
 have kk:∀a o,¬Av F σ δ a->H a=some o->upd H l (.lst ys) a=some o:=λa o n e=>by rw[QY λz=>n (by rw[z];exact hl)];exact e
 have av:∀a,Av F σ (δ.set i<|.own i') a->Av F σ δ a:=λa z=>by
  rcases z with z | ⟨j,h1,h2⟩
  ·exact .inl z
  ·by_cases z:j=i
   ·subst z;exact .inr ⟨j,h1,.inr ⟨ds,h⟩⟩
   ·rw[iQ z] at h2;exact .inr ⟨j,h1,h2⟩
 have up:∀{b:Xb}{o:HO},b≠l->H b=some o->upd H l (.lst ys) b=some o:=λn e=>by rw[QY n];exact e
 refine⟨?_,⟨kk,λa z=>.inl<|av a z⟩⟩;exact{
  len:=by rw[Zn];exact r.len
  i_:=λa ha=>by
   by_cases z:a=l
   ·rw[z];exact⟨_,af⟩
   ·obtain⟨xs,e⟩:=r.i_ a ha;exact⟨xs,up z e⟩
  cz:=r.cz
  iE:=λp hp=>by
   obtain⟨h1,n,e⟩:=r.iE p hp;refine⟨h1,n,up (λz=>?_) e⟩;obtain⟨xs,e'⟩:=r.cz p h1;rw[z,f] at e';cases e'
  kx:=λb o n e=>up (λz=>by rw[z,f] at e;cases e)<|r.kx b o n e
  sl:=λj o y h1 h2=>by
   by_cases z:j=i
   ·subst z;rw[ge] at h2;cases h2;rw[hx] at h1;cases h1;exact⟨l,ys,rfl,af,q.mv kk λa z=>.inl<|av a z,f⟩
   ·rw[iQ z] at h2;have hh:=r.sl j o y h1 h2;cases y with
    |no=>trivial
    |v d=>obtain⟨v',e,q'⟩:=hh;exact⟨v',e,q'.mv kk λa z=>.inl<|av a z⟩
    |own es=>
     obtain⟨l',xs,rfl,e2,q',f'⟩:=hh;exact⟨l',xs,rfl,up (λz2=>z<|r.inj j i l' es h2 h1 ⟨by rw[z2];exact hx,.inr ⟨ds,h⟩⟩) e2,q'.mv kk λa z=>.inl<|av a z,f'⟩
    |pk es=>
     obtain⟨l',xs,rfl,e2,q',ys',f',f2⟩:=hh;exact⟨l',xs,rfl,up (λz2=>by rw[z2,f] at f';cases f') e2,q'.mv kk λa z=>.inl<|av a z,ys',f',f2⟩
    |eJ=>
     obtain⟨p,n,rfl,e2,w⟩:=hh;refine⟨p,n,rfl,up (λz2=>?_) e2,w⟩;subst z2;exact r.a7 h hx ⟨j,h1,h2⟩
    |oB=>exact hh
  inj:=λj k a es h1 h2 ⟨h3,h4⟩=>by
   have Oz:δ[k]? = some .eJ∨∃ds,δ[k]? = some (.own ds):=by
    by_cases z:k=i
    ·subst z;exact .inr ⟨ds,h⟩
    ·rw[iQ z] at h4;exact h4
   by_cases z:j=i
   ·subst z;exact r.inj j k a ds h h2 ⟨h3,Oz⟩
   ·rw[iQ z] at h1;exact r.inj j k a es h1 h2 ⟨h3,Oz⟩ }
def MW(i:Nat)(we:DE):DS:=λD δ=>match δ[i]? with
 |some (.own ds)=>we δ (λd=>ds.length<1000000/\D.nx (δ.set i<|.own<|ds++[d])) D.ex
 |_=>False
def QwW(h:PS X st<|Aj<|BZ X.K "list" U5 (Yu i)<|ZM (tX .D X.K E we) bD):PS X st (tS X.K E<|MW i we):=by
 refine PS.imp h λD σ H ⟨F,δ,DD,rel,hw,en⟩=>?_
 unfold MW at hw;split at hw
 ·rename_i ds hd
  obtain⟨x,hx⟩:=rel.lt hd;obtain⟨l,xs,rfl,e,q,f⟩:=rel.sl i _ _ hx hd;have np:=rel.a7 hd hx;refine⟨.ref l,hx,.inl ⟨rfl,_,aA.of e⟩,F,δ,_,DD.ex,rel,hw,λd ⟨hl,hn⟩ v H' aj kp vk=>?_,en.ex⟩;have q':=kp.oY q;refine⟨l,xs,v,rfl,rfl,kp.1 _ _ np e,Q2 (by rw[q.length];exact hl) rK,?_⟩;obtain⟨r2,st⟩:=aj.mut hd hx<|q'.app<|.cons vk .nil;exact en.nx.go _ hn _ _ r2<|(a8.kp kp).trans st
 ·exact hw.elim
def MY(i:Nat)(we:DE):DS:=λD δ=>match δ[i]? with
 |some (.own ds)=>we δ (λd=>match d with
  |.list es=>ds.length+es.length<=1000000/\D.nx (δ.set i<|.own<|ds++es)
  |_=>False) D.ex
 |_=>False
def QwT(h:PS X st<|Aj<|BZ X.K "list" U6 (Yu i)<|ZM (tX .P X.K E we) bD):PS X st (tS X.K E<|MY i we):=by
 refine PS.imp h λD σ H ⟨F,δ,DD,rel,hw,en⟩=>?_
 unfold MY at hw;split at hw
 ·rename_i ds hd
  obtain⟨x,hx⟩:=rel.lt hd;obtain⟨l,xs,rfl,e,q,f⟩:=rel.sl i _ _ hx hd;have np:=rel.a7 hd hx;refine⟨.ref l,hx,.inl ⟨rfl,_,aA.of e⟩,F,δ,_,DD.ex,rel,hw,λd hd2 v H' aj kp vk=>?_,en.ex⟩;cases d<;>first | exact(hd2).elim | skip
  obtain⟨hl,hn⟩:=hd2;obtain⟨l2,ys,rfl,e2,q2⟩:=DP.list vk;have q':=kp.oY q;refine⟨l,l2,xs,ys,rfl,rfl,kp.1 _ _ np e,e2,QK (by rw[q.length,q2.length];exact hl) rK,?_⟩;obtain⟨r2,st⟩:=aj.mut hd hx<|q'.app q2;exact en.nx.go _ hn _ _ r2<|(a8.kp kp).trans st
 ·exact hw.elim
def By(i:Nat)(wi we:DE):DS:=λD δ=>we δ (λd=>match δ[i]? with
 |some (.own ds)=>wi δ (λz=>match z with
  |.int k=>∃j,jx ds.length k=some j/\D.nx (δ.set i<|.own<|ds.set j d)
  |_=>False) D.ex
 |_=>False) D.ex
def QwM(h:PS X st<|fU (tX .D X.K E we)<|oR (Yu i) (tX .P X.K E wi) An):PS X st (tS X.K E<|By i wi we):=by
 refine PS.imp h λD σ H ⟨F,δ,DD,rel,hw,en⟩=>⟨F,δ,_,DD.ex,rel,hw,λd hd v H1 aF bU vk=>?_,en.ex⟩
 split at hd
 ·rename_i ds cI
  obtain⟨x,hx⟩:=aF.lt cI;obtain⟨l,xs,rfl,e,q,f⟩:=aF.sl i _ _ hx cI;have np:=aF.a7 cI hx;refine⟨.ref l,hx,F,δ,_,DD.ex,aF,hd,λz hz y H2 aN bC yk=>?_,en.ex⟩;cases z<;>first | exact(hz).elim | skip
  obtain⟨j,hj,hn⟩:=hz;refine⟨l,xs,_,j,rfl,DP.int yk,bC.1 _ _ np e,by rw[q.length];exact hj,?_⟩;obtain⟨r2,st⟩:=aN.mut cI hx<|(bC.oY q).set (bC.da vk) j;exact en.nx.go _ hn _ _ r2<|((a8.kp bU).trans<|a8.kp bC).trans st
 ·exact hd.elim
def HG(i:Nat)(rD:Xc->Xc->(Xc->Prop)->Prop)(wi we:DE):DS:=λD δ=>match δ[i]? with
 |some (.own ds)=>wi δ (λz=>match z with
  |.int k=>∃j a,jx ds.length k=some j/\ds[j]? = some a/\we δ (λe=>rD a e λb=>D.nx<|δ.set i<|.own<|ds.set j b) D.ex
  |_=>False) D.ex
 |_=>False
def Qsx(hd:o_ r rD)(h:PS X st<|OT (Yu i) (tX .P X.K E wi) (tX .P X.K E we) (qZ X.K) (λx y H Q=>jg H->r x y H Q) An):PS X st (tS X.K E<|HG i rD wi we):=by
 refine PS.imp h λD σ H ⟨F,δ,DD,rel,hw,en⟩=>?_
 unfold HG at hw;split at hw
 ·rename_i ds cI
  obtain⟨x,hx⟩:=rel.lt cI;obtain⟨l,xs,rfl,e,q,f⟩:=rel.sl i _ _ hx cI;have np:=rel.a7 cI hx;refine⟨.ref l,hx,F,δ,_,DD.ex,rel,hw,λz hz y H1 aF bU yk=>?_,en.ex⟩;cases z<;>first | exact(hz).elim | skip
  obtain⟨j,a,hj,ha,hn⟩:=hz;have q1:=bU.oY q;obtain⟨va,hva,da⟩:=q1.get j a ha;rw[DP.int yk];refine⟨l,xs,_,va,rfl,rfl,aA.of<|bU.1 _ _ np e,by unfold gb;rw[q.length,hj];exact hva,F,δ,_,DD.ex,aF,hn,λb hb u H2 aN bC uk ln=>?_,en.ex⟩;refine hd (Av F σ δ) (YC σ δ) H2 va u a b _ _ ln (λa ha=>aN.fI ha) (.inl<|bC.da da) uk hb λc hc w H3 s dw=>?_
  have r3:=aN.same s;have k3:=bC.trans<|Kp.same aN s;refine⟨l,xs,_,j,rfl,rfl,k3.1 _ _ np<|bU.1 _ _ np e,by rw[q.length];exact hj,?_⟩;obtain⟨r4,st⟩:=r3.mut cI hx<|(k3.oY q1).set dw j;exact en.nx.go _ hc _ _ r4<|((a8.kp bU).trans<|a8.kp k3).trans st
 ·exact hw.elim
@[irreducible] def uD(items:List Xc)(wg:DG)(wb:DS)(D:rg)(δ:aS):Prop:=∃Iv:Nat->aS->Prop,Iv 0 δ/\(∀(i:Nat) d δ,items[i]? = some d->Iv i δ->wg d δ λδ2=>wb { D with nx:=Iv<|i+1,ct:=Iv<|i+1,bk:=D.nx } δ2)/\∀δ,Iv items.length δ->D.nx δ
def zX(wi:DI)(wg:DG)(wb:DS):DS:=λD δ=>wi δ (λitems=>uD items wg wb D δ) D.ex
def QwS{wi:DI}(hp:xC (Xg X.prog X.w) X.A X.env X.xe)(hc:X.calm=true)(hi:PI X tg iter<|tI .D X.K E wi)(hg:PG X tg<|tG ix X.K wg)(hb:aV X body<|tS X.K E wb)
  (hs:∀x,Xn iter X.env x=pure x:=by intro _;rfl):PS X (.For tg iter body [] pos) (tS X.K E<|zX wi wg wb):=by
 refine PS.imp (rR hp hc hi hg hb hs) λD σ H ⟨F,δ,DD,rel,hw,en⟩=>⟨F,δ,_,DD.ex,rel,hw,λitems hC J H1 aF bU ⟨ln,it⟩=>?_,en.ex⟩
 unfold uD at hC;obtain⟨Iv,i0,step,fin⟩:=hC;have OE:=en.step<|a8.kp bU;refine⟨λi m σ' H'=>m=items.length - i/\i<=items.length/\∃δ',Iv i δ'/\Rel X.K F σ' H' δ'/\a8 F σ H1 δ σ' H' δ',⟨_,rfl,Q9 _,δ,i0,aF,a8.refl⟩,?_⟩;rintro i m σ' H' ⟨rfl,wF,δ',iv,r',bH⟩;obtain⟨go,stop⟩:=it H' (Av F σ' δ') bH.1 bH.2 λa ha=>r'.fI ha
 by_cases c_:i<items.length
 ·have hd:=Qc c_;obtain⟨g1,g2⟩:=go i _ hd;refine .inr ⟨g1,λσ2 H2=>∃δ2,Iv (i+1) δ2/\Rel X.K F σ2 H2 δ2/\a8 F σ H1 δ σ2 H2 δ2,λσ2 H2 ⟨δ2,h2,r2,s2⟩=>⟨_,by omega,rfl,c_,δ2,h2,r2,s2⟩,λx H3 y=>?_⟩;obtain⟨s3,dx⟩:=g2 x H3 y;have r3:=r'.same s3;have sO:=bH.trans<|a8.kp<|Kp.same r' s3;refine⟨F,δ',_,_,r3,dx,step i _ δ' hd iv,λδ4 h4 σ4 r4 kz _ _=>⟨F,δ4,_,r4,h4,?_⟩⟩;have ky:=sO.trans kz;exact⟨⟨λδ6 h6 σ6 H6 r6 s6=>⟨δ6,h6,r6,ky.trans s6⟩⟩,en.rt,en.lB,(OE.step ky).nx,⟨λδ6 h6 σ6 H6 r6 s6=>⟨δ6,h6,r6,ky.trans s6⟩⟩,en.ex⟩
 ·have e:i=items.length:=by omega
  subst e;exact .inl ⟨stop,(OE.step bH).nx.go δ' (fin δ' iv) σ' H' r' a8.refl⟩
def Qya{lo:Int}(Iv:Nat->aS->Prop)(h0:Iv 0 δ)
  (hs:∀(i:Nat) δ,i<n->Iv i δ->wg (.int<|lo+i) δ λδ2=>wb { D with nx:=Iv<|i+1,ct:=Iv<|i+1,bk:=D.nx } δ2)(hd:∀δ,Iv n δ->D.nx δ):uD (gX lo n) wg wb D δ:=by
 unfold uD;exact⟨Iv,h0,λi d δ hd iv=>by obtain⟨hi,rfl⟩:=u7 hd;exact hs i δ hi iv,λδ iv=>hd δ (by rw[DB] at iv;exact iv)⟩
def sy{items:List Xc}{wg:DG}{wb:DS}{D:rg}{δ:aS}(Iv:Nat->aS->Prop)(h0:Iv 0 δ)
  (hs:∀(i:Nat) d δ,items[i]? = some d->Iv i δ->wg d δ λδ2=>wb { D with nx:=Iv<|i+1,ct:=Iv<|i+1,bk:=D.nx } δ2)(hd:∀δ,Iv items.length δ->D.nx δ):uD items wg wb D δ:=by
 unfold uD;exact⟨Iv,h0,hs,hd⟩
def RM(C:Xb)(we:DE):DS:=λD δ=>we δ (λ_=>D.ex C) D.ex
def Qoy(h:PS X st<|Rx.R_ E C<|tX .P X.K E we):PS X st (tS X.K E<|RM C we):=by
 exact PS.imp h λD σ H ⟨F,δ,DD,rel,hw,en⟩=>⟨F,δ,_,DD.ex,rel,hw,λd hd v H' aj kp vk=>en.ex C hd H' aj.ke,en.ex⟩
def QBS(we:DE):DS:=λD δ=>we δ (λ_=>D.nx δ) D.ex
def Qsv(h:PS X st<|Aj<|tX .P X.K E we):PS X st (tS X.K E<|QBS we):=by
 exact PS.imp h λD σ H ⟨F,δ,DD,rel,hw,en⟩=>⟨F,δ,_,DD.ex,rel,hw,λd hd v H' aj kp vk=>en.nx.go δ hd σ H' aj<|a8.kp kp,en.ex⟩
end
def ku(N:List Str)(args:List Sl):aS:=args++Jc (N.length - args.length) .no
def br{xs:List α}{ys:List β}(h:Zw R xs ys)(i:Nat)(x y)(e:xs[i]? = some x)(e':ys[i]? = some y):R x y:=by
 induction h generalizing i with
 |nil=>simp at e
 |cons r _ ih=>
  cases i with
  |zero=>simp at e e';subst e e';exact r
  |succ i=>exact ih i e e'
def Qih{K:Ws}(dm:∀a,A a->∃xs,H a=some (.lst xs))(hp:∀p,pt p->A p/\∃n,H p=some (.lst [.int n]))(q:Zw (uG A pt H) vs args):Rel K ⟨H,A,pt⟩ (L2.start N vs) H (ku N args):=by
 have hl:=q.length;have no:∀(i:Nat) x,(ku N args)[i]? = some x->(i<args.length/\args[i]? = some x)∨x=.no:=λi x h=>by
  unfold ku at h;by_cases z:i<args.length
  ·rw[ET z] at h;exact .inl ⟨z,h⟩
  ·rw[MM<|by omega,EW] at h;split at h
   ·exact .inr (QL h).symm
   ·cases h
 have arg:∀(i:Nat) o x,(L2.start N vs)[i]? = some o->(ku N args)[i]? = some x->x≠.no->∃v,o=some v/\uG A pt H v x:=λi o x h1 h2 hx=>by
  rcases no i x h2 with⟨z,e⟩ | e
  ·unfold L2.start at h1;rw[ET (by rw[Qb];omega),Qq] at h1;obtain⟨v,hv,rfl⟩:=Ja.mp h1;exact⟨v,rfl,br q i v x hv e⟩
  ·exact Z_ e hx
 have av:∀a,Av ⟨H,A,pt⟩ (L2.start N vs) (ku N args) a->A a:=λa z=>by
  rcases z with z | ⟨i,h1,h2⟩
  ·exact z
  ·rcases h2 with h2 | ⟨ds,h2⟩
   ·obtain⟨v,e,p,rfl,tP⟩:=arg i _ _ h1 h2 nofun;cases e;exact(hp _ tP).1
   ·obtain⟨v,e,hh⟩:=arg i _ _ h1 h2 nofun;exact hh.elim
 exact{
  len:=by unfold L2.start ku;rw[Qj,Qj,Qb,EK,EK,hl]
  i_:=dm
  cz:=dm
  iE:=hp
  kx:=λ_ _ _ e=>e
  sl:=λi o x h1 h2=>by
   cases x with
   |no=>trivial
   |v d=>
    obtain⟨v,e,hh⟩:=arg i _ _ h1 h2 nofun;exact⟨v,e,DA.mv hh (λ_ _ _ e=>e) λa z=>.inl<|av a z⟩
   |eJ=>
    obtain⟨v,e,p,rfl,tP⟩:=arg i _ _ h1 h2 nofun;obtain⟨_,n,en⟩:=hp p tP;exact⟨p,n,e,en,.inl tP⟩
   |own ds=>obtain⟨v,e,hh⟩:=arg i _ _ h1 h2 nofun;exact hh.elim
   |pk ds=>obtain⟨v,e,hh⟩:=arg i _ _ h1 h2 nofun;exact hh.elim
   |oB=>obtain⟨v,e,hh⟩:=arg i _ _ h1 h2 nofun;exact hh.elim
  inj:=λi j a ds h1 h2 _=>by
   obtain⟨v,e,hh⟩:=arg i _ _ h2 h1 nofun;exact hh.elim }
def QFL:Xc->Bool
 |.list _=>false
 |_=>true
def rtD:Bool->(Xc->Prop)->Xc->Prop
 |true,R,d=>QFL d=true/\R d
 |false,R,d=>R d
def rE(fr:Bool)(R:Xc->Prop)(EX:XP):rg:=⟨λ_=>R .none,rtD fr R,R,λ_=>False,λ_=>False,EX⟩
def Ua{K:Ws}{E Ex:XK}{fr:Bool}{A pt:Xb->Prop}{H:Hp}{R:Xc->Prop}{EX EX':XP}{Q:VK}{σ:L2.St}{δ:aS}(k:∀d,R d->∀v H',Kq pt H H'->DA A H' v d->(fr=true->ki H H' v)->Q v H')(o:Out ⟨H,A,pt⟩ E EX') :
  iz K E ⟨H,A,pt⟩ σ H δ (rE fr R EX') { nx:=λ_ H'=>Q .aH H',rt:=Q } where
 nx:=⟨λδ' hR σ' H' r st=>k _ hR _ H' r.ke .aH λ_=>Qx8⟩
 rt:=λd h v H' ke dv=>by
  cases fr with
  |false=>exact k d h v H' ke dv λz=>by cases z
  |true=>
   obtain⟨h1,h2⟩:=h;refine k d h2 v H' ke dv λz l e1 ⟨xs,e2⟩=>?_
   subst e1;cases dv with
   |@tup a ys ds n e q=>rw[e] at e2;cases e2
   |@lst a ys ds n e q=>cases h1
   |@gH a kvs ds n e q=>rw[e] at e2;cases e2
 lB:=λd h v H' ke dv fr'=>k d h v H' ke dv λ_=>fr'
 bk:=⟨λ_ h=>h.elim⟩
 ct:=⟨λ_ h=>h.elim⟩
 ex:=o
section
variable{P:QB}{w:Jh}{K:Ws}{mg:Str->Option Xd}{base:ZF}
def okD{x qual:Str}{st:Zo}{f:Xb}{fd:Z3}{N ps:List Str}{k:Nat}{fD:DF}(fr:Bool)(F:iw K x qual st f fd)(S:Yx N ps<|Q4 st)(len:∀args R EX,fD args R EX->args.length=ps.length)
  (XL:∀(ao:Xd)(A:Jo)(outer:List Env)(s:Xe)(H:Hp)(E:XK),az k (A.deeper<|envOfC qual (Q4 st) s.heap.objs.size f ao) ->
   ∃wd,aV (bP ax P w K mg base N qual (Q4 st) f ao A outer s H E).iF (Yk st) (tS K E0 wd)/\∀args R EX,fD args R EX->wd (rE fr R XF) (ku N args)):aO P w K mg base ax (k+1) f fd ps (ZK fr fD):=by
 refine F.ok S (λvs H Q E h=>?_) λao A outer s H vs Q E hr h=>?_
 ·obtain⟨A,pt,args,R,EX,_,_,q,h,_⟩:=h;rw[q.length];exact len _ _ _ h
 ·obtain⟨wd,hp,hw⟩:=XL ao A outer s H E hr;obtain⟨A',pt,args,R,EX,dm,Gy,q,h,k,_⟩:=h;exact⟨_,hp,⟨H,A',pt⟩,_,_,Qih dm Gy q,hw args R EX h,Ua (Ex:=E) (EX:=EX) k uF⟩
def QFK{x qual:Str}{st:Zo}{f:Xb}{fd:Z3}{N ps:List Str}{k:Nat}{fD:DF}(fr:Bool)(F:iw K x qual st f fd)(S:Yx N ps<|Q4 st)(len:∀args R EX,fD args R EX->args.length=ps.length)
  (XL:∀(ao:Xd)(A:Jo)(outer:List Env)(s:Xe)(H:Hp)(E:XK),az k (A.deeper<|envOfC qual (Q4 st) s.heap.objs.size f ao) ->
   ∃wd,aV (bP (Rx.aY P w) P w K mg base N qual (Q4 st) f ao A outer s H E) (Yk st) (tS K E wd)/\∀args R EX,fD args R EX->wd (rE fr R EX) (ku N args)):aO P w K mg base (Rx.aY P w) (k+1) f fd ps (ZK fr fD):=by
 refine Rx.F9 F S (λvs H Q E h=>?_) λao A outer s H vs Q E hr h=>?_
 ·obtain⟨A,pt,args,R,EX,_,_,q,h,_⟩:=h;rw[q.length];exact len _ _ _ h
 ·obtain⟨wd,hp,hw⟩:=XL ao A outer s H E hr;obtain⟨A',pt,args,R,EX,dm,Gy,q,h,k,kx⟩:=h;exact⟨_,hp,⟨H,A',pt⟩,_,_,Qih dm Gy q,hw args R EX h,Ua (Ex:=E) (EX:=EX) k λC hC H' ke=>kx C hC H' ke⟩
end
end Dl


namespace L2
def QEC(i j:Int):Prop:=0<j/\j<=10^40
def QsI:aI X (Xr .FloorDiv) (rI QEC λi j=>.int<|i / j):=v_ λi j _ _ _ _ _ hc q=>by
 have h1:=hc.1;have h2:=hc.2;refine floordiv_int (by omega) (by rw[Int.fdiv_eq_ediv_of_nonneg i<|by omega];exact q)<|.inl<|PyProof.noPylong_of_log2 ?_;have h3:j.natAbs<2^200:=by
  have:10^40<2^200:=by decide
  omega
 have:=(ID<|by omega).mpr h3;omega
end L2
namespace Rk
open L2 _root_.Rd
def Ec:Sp:=λvs H Q _=>∃p n f,vs=[.ref p,.int f]/\H p=some (.lst [.int n])/\0<f/\f<=10^40/\∀r m,0<=r->r<f->Q (.int r) (upd H p<|.lst [.int m])
end Rk
namespace Dl
open L2 _root_.Rd Rk
def QAx:g7 ax X E:=λ_ _ _ _ _ _ _ h=>h.elim
def az.qD(r:az k A):A.units+60<cLine:=by have:=r.un;omega
def az.tK(r:az k A):A.in1.units+60<cLine:=by
 have:=r.un;show A.units+1+60<cLine;omega
section
variable{X:Cx}{E:XK}{CX:iV}{k:Nat}{f:Xb}{fd:Z3}{ps:List Str}{x:Str}{p pos:Pos}{e:Zm}{es:List Zm}{fD:DF}
def Iq:DF:=λargs R _=>∃f,args=[.eJ,.v<|.int f]/\0<f/\f<=10^40/\∀r,0<=r->r<f->R (.int r)
def Qzq(h:ZK true Iq vs H Q Ex):Ec vs H Q Ex:=by
 obtain⟨A,pt,args,R,EX,dm,hp,q,⟨f,rfl,f0,f1,hR⟩,k,_⟩:=h;cases q with
 |cons q1 q2=>cases q2 with
  |cons q2 q3=>
   cases q3;obtain⟨p,rfl,pp⟩:=q1;cases q2;obtain⟨_,n,e⟩:=hp p pp;refine⟨p,n,f,rfl,e,f0,f1,λr m r0 r1=>k _ (hR r r0 r1) _ _ ⟨λb o nb eb=>?_,λz hz=>?_⟩ (.int _) λ_=>kZ⟩
   ·rw[QY λz=>nb (by rw[z];exact pp)];exact eb
   ·by_cases y:z=p
    ·rw[y];exact⟨m,af⟩
    ·obtain⟨_,n',e'⟩:=hp z hz;exact⟨n',by rw[QY y];exact e'⟩
def isW:Xc->Bool
 |.int _=>true
 |_=>false
def C8:DF:=λargs R _=>∃d,args=[.v d]/\R (.bool<|isW d)
end
section
variable{P:QB}{w:Jh}{K:Ws}{mg:Str->Option Xd}{base:ZF}
def J'(K:Ws):Sp:=λvs H Q _=>∃(a:Xb)(ns:List Int),vs=[.ref a]/\aA K H a (ns.map V.int)/\ns.length<=63/\∀H',Q (.bl true) H'
end
def QCj{α:Type}{p:α->Prop}:∀x∈([]:List α),p x:=λ_ h=>nomatch h
def xP{α:Type}{p:α->Prop}{a:α}{l:List α}(h:p a)(t:∀x∈l,p x):∀x∈a::l,p x:=λx hx=>by
 rcases Qt.mp hx with z | z
 ·rw[z];exact h
 ·exact t x z
def QCh{R:Xc->Prop}(h:R<|.bool<|b&&c):if b=true then R (.bool c) else R (.bool false):=by
 cases b
 ·exact dO h
 ·exact df h
def QyF{R:Xc->Prop}(h:R<|.bool<|b&&c)(k:b=true->R (.bool c)->Pk):if b=true then Pk else R (.bool false):=by
 cases b
 ·exact dO h
 ·exact df<|k rfl h
def oI{B:Prop}(h:c=false)(k:B):if c=true then A else B:=by subst h;exact k
def tJ{B:Prop}(h:c=true)(k:A):if c=true then A else B:=by subst h;exact k
def gQ{c:Bool}{A B:Prop}(t:c=true->A)(f:c=false->B):if c=true then A else B:=by
 cases c
 ·exact f rfl
 ·exact t rfl
def Qv5(ns:List Int)(h:ds=[.list<|ns.map Qp])(q:Q<|.int ns.sum):Fp ds Q:=by
 subst h;unfold Fp;exact⟨ns,ints_map ns,q⟩
end Dl
namespace L2
section
variable{X:Cx}
end
end L2
namespace Dl
open L2 _root_.Rd Rk
section
variable{X:Cx}{E:XK}
variable{e:Zm}{w:DE}{p p2 pos lC:Pos}
end
def QCf(h0:0<=i)(h1:i<ds.length):∃d,d∈ds/\gb ds i=some d:=by
 obtain⟨j,rfl⟩:∃j:Nat,i=j:=⟨i.toNat,by omega⟩
 have hj:j<ds.length:=by omega
 exact⟨ds[j],JQ hj,QX<|Qc hj⟩
def HZ{ds:List Xc}{i:Int}{Q:Xc->Prop}(h0:0<=i)(h1:i<ds.length)(q:∀d∈ds,Q d):∃d,gb ds i=some d/\Q d:=by
 obtain⟨d,hd,e⟩:=QCf h0 h1;exact⟨d,e,q d hd⟩
def Vl{lo:Option Int}(h:d∈cutD xs lo hi):d∈xs:=List.mem_of_mem_drop<|List.mem_of_mem_take h
structure QE (m:Md) (X:Cx) (E:XK) (e:Zm) (w:DE):Prop where h:PE X e<|tX m X.K E w
structure QT (X:Cx) (E:XK) (e:Zm) (w:DT):Prop where h:PT X e<|tT X.K E w
structure QW (X:Cx) (E:XK) (e:Zm) (w:DT):Prop where h:PW X e<|tT X.K E w
structure yj (X:Cx) (E:XK) (es:List Zm) (w:DT):Prop where h:iR X es<|tT X.K E w
structure QA (n:Nat) (m:Md) (X:Cx) (E:XK) (es:List Zm) (w:kj):Prop where h:PA X es<|jt n m X.K E w
structure oq (X:Cx) (E:XK) (es:List Zm) (w:lg):Prop where h:PA X es<|oz X.K E w
structure QO (X:Cx) (E:XK) (o:Option Zm) (w:DO):Prop where h:PO X o<|tO X.K E w
structure QG (ix:List Nat) (X:Cx) (tg:Zm) (w:DG):Prop where h:PG X tg<|tG ix X.K w
structure QI (m:Md) (X:Cx) (E:XK) (tg it:Zm) (w:DI):Prop where h:PI X tg it<|tI m X.K E w
structure QS (X:Cx) (E:XK) (st:Zo) (w:DS):Prop where h:PS X st<|tS X.K E w
structure kh (X:Cx) (E:XK) (yv:List Zo) (w:DS):Prop where h:aV X yv<|tS X.K E w
section
variable{X:Cx}{E:XK}
def JV{e:Zm}{w:DE}(h:QE .F X E e w):QE .D X E e w:=⟨toD h.h⟩
def QU{e:Zm}{w:DE}(h:QE .D X E e w):QE .P X E e w:=⟨cN h.h⟩
def Jf{e:Zm}{w:DE}(h:QE .F X E e w):QE .P X E e w:=⟨QFp h.h⟩
def qv(i:Nat){x:Str}{pos:Pos}(hN:X.N[i]? = some x:=by rfl)(hv:gU X.env.scope x:=by first | exact QM rfl | exact QV (QM rfl) | exact QV<|QV rfl)(hd:(x == ("__debug__" : Str))=false:=by decide)(bG:(x == ("__classdict__" : Str))=false:=by decide):QE .D X E (.Name x pos) (kI i):=⟨QAg<|pv i hN hv hd bG⟩
def qp(i:Nat){x:Str}{pos:Pos}(hN:X.N[i]? = some x:=by rfl)(hv:gU X.env.scope x:=by first | exact QM rfl | exact QV (QM rfl) | exact QV<|QV rfl)(hd:(x == ("__debug__" : Str))=false:=by decide)(bG:(x == ("__classdict__" : Str))=false:=by decide):QE .P X E (.Name x pos) (f_ i):=⟨QDM<|pv i hN hv hd bG⟩
def Jg{i:Int}{j pos}:QE .D X E (.Constant (.int i) j pos) (dC<|.int i):=⟨QAp⟩
def Fl{j pos}:QE .D X E (.Constant (.bool b) j pos) (dC<|.bool b):=⟨QDQ⟩
def xj{j pos}:QE .D X E (.Constant .none j pos) (dC .none):=⟨QAm⟩
def fb{j pos}(h:Ji (.str x)=true:=by decide):QE .D X E (.Constant (.str x) j pos) (dC<|.str x):=⟨QAj h⟩
def Qz7(i:Int)(hg:Gl X x)(hm:X.mg x=some u)(r:RelV (.int i) u)(hd:(x == ("__debug__" : Str))=false:=by decide):QE .D X E (.Name x pos) (dC<|.int i):=⟨Bz (Z5 hg hm r hd) λ_ _=>.int i⟩
def Yg{a b:Zm}{wa wb:DE}{pos:Pos}{r:R2}{rD:Xc->Xc->(Xc->Prop)->Prop}{op:Operator}(ho:aI X (Xr op) r)(hd:iS r rD)(ha:QE .P X E a wa)(hb:QE .P X E b wb):QE .F X E (.BinOp a op b pos) (eX rD wa wb):=⟨QAv ho hd ha.h hb.h⟩
def Ag(ho:aI X (Xl op) r)(hd:iS r rD)(ha:QE .P X E a wa)(hb:QE .P X E b wb)(hm:behindInMarks op b=false):QE .F X E (.Compare a [op] [b] pos) (eX rD wa wb):=⟨QAt ho hd ha.h hb.h hm⟩
def J8{a b:Zm}{wa wb:DE}{pos:Pos}{r:R2}{rD:Xc->Xc->(Xc->Prop)->Prop}{op:CmpOp}(ho:aI X (Xl op) r)(hd:iS r rD)(ha:QE .P X E a wa)(hb:QE .P X E b wb)(hm:behindInMarks op b=false):QT X E (.Compare a [op] [b] pos) (gI<|eX rD wa wb):=⟨QwK ho hd ha.h hb.h hm⟩
def YX{a b:Zm}{wa wb:DE}{pos:Pos}{r:R2}{rD:Xc->Xc->(Xc->Prop)->Prop}(ho:iU X r)(hd:o_ r rD)(ha:QE .P X E a wa)(hb:QE .P X E b wb)(hs:Kx b):QE .D X E (.Subscript a b pos) (eX rD wa wb):=⟨QDO ho hd ha.h hb.h hs⟩
def Ia(ha:QE .P X E a wa):QE .F X E (.UnaryOp .USub a pos) (OK QEV wa):=⟨QAn ha.h⟩
def Nd(ho:aI X (Xl op)<|dU λi j=>.bl<|p i j)(gw:aI X (Xl qF)<|dU λi j=>.bl<|q i j)(ha:QE .P X E a wa)(hb:QE .P X E b wb)(hc:QE .P X E c wc)(hm:lastMarks [op,qF] [b,c]=false:=by with_unfolding_all rfl):QE .F X E (.Compare a [op,qF] [b,c] pos) (Hh p q wa wb wc):=⟨QDP ho gw ha.h hb.h hc.h hm⟩
def xy(h:QE .P X E e w)(he:∀whole,isTrue e X.env whole=(do let v <- whole;Xw e.pos;Xs [v]<|XG v):=by intro _;rfl):QT X E e (lX w):=⟨QwI h.h he⟩
def kW(h:QE .P X E e w)(he:∀whole,isTrue e X.env whole=(do let v <- whole;Xw e.pos;Xs [v]<|XG v):=by intro _;rfl):QT X E e (gI w):=⟨QwH h.h he⟩
def u6(ha:QT X E a ta):QW X E (.BoolOp .And [a] pos) ta:=⟨Qso ha.h⟩
def uR{rest:List Zm}(ha:QT X E a ta)(hb:QW X E (.BoolOp .And (b::rest) pos) tb):QW X E (.BoolOp .And (a::b::rest) pos) (MV ta tb):=⟨QwG ha.h hb.h⟩
def Af{rest:List Zm}(ha:QE .P X E a wa)(hb:QE .D X E (.BoolOp .And (b::rest) pos) wb):QE .D X E (.BoolOp .And (a::b::rest) pos) (QBU wa wb):=⟨QAw ha.h hb.h⟩
def Ax(ha:QT X E a ta):QW X E (.BoolOp .Or [a] pos) ta:=⟨QwF ha.h⟩
def uK{rest:List Zm}(ha:QT X E a ta)(hb:QW X E (.BoolOp .Or (b::rest) pos) tb):QW X E (.BoolOp .Or (a::b::rest) pos) (ON ta tb):=⟨QAe ha.h hb.h⟩
def QFI{rest:List Zm}(ha:QE .P X E a wa)(hb:QE .D X E (.BoolOp .Or (b::rest) pos) wb):QE .D X E (.BoolOp .Or (a::b::rest) pos) (QE6 wa wb):=⟨QDN ha.h hb.h⟩
def kO(h:QW X E e t):QT X E e t:=⟨PW.pt h.h⟩
def kU(ha:QT X E a ta):QT X E (.UnaryOp .Not a pos) (QE7 ta):=⟨QwJ ha.h⟩
def xk{op}(h:QE .D X E a w):QE .D X E (.BoolOp op [a] pos) w:=⟨QAk h.h⟩
def Pw(ha:QE .P X E a wa):QE .D X E (.UnaryOp .Not a pos) (QBP wa):=⟨QAl ha.h⟩
def QDF(hc:QT X E c ta)(ha:QE .D X E a wa)(hb:QE .D X E b wb):QE .D X E (.IfExp c a b pos) (QFa ta wa wb):=⟨QAq hc.h ha.h hb.h⟩
def Q8{m:Md}:QA 0 m X E [] md:=⟨QwZ⟩
def Zv{n:Nat}{e:Zm}{es:List Zm}{we:DE}{wr:kj}(he:QE .D X E e we)(hr:QA n .D X E es wr)(hs:notStar e=true:=by rfl):QA (n+1) .D X E (e::es) (fV we wr):=⟨QoD he.h hr.h hs⟩
def cF(he:QE .P X E e we)(hr:QA n .P X E es wr)(hs:notStar e=true:=by rfl):QA (n+1) .P X E (e::es) (fV we wr):=⟨QoC he.h hr.h hs⟩
def Ys{x1}(h:QA n .D X E es w)(hn:n<=1000:=by decide):QE .F X E (.Tuple es x1 pos) (wV w):=⟨QAh h.h hn⟩
def g6{n:Nat}{es:List Zm}{w:kj}{pos:Pos}(h:QA n .D X E es w)(hn:n<=1000:=by decide):QE .F X E (.List es pos) (Bw w):=⟨QAo h.h hn⟩
def QDG:QE .D X E (.Dict [] [] pos) (dC<|.dict []):=⟨QAr⟩
def Y9(hc:aG X (.builtin CA) r)(hd:iL r rD)(hg:Gl X x)(hm:X.mg x=none)(hv:Xm x=some (.builtin CA))(ha:QA n .P X E (e::es) wr)(hn:x ≠ "__name__" := by decide)(bO:(x == ("__debug__" : Str))=false:=by decide)(he:Xh (e::es) X.env=(false,eval e X.env)::Xh es X.env:=by rfl)(hpl:(Xp pos<|Xh es X.env).any (·.1)=false:=by rfl):QE .F X E (.Call (.Name x p) (e::es) [] pos) (ui rD wr):=⟨QsF hc hd hg hm hv ha.h hn bO he hpl⟩
def Yb(hc:aG X (.type T) r)(hd:iL r rD)(hg:Gl X x)(hm:X.mg x=none)(hv:Xm x=some (.type T))(ha:QA n .P X E (e::es) wr)(hn:x ≠ "__name__" := by decide)(bO:(x == ("__debug__" : Str))=false:=by decide)(he:Xh (e::es) X.env=(false,eval e X.env)::Xh es X.env:=by rfl)(hpl:(Xp pos<|Xh es X.env).any (·.1)=false:=by rfl):QE .F X E (.Call (.Name x p) (e::es) [] pos) (ui rD wr):=⟨QoE hc hd hg hm hv ha.h hn bO he hpl⟩
def uN(tn:Tn)(hg:Gl X "isinstance")(hm:X.mg "isinstance" = none)(he:QE .P X E e we)(zw:Gl X x)(tY:X.mg x=none)(hv:Xm x=some (.type tn.s))(hn:x ≠ "__name__" := by decide)(hd:(x == ("__debug__" : Str))=false:=by decide)(h1:notStar e=true:=by rfl):QE .F X E (.Call (.Name "isinstance" p) [e,.Name x lC] [] pos) (QBR tn we):=⟨Qw0 tn hg hm he.h (QDR tn zw tY hv hn hd) h1 rfl⟩
def AG  : QO X E none OO:=⟨Qsz⟩
def AH(he:QE .P X E e we):QO X E (some e) (OL we):=⟨Qsy he.h⟩
def AF{lo:Option Zm}(he:QE .P X E e we)(hl:QO X E lo wl)(hh:QO X E hi wh):QE .F X E (.Subscript e (.Slice lo hi none p2) pos) (OM we wl wh):=⟨QsD he.h hl.h hh.h⟩
def Zq  : oq X E [] M':=⟨QwQ⟩
def YM{e:Zm}{es:List Zm}{we:DE}{wr:lg}(he:QE .D X E e we)(hr:oq X E es wr)(hs:notStar e=true:=by rfl):oq X E (e::es) (sV we wr):=⟨QDL he.h hr.h hs⟩
def uQ(i:Nat)(hr:oq X E es wr)(hN:X.N[i]? = some x:=by rfl)(hv:gU X.env.scope x:=by first | exact QM rfl | exact QV (QM rfl) | exact QV<|QV rfl)(hd:(x == ("__debug__" : Str))=false:=by decide)(bG:(x == ("__classdict__" : Str))=false:=by decide):oq X E (.Name x pos::es) (Fo i wr):=⟨QwN (pv i hN hv hd bG) hr.h rfl⟩
def Qz8(G:aO X.prog X.w X.K X.mg X.base CX k f fd ps<|ZK false fD)(hr:az k X.A)(hg:Gl X x)(hm:X.mg x=some (.ref f))(hk:Wu X.K (.ref f)=true)(hb:Binds X.K fd ps [])(hx:g7 CX X E)(ha:oq X E (e::es) wa)(bO:(x == ("__debug__" : Str))=false:=by decide)(he:Xh (e::es) X.env=(false,eval e X.env)::Xh es X.env:=by rfl)(hpl:(Xp pos<|Xh es X.env).any (·.1)=false:=by rfl):QE .D X E (.Call (.Name x p) (e::es) [] pos) (pA fD wa):=⟨Qw2 G hr hg hm hk hb hx ha.h bO he hpl⟩
def Qwr(G:aO X.prog X.w X.K X.mg X.base CX k f fd ps<|ZK true fD)(hr:az k X.A)(hg:Gl X x)(hm:X.mg x=some (.ref f))(hk:Wu X.K (.ref f)=true)(hb:Binds X.K fd ps [])(hx:g7 CX X E)(ha:oq X E (e::es) wa)(bO:(x == ("__debug__" : Str))=false:=by decide)(he:Xh (e::es) X.env=(false,eval e X.env)::Xh es X.env:=by rfl)(hpl:(Xp pos<|Xh es X.env).any (·.1)=false:=by rfl):QE .F X E (.Call (.Name x p) (e::es) [] pos) (pA fD wa):=⟨QsE G hr hg hm hk hb hx ha.h bO he hpl⟩
def ZX(i:Nat){x:Str}{pos:Pos}(hN:X.N.Nodup)(hi:X.N[i]? = some x)(hx:Loc X.env.scope x)(hf:X.fn x=true∨X.env.scope.names.lookup x=some .local:=by first | exact .inl rfl | exact .inr rfl | assumption):QG [i] X (.Name x pos) (gN i):=⟨QsC<|YF hN hi hx hf⟩
structure EY (X:Cx) (es:List Zm) (is:List Nat):Prop where h:BC X es<|Cn is
def iN  : EY X [] []:=⟨pK⟩
def JO(i:Nat){is:List Nat}{x:Str}{pos:Pos}{es:List Zm}(h:EY X es is)(hN:X.N.Nodup)(hi:X.N[i]? = some x)(hx:Loc X.env.scope x)(hf:X.fn x=true∨X.env.scope.names.lookup x=some .local:=by first | exact .inl rfl | exact .inr rfl | assumption)(hs:(Xv (.Name x pos::es) X.env).map (·.2)=assign (.Name x pos) X.env::(Xv es X.env).map (·.2):=by rfl):EY X (.Name x pos::es) (i::is):=⟨Zz (YF hN hi hx hf) h.h hs⟩
def iO{es:List Zm}{k:Nat}{pos:Pos}{is:List Nat}(hc:X.calm=true)(h:EY X es is)(hn:(Xv es X.env).length=is.length:=by rfl)(fJ:(Xv es X.env).findIdx? (·.1)=none:=by rfl):QG is X (.Tuple es k pos) (G7 is):=⟨QwY (pC hc h.h hn fJ) rfl⟩
def rX(h:QE m X E e w):QI m X E tg e (QE9 w):=⟨QsB h.h⟩
def mq{m:Md}{tg e:Zm}{w:DE}(h:QE m X E e w):QI m X E tg e (QE8 w):=⟨QwX h.h⟩
def u5{m:Md}{tg e:Zm}{w:DE}{p pos:Pos}(hg:Gl X "range")(hm:X.mg "range" = none)(h:QE .P X E e w)(hs:notStar e=true:=by rfl):QI m X E tg (.Call (.Name "range" p) [e] [] pos) (QBM w):=⟨QsA hg hm h.h hs⟩
def D9{x1}(hg:Gl X "enumerate")(hm:X.mg "enumerate" = none)(h:QE m X E e w)(hs:notStar e=true:=by rfl):QI m X E (.Tuple elts x1 cM) (.Call (.Name "enumerate" p) [e] [] pos) (QFc w):=⟨QoB hg hm h.h hs⟩
def VZ{x1}(hg:Gl X "enumerate")(hm:X.mg "enumerate" = none)(h:QE m X E e w)(hs:notStar e=true:=by rfl):QI m X E (.Tuple elts x1 cM) (.Call (.Name "enumerate" p) [e] [] pos) (QFb w):=⟨QoA hg hm h.h hs⟩
def rY  : yj X E [] M0:=⟨Qsq⟩
def jQ{c:Zm}{t:DT}(h:QT X E c t):yj X E [c] t:=⟨Qsp h.h⟩
def iu(M:List Str)(cap:List<|Option Nat){elt tg iter:Zm}{ifs:List Zm}{scope:jd}{pos:Pos}{ix:List Nat}{wi:DI}{wg:DG}{wt:DT}{we:DE}(hi:QI .P X E tg iter wi)(hb:∀cl ex s3 H3 C,QG ix (bV X M scope cl ex s3 H3 C) tg wg/\yj (bV X M scope cl ex s3 H3 C) E0 ifs wt/\QE .D (bV X M scope cl ex s3 H3 C) E0 elt we)(hc:X.calm=true:=by rfl)(ok:pz X.N X.env.scope M scope cap=true:=by rfl)(hf:jh cap ix=true:=by rfl)(hs:∀x,Xn iter X.env x=pure x:=by intro _;rfl):QE .F X E (.ListComp elt [⟨tg,iter,ifs,0⟩] scope pos) (jE cap wi wg wt we):=⟨Qw1 hc ok hf hi.h (λcl ex s3 H3 C=>⟨(hb cl ex s3 H3 C).1.h,(hb cl ex s3 H3 C).2.1.h,(hb cl ex s3 H3 C).2.2.h⟩) hs⟩
def Zu  : kh X E [] rC:=⟨Qsr⟩
def Q7{st:Zo}{w:DS}(h:QS X E st w):kh X E [st] w:=⟨QwP h.h⟩
def QJ{st:Zo}{rest:List Zo}{w w':DS}(h:QS X E st w)(h':kh X E rest w'):kh X E (st::rest) (o9 w w'):=⟨Qsw h.h h'.h⟩
def Qio:kh X E yv (λ_ _=>False):=⟨Qoz⟩
def ZH(i:Nat){x:Str}{e:Zm}{pos pos':Pos}{we:DE}(he:QE .D X E e we)(hN:X.N.Nodup)(hi:X.N[i]? = some x:=by rfl)(hx:Loc X.env.scope x:=by first | exact QM rfl | exact QV rfl)(hs:Xt e (some<|.Name x pos') pos.line X.env=pure false:=by rfl)(hf:X.fn x=true∨X.env.scope.names.lookup x=some .local:=by first | exact .inl rfl | exact .inr rfl | assumption):QS X E (.Assign [.Name x pos'] e pos) (Fd i we):=⟨K4<|ir hN hi hx he.h hs hf⟩
def xJ(i:Nat){x:Str}{e:Zm}{pos pos':Pos}{we:DE}(he:QE .F X E e we)(hN:X.N.Nodup)(hi:X.N[i]? = some x:=by rfl)(hx:Loc X.env.scope x:=by first | exact QM rfl | exact QV rfl)(hs:Xt e (some<|.Name x pos') pos.line X.env=pure false:=by rfl)(hf:X.fn x=true∨X.env.scope.names.lookup x=some .local:=by first | exact .inl rfl | exact .inr rfl | assumption):QS X E (.Assign [.Name x pos'] e pos) (CT i we):=⟨Qss<|ir hN hi hx he.h hs hf⟩
def uP{tg e:Zm}{pos:Pos}{ix:List Nat}{we:DE}{wg:DG}(he:QE .D X E e we)(hg:QG ix X tg wg)(hs:swapsWithSole [tg] e pos.line X.env=pure false:=by rfl)(hw:swappedStores [tg] e X.env=pure none:=by rfl)(h1:(Xv [tg] X.env).map (·.2)=[assign tg X.env]:=by rfl):QS X E (.Assign [tg] e pos) (QFd we wg):=⟨QwV<|n8 he.h hg.h hs hw h1⟩
def Qz1(i j:Nat){kt k2 sZ}(ha:QA n .D X E [a,b] wa)(hN:X.N.Nodup)(hc:X.calm=true:=by rfl)(hi:X.N[i]? = some x:=by rfl)(hj:X.N[j]? = some y:=by rfl)(uc:i≠j:=by decide)(hx:X.env.scope.names.lookup x=some .local:=by rfl)(hy:X.env.scope.names.lookup y=some .local:=by rfl)(hw:swappedStores [.Tuple [.Name x px,.Name y py] kt pt] (.Tuple [a,b] k2 sZ) X.env=pure (some [x,y]):=by rfl)(hs:swapsWithSole [.Tuple [.Name x px,.Name y py] kt pt] (.Tuple [a,b] k2 sZ) pos.line X.env=pure false:=by rfl):QS X E (.Assign [.Tuple [.Name x px,.Name y py] kt pt] (.Tuple [a,b] k2 sZ) pos) (QE5 i j wa):=⟨QwO<|QAa hc hN hi hj uc hx hy ha.h hw hs⟩
def iP(h:QE .D X E e we):QS X E (.Return (some e) pos) (QE4 we):=⟨QwL h.h⟩
def ZN(h:QE .F X E e we):QS X E (.Return (some e) pos) (HH we):=⟨Qsu h.h⟩
def K'(i:Nat){x:Str}{pos lC:Pos}(hN:X.N[i]? = some x:=by rfl)(hv:gU X.env.scope x:=by first | exact QM rfl | exact QV (QM rfl) | exact QV<|QV rfl)(hd:(x == ("__debug__" : Str))=false:=by decide)(bG:(x == ("__classdict__" : Str))=false:=by decide):QS X E (.Return (some<|.Name x pos) lC) (HI i):=⟨Qst<|pv i hN hv hd bG⟩
def dQ(hc:QT X E c t)(ha:kh X E a w)(hb:kh X E b w'):QS X E (.If c a b pos) (qS t w w'):=⟨QAf hc.h ha.h hb.h⟩
def SG(i:Nat)(ho:mI X op ti)(hd:o_ ti rD)(he:QE .P X E e we)(hN:X.N.Nodup)(hi:X.N[i]? = some x:=by rfl)(hx:Loc X.env.scope x:=by first | exact QM rfl | exact QV rfl)(hf:X.fn x=true∨X.env.scope.names.lookup x=some .local:=by first | exact .inl rfl | exact .inr rfl | assumption):QS X E (.AugAssign (.Name x pos') op e pos) (MX i rD we):=⟨QwU hd<|QAb hN hi hx he.h (mI.len ho) hf⟩
def Qz4(i:Nat)(he:QE .D X E e we)(hN:X.N[i]? = some y:=by rfl)(hv:gU X.env.scope y:=by first | exact QM rfl | exact QV (QM rfl) | exact QV<|QV rfl)(hd:(y == ("__debug__" : Str))=false:=by decide)(bG:(y == ("__classdict__" : Str))=false:=by decide)(fJ:notStar e=true:=by rfl)(cT:attributeBase (.Name y bo) "append" X.env (eval (.Name y bo) X.env)=eval (.Name y bo) X.env:=by rfl)(i6:((Xp XJ<|Xh [e] X.env).all (λx => !x.1)&&(Xz XJ<|Xx [] X.env).all (λx=>x.1.isSome)&&decide ([e].length+([]:List ml).length+(if([]:List ml).isEmpty then 0 else 1)<30))=true:=by rfl)(cR:(apos.endLine == XJ.line)=true:=by rfl)(j7:Xt (.Call (.Attribute (.Name y bo) "append" apos) [e] [] XJ) none pos.line X.env=pure false:=by rfl):QS X E (.Expr (.Call (.Attribute (.Name y bo) "append" apos) [e] [] XJ) pos) (MW i we):=⟨QwW<|ZB (gZ Wz WU WV Bj (pv i hN hv hd bG) (Y6 he.h Qu fJ) cT i6 cR (mz fJ) rfl) j7⟩
def Qz3(i:Nat)(he:QE .P X E e we)(hN:X.N[i]? = some y:=by rfl)(hv:gU X.env.scope y:=by first | exact QM rfl | exact QV (QM rfl) | exact QV<|QV rfl)(hd:(y == ("__debug__" : Str))=false:=by decide)(bG:(y == ("__classdict__" : Str))=false:=by decide)(fJ:notStar e=true:=by rfl)(cT:attributeBase (.Name y bo) "extend" X.env (eval (.Name y bo) X.env)=eval (.Name y bo) X.env:=by rfl)(i6:((Xp XJ<|Xh [e] X.env).all (λx => !x.1)&&(Xz XJ<|Xx [] X.env).all (λx=>x.1.isSome)&&decide ([e].length+([]:List ml).length+(if([]:List ml).isEmpty then 0 else 1)<30))=true:=by rfl)(cR:(apos.endLine == XJ.line)=true:=by rfl)(j7:Xt (.Call (.Attribute (.Name y bo) "extend" apos) [e] [] XJ) none pos.line X.env=pure false:=by rfl):QS X E (.Expr (.Call (.Attribute (.Name y bo) "extend" apos) [e] [] XJ) pos) (MY i we):=⟨QwT<|ZB (gZ Wz PySem.F.slot_list_extend PySem.F.type_list_extend Qo4 (pv i hN hv hd bG) (Y6 he.h Qu fJ) cT i6 cR (mz fJ) rfl) j7⟩
def SH(i:Nat)(he:QE .D X E e we)(hk:QE .P X E k wk)(hN:X.N[i]? = some y:=by rfl)(hv:gU X.env.scope y:=by first | exact QM rfl | exact QV (QM rfl) | exact QV<|QV rfl)(hd:(y == ("__debug__" : Str))=false:=by decide)(bG:(y == ("__classdict__" : Str))=false:=by decide) (ha:∀v,assign (.Subscript (.Name y bo) k cO) X.env v=(do
   let ov <- Xs [v] (eval (.Name y bo) X.env)
   let iv <- Xs [v,ov] (eval k X.env)
   Xw cO
   Xs [v,ov,iv] (XE ov iv v)
   release [v,ov,iv] []):=by intro _;rfl) (hs:swapsWithSole [.Subscript (.Name y bo) k cO] e pos.line X.env=pure false:=by rfl) (hw:swappedStores [.Subscript (.Name y bo) k cO] e X.env=pure none:=by rfl) (h1:(Xv [.Subscript (.Name y bo) k cO] X.env).map (·.2)=[assign (.Subscript (.Name y bo) k cO) X.env]:=by rfl):QS X E (.Assign [.Subscript (.Name y bo) k cO] e pos) (By i wk we):=⟨QwM<|n8 he.h (C9 (pv i hN hv hd bG) hk.h A8 ha) hs hw h1⟩
def Qwo(i:Nat)(ho:mI X op ti)(hd:o_ ti rD)(hk:QE .P X E k wk)(he:QE .P X E e we)(hN:X.N[i]? = some y:=by rfl)(hv:gU X.env.scope y:=by first | exact QM rfl | exact QV (QM rfl) | exact QV<|QV rfl)(hdd:(y == ("__debug__" : Str))=false:=by decide)(bG:(y == ("__classdict__" : Str))=false:=by decide)(ha:∀ov iv new,augStore k ov iv new=(do Xs [new,ov,iv] (XE ov iv new);release [new,ov,iv] [];pure .next):=by intros;rfl):QS X E (.AugAssign (.Subscript (.Name y bo) k cM) op e pos) (HG i rD wk we):=⟨Qsx hd<|Qwz (pv i hN hv hdd bG) hk.h QtA he.h (mI.len ho) A8 ha⟩
def pE{tg iter:Zm}{body:List Zo}{pos:Pos}{ix:List Nat}{wi:DI}{wg:DG}{wb:DS}(hp:xC (Xg X.prog X.w) X.A X.env X.xe)(hc:X.calm=true)(hi:QI .D X E tg iter wi)(hg:QG ix X tg wg)(hb:kh X E body wb)(hs:∀x,Xn iter X.env x=pure x:=by intro _;rfl):QS X E (.For tg iter body [] pos) (zX wi wg wb):=⟨QwS hp hc hi.h hg.h hb.h hs⟩
def D_(zc:∀e s1,Xi (Xg X.prog X.w) X.A (leaving X.env e) (λ_ s2=>Rx.aY X.prog X.w X.outer X.H₀ X.s₀ E e s2) (λe' s2=>Rx.aY X.prog X.w X.outer X.H₀ X.s₀ E e' s2) s1->X.xe e s1)(hm:X.mg x=some (.ref C))(q:Ww X.K C Rx.cu "ValueError.__new__" = true)(ha:QE .P X E e0 we)(dn:X.stack=X.env::X.outer:=by rfl)(nu:X.env.frame=some X.env.locals:=by rfl)(hex:X.ex=[]:=by rfl)(hc:X.calm=true:=by rfl)(hg:Gl X x:=by rfl)(he:Xh [e0] X.env=[(false,eval e0 X.env)]:=by rfl)(hd:(x == ("__debug__" : Str))=false:=by decide):QS X E (.Raise (some<|.Call (.Name x np) [e0] [] XJ) none pos) (RM C we):=⟨Qoy<|Rx.A7 zc dn nu hex hc hg hm q ha.h he hd⟩
def Uu(he:QE .P X E e we)(hs:Xt e none pos.line X.env=pure false:=by rfl):QS X E (.Expr e pos) (QBS we):=⟨Qsv<|ZB he.h hs⟩
end
section
variable{P:QB}{w:Jh}{K:Ws}{mg:Str->Option Xd}{base:ZF}
def okQ{st:Zo}(fr:Bool)(F:iw K x qual st f fd)(S:Yx N ps<|Q4 st)(len:∀args R EX,fD args R EX->args.length=ps.length)
  (XL:∀(ao:Xd)(A:Jo)(outer:List Env)(s:Xe)(H:Hp)(E:XK),az k (A.deeper<|envOfC qual (Q4 st) s.heap.objs.size f ao) ->
   ∃wd,kh (bP ax P w K mg base N qual (Q4 st) f ao A outer s H E).iF E0 (Yk st) wd/\∀args R EX,fD args R EX->wd (rE fr R XF) (ku N args)):aO P w K mg base ax (k+1) f fd ps (ZK fr fD):=
 okD fr F S len λao A outer s H E hr=>let ⟨wd,h,q⟩:=XL ao A outer s H E hr;⟨wd,h.h,q⟩
def QFJ{st:Zo}(fr:Bool)(F:iw K x qual st f fd)(S:Yx N ps<|Q4 st)(len:∀args R EX,fD args R EX->args.length=ps.length)
  (XL:∀(ao:Xd)(A:Jo)(outer:List Env)(s:Xe)(H:Hp)(E:XK),az k (A.deeper<|envOfC qual (Q4 st) s.heap.objs.size f ao) ->
   ∃wd,kh (bP (Rx.aY P w) P w K mg base N qual (Q4 st) f ao A outer s H E) E (Yk st) wd/\∀args R EX,fD args R EX->wd (rE fr R EX) (ku N args)):aO P w K mg base (Rx.aY P w) (k+1) f fd ps (ZK fr fD):=
 QFK fr F S len λao A outer s H E hr=>let ⟨wd,h,q⟩:=XL ao A outer s H E hr;⟨wd,h.h,q⟩
end
end Dl
namespace Rk
open L2 _root_.Rd Dl
def jy(d:Xc)(a b:Int):Bool:=match d with
 |.int i=>decide (a<=i)&&decide (i<=b)
 |_=>false
def CK(h1:a<=i)(h2:i<=b):jy (.int i) a b=true:=by
 show(decide (a<=i)&&decide (i<=b))=true;rw[X_ h1,X_ h2];rfl
def QBk(h:jy d a b=true):∃i,d=.int i/\a<=i/\i<=b:=by
 cases d<;>first | (cases h;done) | skip
 rename_i i
 have h:=QH.mp (h);exact⟨i,rfl,Y' h.1,Y' h.2⟩
def AL:DF:=λargs R _=>∃d a b,args=[.v d,.v<|.int a,.v<|.int b]/\R (.bool<|jy d a b)
def vm(ns:List Int):gv (ns.map Qp)=true:=KU.mpr λd hd=>by
 obtain⟨i,_,rfl⟩:=Qh.mp hd;rfl
def QtR(xs:List Xc)(k:Int)(h:0<=k):Dl.cutD xs none (some k)=xs.take k.toNat:=by
 unfold Dl.cutD;obtain⟨j,rfl⟩:∃j:Nat,k=j:=⟨k.toNat,by omega⟩
 rw[HT.V4,HT.UU,List.drop_zero,Nat.sub_zero,Qx];by_cases z:j<=xs.length
 ·rw[LK z]
 ·rw[PK<|by omega,Zh,MH<|by omega]
end Rk
namespace Rx
open PySem.Calls L2
section
variable{X:Cx}{e:Zm}{st:Zo}{rest:List Zo}{pos:Pos}{te:TX}{t u:wL}
def Qwx(he:Fq X e te):PSX X (.Return (some e) pos) (λD σ H Ex=>te σ H D.rt Ex):=by
 intro XI s σ H D Ex I h;exact LB<|aD (he XI s σ H _ _ I h) λv s1 ⟨x,H1,I1,r1,q1⟩=>⟨x,σ,H1,I1,r1,q1⟩
end
end Rx
namespace L2
open Dl
end L2
namespace Dl
open L2 _root_.Rd Rk
section
variable{X:Cx}
variable{k:Nat}{f:Xb}{fd:Z3}{ps:List Str}{x:Str}{p pos:Pos}{e:Zm}{es:List Zm}{fD:DF}{wa:lg}
end
end Dl
namespace Rx
open PySem.Calls L2
def Qzu(C:Xb)(m:Str)(sp:Sp)(ta:TE)(t:TA):TX:=λσ H Q Ex=>ta σ H λx H1=>∃a dx fs,x=.ref a/\H1 a=some (.ins C dx fs)/\fs.lookup m=none /\
 t σ H1 λvs H2=>sp (x::vs) H2 Q λcv _ H3=>∃D,cv=.ref D/\Ex D H3
section
variable{X:Cx}{k:Nat}{f C:Xb}{fd:Z3}{ps:List Str}{sp:Sp}{m:Str}{apos pos:Pos}{o e:Zm}{es:List Zm}{ta:TE}{t:TA}
def QDv{Ex:Xb->Hp->Prop}(F:aO X.prog X.w X.K X.mg X.base (aY X.prog X.w) k f fd ps sp)(hr:az k X.A)(hb:Binds X.K fd ps [])(hex:X.ex=[])
  (I1:Inv X XI σ H1 s1)(r:ai vs us)(q:sp vs H1 Q λcv _ H2=>∃C,cv=.ref C/\Ex C H2) :
  Xi (Xg X.prog X.w) X.A (call (.ref f) us) (EP X XI σ Q) (XP X XI λσ1 C H1=>σ1=σ/\Ex C H1) s1:=by
 have hl:us.length=ps.length:=by rw[<- r.length];exact F.len _ _ _ _ q
 have zF:pB s1 fd ⟨us,[]⟩ (ps.zip us):=by
  have z:=hb s1 us I1.bX (by rw[J4];exact hl);rw[J4] at z;exact z
 refine xO<|sv (F.run X.A X.stack s1 H1 ⟨us,[]⟩ us vs Q _ hr I1.oS zF r q) λr s2 hq=>?_;cases r with
 |error e=>
  obtain⟨C0,H2,⟨a,t',B,rfl,os,bare,fl,fa,fH,land⟩,C,eC,ex⟩:=hq;cases eC;refine⟨σ,C0,H2,a,t',B,rfl,fl,fH,?_,λp hp z=>?_,λh2 tk st up=>?_,rfl,ex⟩
  ·cases z:X.s₀.heap.get? a with
   |none=>rfl
   |some o=>
    obtain⟨o',e'⟩:=I1.base.there a o z (by rw[hex];simp);rw[fa] at e';cases e'
  ·have e':=(I1.pin p hp).1;rw[z,fa] at e';cases e'
  ·obtain⟨un,ar⟩:=land h2 st up;exact I1.lZ os un ar bare (λb z=>Z_ z<|by simp)
 |ok fl=>
  cases fl with
  |ret u=>exact I1.after hq
  |next=>exact Jr hq
  |brk=>exact Jr hq
  |cont=>exact Jr hq
def Qsg(he:PE X.iF o ta)(c:jn X.K C)(hm:jl X.K C m f)(F:aO X.prog X.w X.K X.mg X.base (aY X.prog X.w) k f fd ps sp)(hr:az k X.A)(hb:Binds X.K fd ps [])(hex:X.ex=[])(ha:PA X.iF (e::es) t)
  (fJ:Xh (e::es) X.env=(false,eval e X.env)::Xh es X.env:=by rfl)(hpl:(Xp pos<|Xh es X.env).any (·.1)=false:=by rfl)
  (ht:eval (.Call (.Attribute o m apos) (e::es) [] pos) X.env=(do
   let ov <- eval o X.env
   Xw apos.atName
   let (f,first) <- Xs [ov] (XC ov m pl)
   XH pos f first (Xp pos<|Xh (e::es) X.env) (Xz pos<|Xx [] X.env)):=by rfl) :
  Fq X (.Call (.Attribute o m apos) (e::es) [] pos) (Qzu C m sp ta t):=by
 intro XI s σ H Q Ex I h;refine W6 (Xk (he XI s σ H _ (I.cG _) h) (λu s1 ⟨x,H1,J1,rx,a,dx,fs,ex,ea,l,q⟩=>?_) λ_ _ z=>Jr z) ht;subst ex;obtain rfl:u=JT a:=rx;have I1:=J1.aZ;refine Mh I1 ea c hm l ?_
 refine WL I.ok.mod.oH hm.kp (Xk (ha pos XI s1 σ H1 _ (I1.cG _) q) (λus s2 ⟨vs,H2,J2,r,q2⟩=>?_) λ_ _ z=>Jr z) fJ hpl;have I2:=J2.aZ;exact⟨I2.bX,QDv (vs:=.ref a::vs) F hr hb hex I2 (.cons rfl r) q2⟩
end
end Rx
namespace Rk
def xQ(h:n<=1000000):n<Xj:=JK h (by decide)
end Rk
namespace L2
section
variable{X:Cx}
def Qh8:∀(l:List (Str×Tok)),ai ((l.map (·.1)).map V.str) (strValues l)
 |[]=>.nil
 |p::l=>.cons ⟨p.2,rfl⟩<|Qh8 l
def Qie:∀{ts:List Str}{us:List Xd},ai (ts.map V.str) us->∃l:List (Str×Tok),us=strValues l/\l.map (·.1)=ts
 |[],_,.nil=>⟨[],rfl,rfl⟩
 |t::ts,_,.cons ⟨u,e⟩ r=>by
  obtain⟨l,rfl,rfl⟩:=Qie r;subst e;exact⟨(t,u)::l,rfl,rfl⟩
def split_le(x y:Str):(YE x y).length<=x.length+2:=by
 unfold YE;split
 ·show 1<=_;omega
 ·split
  ·show 1<=_;omega
  ·rw[QhV];have h1:=StrLaws.occ_length_le x y 0 x.length<|x.length+1;have h2:∀(oZ:List Nat)(w a:Nat),(U9 x w a oZ).length=oZ.length+1:=by
    intro oZ;induction oZ with
    |nil=>intro w a;rfl
    |cons c r ih=>intro w a;show(U9 x w (c+w) r).length+1=_;rw[ih];rfl
   rw[h2];omega
def QzV:V->List V->Hp->VK->Prop:=λx vs H Q=>∃z y,x=.str z/\vs=[.str y]/\(y.length == 0)=false/\z.length<=30000/\∀l H',ag H H'->H l=none->H' l=some (.lst<|(YE z y).map V.str)->Q (.ref l) H'
def Qti:ym X "str.split" QzV:=by
 intro XI s σ H x vs v us Q I rx rv h;obtain⟨z,y,rfl,rfl,hy,hz,q⟩:=h;obtain⟨t,rfl⟩:=rx;obtain⟨u,rfl,ru⟩:=rv.one;obtain⟨t',rfl⟩:=ru;have hf:=I.ar.fresh<|Qd _;have hlen:=split_le z y;have fin:∀(l:List (Str×Tok)) tk,l.map (·.1)=YE z y->EP X XI σ Q (.ref s.heap.objs.size) { s with heap:=s.heap.push { cls:=.type "list",data:=.seq (strValues l).toArray },toks:=tk }:=λl tk hl=>by
  refine⟨.ref s.heap.objs.size,upd H s.heap.objs.size<|.lst<|(YE z y).map V.str,I.laid (λb u e=>Qf _ e) (Qd _) ⟨?_,strValues l,0,?_,Qs _ rfl⟩,rfl,q _ _ (JA hf) hf af⟩
  ·rw[Qb];exact JG (Rk.xQ<|by omega)
  ·rw[<- hl];exact Qh8 l
 have hzl:z.length<=Xj:=JG (Rk.xQ<|by omega);cases h1:(decide (z.length<y.length)||decide (Qh7 z<Qh7 y))
 ·cases qO:(Qgl z y 0 z.length<|z.length+1).isEmpty
  ·have es:YE z y=Builtin.Str.partsBetween z (Qgl z y 0 z.length<|z.length+1) y.length:=(X8<|ne_true_of_eq_false h1).trans<|X8<|ne_true_of_eq_false qO;refine mG LJ (AE _ _ _) LY (LM _ _) (meets_str_split_sep z y t t' h1 hy qO hzl (by rw[<- es];exact JG<|Rk.xQ<|by omega)) ?_
   rw[strsFrom_eq];exact fin (numbered s.toks _) _<|(numbered_texts _ _).trans es.symm
  ·exact mG LJ (AE _ _ _) LY (LM _ _) (meets_str_split_not_found z y t t' h1 hy qO)
    (fin [(z,t)] s.toks ((X8<|ne_true_of_eq_false h1).trans<|X9 qO).symm)
 ·exact mG LJ (AE _ _ _) LY (LM _ _) (meets_str_split_cannot_occur z y t t' h1)
   (fin [(z,t)] s.toks (X9 h1).symm)
def QDA(K:Ws):V->List V->Hp->VK->Prop:=λx vs H Q=>∃sep p ts,x=.str sep/\vs=[.ref p]/\aA K H p ((ts:List Str).map V.str)/\JoinOk sep ts=true/\Q (.str<|jR sep ts) H
def pJ:ym X "str.join" (QDA X.K):=by
 intro XI s σ H x vs v us Q I rx rv h;obtain⟨sep,p,ts,rfl,rfl,hp,ar,q⟩:=h;obtain⟨t,rfl⟩:=rx;obtain⟨u,rfl,ru⟩:=rv.one;cases ru;obtain⟨ah,FR,pl,hz⟩:=I.list hp;obtain⟨l,rfl,hl⟩:=Qie FR;exact SC.join pl.isList hl ar λt' k=>⟨.str<|jR sep ts,H,I.tok k,⟨t',rfl⟩,q⟩
def QFD(u:Nat):R2:=λx y H Q=>∃a b xs,x=.ref a/\y=.ref b/\H a=some (.lst xs)/\H b=some (.lst [])/\u<cLine/\Q (.bl (!xs.isEmpty)) H
def QAB:aI X (Xl .NotEq) (QFD X.A.units):=by
 intro XI s σ H x y v u Q I rx ry h;obtain⟨a,b,xs,rfl,rfl,ha,hb,hu,q⟩:=h;cases rx;cases ry;obtain⟨_,ah,n,r1,e1⟩:=I.ar a _ ha;obtain⟨_,fP,n2,r2,e2⟩:=I.ar b _ hb;cases r2;have l1:s.heap.IsList a ah.toArray:=⟨_,e1,rfl,_,rfl⟩;have l2:s.heap.IsList b #[]:=⟨_,e2,rfl,_,rfl⟩;cases r1 with
 |nil=>exact SeqAt.RcNeAt.lists (e:=λ_=>true) l1 l2 rfl hu (λj h1 h2=>Z_ h2<|Lz j) _ _ _ _ ⟨.bl _,H,I,rfl,q⟩
 |cons _ _=>exact SeqAt.RcNeAt.lists_lengths l1 l2 (by simp) hu _ _ _ _ ⟨.bl _,H,I,rfl,q⟩
end
section
variable{κ:Type}[DecidableEq κ]
def jc(kvs:List (κ×V))(k:κ):Option V:=(kvs.find? λkv=>decide (kv.1=k)).map (·.2)
def gW(kvs:List (κ×V))(k:κ)(v:V):List (κ×V):=
 if(kvs.any λkv=>decide (kv.1=k))=true then kvs.map (λkv=>if kv.1=k then(kv.1,v) else kv) else kvs++[(k,v)]
def xW{k:κ}(e:p.1=k):jc (p::r) k=some p.2:=by simp[jc,e]
def A9{k:κ}(e:¬p.1=k):jc (p::r) k=jc r k:=by simp[jc,e]
def VT(k:κ):∀kvs:List (κ×V),(kvs.any λkv=>decide (kv.1=k))=(jc kvs k).isSome
 |[]=>rfl
 |p::r=>by
  rw[Y3];by_cases e:p.1=k
  ·simp only[xW e,X_ e,Bool.true_or,Option.isSome_some]
  ·rw[A9 e,X' e];exact VT k r
def Mt(kvs:List (κ×V))(k:κ)(v:V):(gW kvs k v).length<=kvs.length+1:=by
 unfold gW;split
 ·rw[Qb];omega
 ·rw[Qj,Qz,PC];omega
def b_.j6(r:b_ o u):o.isSome=u.isSome:=by
 cases o with
 |none=>cases u with
  |none=>rfl
  |some _=>exact(r).elim
 |some _=>cases u with
  |none=>exact(r).elim
  |some _=>rfl
def b_.getD(r:b_ o u)(rd:RelV d d'):RelV (o.getD d) (u.getD d'):=by
 cases o with
 |none=>cases u with
  |none=>exact rd
  |some _=>exact(r).elim
 |some _=>cases u with
  |none=>exact(r).elim
  |some _=>exact r
def KV.val(r:KV kvs vs)(k:κ):b_ (jc kvs k) (valueAt vs k):=by
 induction r with
 |nil=>exact Ju
 |@cons p q ps qs h t ih=>
  obtain⟨h1,h2⟩:=h;by_cases e:p.1=k
  ·have e':=h1.symm.trans e;have b:valueAt (q::qs) k=some q.2:=by simp[valueAt,e']
   rw[xW e,b];exact h2
  ·have e':¬q.1=k:=λz=>e<|h1.trans z
   have b:valueAt (q::qs) k=valueAt qs k:=by simp[valueAt,e']
   rw[A9 e,b];exact ih
def KV.any(r:KV kvs vs)(k:κ):(kvs.any λkv=>decide (kv.1=k))=vs.any λkv=>decide (kv.1=k):=by
 induction r with
 |nil=>rfl
 |cons h t ih=>rw[Y3,Y3,ih,h.1]
def KV.sW(r:KV kvs vs)(k:κ)(ry:RelV y u) :
  KV (kvs.map λkv=>if kv.1=k then(kv.1,y) else kv) (vs.map λkv=>if kv.1=k then(kv.1,u) else kv):=by
 induction r with
 |nil=>exact .nil
 |@cons p q ps qs h t ih=>
  rw[JU,JU];refine .cons ?_ ih
  obtain⟨h1,h2⟩:=h;by_cases e:p.1=k
  ·rw[X9 e,X9<|h1.symm.trans e];exact⟨h1,ry⟩
  ·rw[X8 e,X8 λz=>e<|h1.trans z];exact⟨h1,h2⟩
def KV.put{kvs:List (κ×V)}{vs:List (κ×Xd)}(r:KV kvs vs)(k:κ){y:V}{u:Xd}(ry:RelV y u):KV (gW kvs k y) (stored vs k u):=by
 unfold gW stored;rw[r.any k];by_cases e:(vs.any λkv=>decide (kv.1=k))=true
 ·rw[X9 e,X9 e];exact r.sW k ry
 ·rw[X8 e,X8 e];exact QCv r ⟨rfl,ry⟩
def KV.length{kvs:List (κ×V)}{vs:List (κ×Xd)}(r:KV kvs vs):kvs.length=vs.length:=D8 r
end
def Ac(r:RelV (kV k) u):(aq P w).is k u=true:=by
 cases k with
 |inl i=>obtain⟨t,e⟩:=(r);subst e;exact QjY P w i t
 |inr x=>obtain⟨t,e⟩:=(r);subst e;exact Bk P w x t
def QiJ:∀{ks:List Key}{us:List Xd},ai (ks.map kV) us->ItemsAre (aq P w) ks us
 |[],_,r=>by rw[A_] at r;cases r;exact .nil
 |k::ks,_,r=>by
  cases r with
  |cons h t=>exact .cons (Ac h)<|QiJ t
abbrev KT (H:Hp):List (List Key×V)->List (List Key×Xb×Xd)->Prop:=Zw λp q=>p.1=q.1/\H q.2.1=some (.tup<|p.1.map kV)/\RelV p.2 q.2.2
def KT.val(r:KT H kvs xs)(k:List Key):b_ (jc kvs k) ((atKey xs k).map (·.2)):=by
 induction r with
 |nil=>exact Ju
 |@cons p q ps qs h t ih=>
  obtain⟨h1,_,h2⟩:=h;by_cases e:p.1=k
  ·have e':=h1.symm.trans e;have b:atKey (q::qs) k=some q.2:=by simp[atKey,e']
   rw[xW e,b];exact h2
  ·have e':¬q.1=k:=λz=>e<|h1.trans z
   have b:atKey (q::qs) k=atKey qs k:=by simp[atKey,e']
   rw[A9 e,b];exact ih
def KT.sW(r:KT H kvs xs)(k:List Key)(ry:RelV y u) :
  KT H (kvs.map λkv=>if kv.1=k then(kv.1,y) else kv) (xs.map<|putAt k u):=by
 induction r with
 |nil=>exact .nil
 |@cons p q ps qs h t ih=>
  rw[JU];refine .cons ?_ ih
  obtain⟨h1,h2,h3⟩:=h;unfold putAt;by_cases e:p.1=k
  ·rw[X9 e,X9<|h1.symm.trans e];exact⟨h1,h2,ry⟩
  ·rw[X8 e,X8 λz=>e<|h1.trans z];exact⟨h1,h2,h3⟩
def KT.put{H:Hp}{kvs:List (List Key×V)}{xs:List (List Key×Xb×Xd)}(r:KT H kvs xs)(k:List Key){b:Xb}{y:V}{u:Xd}(hb:H b=some (.tup<|k.map kV))(ry:RelV y u) :
  KT H (gW kvs k y) (storedH xs k b u):=by
 have e:(kvs.any λkv=>decide (kv.1=k))=(atKey xs k).isSome:=by
  rw[VT,(r.val k).j6,Option.isSome_map]
 unfold gW storedH;rw[e];by_cases q:(atKey xs k).isSome=true
 ·rw[X9 q,X9 q];exact r.sW k ry
 ·rw[X8 q,X8 q];exact QCv r ⟨rfl,hb,ry⟩
def KT.keeps(r:KT H kvs xs)(ht:∀b ys,H b=some (.tup ys)->H' b=some (.tup ys)):KT H' kvs xs:=
 Zw.yT r λ_ _ z=>⟨z.1,ht _ _ z.2.1,z.2.2⟩
section
variable{P:QB}{w:Jh}{H:Hp}{h:ZF}{a:Xb}
def Pa(ok:cg P w H h)(e:Rd H a u):aQ P w H h a u:=e.ok ok
def Ad(ok:cg P w H h)(e:Rd H a<|.dK kvs):kvs.length<=Xj/\(a == Xq)=false/\∃vs,KV kvs vs/\h.DictOf (aq P w) a vs:=
 Pa ok e
def QBB(ok:cg P w H h)(e:H a=some (.dK kvs)):kvs.length<=Xj/\(a == Xq)=false/\∃vs,KV kvs vs/\h.DictOf (aq P w) a vs:=Ad ok<|.inl e
def AN(ok:cg P w H h)(e:H a=some (.tup<|ks.map kV)):(XB<|aq P w).is h ks a:=by
 obtain⟨_,ah,r,o,h1,h2,_,n,h3⟩:=(ok a _ e);exact⟨o,ah.toArray,n,h1,h2,h3,by simpa using QiJ r⟩
def Ae(ok:cg P w H h)(e:Rd H a<|.dT kvs):kvs.length<=Xj/\(a == Xq)=false /\
  ∃xs,KT H kvs xs/\h.DictOfH (XB<|aq P w) a xs:=by
 obtain⟨z,y,xs,r,o,es,ep,h1,h2,h3,h4,h5⟩:=(Pa ok e);refine⟨z,y,xs,r,o,es,ep,h1,h2,h3,h4,λx hx=>?_,h5⟩;have all:∀{l:List (List Key×V)}{m:List (List Key×Xb×Xd)},KT H l m->∀x∈m,(XB<|aq P w).is h x.1 x.2.1:=by
  intro l m q;induction q with
  |nil=>intro x hx;exact nomatch hx
  |@cons p q ps qs hq t ih=>
   intro x hx;rcases Qt.mp hx with e | hx
   ·subst e;exact AN ok (by rw[<- hq.1];exact hq.2.1)
   ·exact ih x hx
 exact all r x hx
def QBz(ok:cg P w H h)(e:H a=some (.dT kvs)):kvs.length<=Xj/\(a == Xq)=false /\
  ∃xs,KT H kvs xs/\h.DictOfH (XB<|aq P w) a xs:=Ae ok<|.inl e
end
def cJ(H:Hp)(a:Xb)(y:V)(r:Option V):Prop:=
 (∃kvs k,Rd H a (.dK kvs)/\y=kV k/\r=jc kvs k)∨∃kvs k b,Rd H a (.dT kvs)/\y=.ref b/\H b=some (.tup<|k.map kV)/\r=jc kvs k
def iA(H:Hp)(a:Xb)(y v:V)(H':Hp):Prop:=
 (∃kvs k,H a=some (.dK kvs)/\y=kV k/\kvs.length<Xj/\H'=upd H a (.dK<|gW kvs k v)) ∨
 ∃kvs k b,H a=some (.dT kvs)/\y=.ref b/\H b=some (.tup<|k.map kV)/\kvs.length<Xj/\H'=upd H a (.dT<|gW kvs k v)
def cJ.k{k:Key}(e:H a=some (.dK kvs)):cJ H a (kV k) (jc kvs k):=.inl ⟨kvs,k,.inl e,rfl,rfl⟩
def cJ.t{H:Hp}{a b:Xb}{kvs:List (List Key×V)}{k:List Key}(e:H a=some (.dT kvs))(eb:H b=some (.tup<|k.map kV)):cJ H a (.ref b) (jc kvs k):=.inr ⟨kvs,k,b,.inl e,rfl,eb,rfl⟩
def iA.k{k:Key}(e:H a=some (.dK kvs))(hl:kvs.length<Xj):iA H a (kV k) v (upd H a<|.dK<|gW kvs k v):=.inl ⟨kvs,k,e,rfl,hl,rfl⟩
def iA.t{H:Hp}{a b:Xb}{kvs:List (List Key×V)}{k:List Key}{v:V}(e:H a=some (.dT kvs))(eb:H b=some (.tup<|k.map kV))(hl:kvs.length<Xj) :
  iA H a (.ref b) v (upd H a<|.dT<|gW kvs k v):=.inr ⟨kvs,k,b,e,rfl,eb,hl,rfl⟩
section
variable{X:Cx}{XI:List (Xb×Xo)}{σ:St}{H:Hp}{s:Xe}{a:Xb}{y v:V}{u r:Xd}{o:Option V}{A:Jo}{E:Xd->Xe->Prop}
def Inv.Hw(I:Inv X XI σ H s):Xq<s.heap.objs.size:=by
 have h:=(I.mod.glob.keeps I.bk).lt;exact Nat.lt_trans (by decide) h
def QpR(hu:A.units+1<cLine)(I:Inv X XI σ H s)(g:cJ H a y<|some v)(ry:RelV y u)(h:∀w' s',Inv X XI σ H s'->RelV v w'->Q w' s') :
  Xi (Xg X.prog X.w) A (XA (.ref a) u) Q E s:=by
 rcases g with⟨kvs,k,e,ey,l⟩ | ⟨kvs,k,b,e,ey,eb,l⟩
 ·subst ey;obtain⟨z,hd,vs,rel,dd⟩:=Ad I.ar e;obtain⟨w',hw,gr⟩:=b_.some_of (by rw[l];exact rel.val k);exact wpAny_getItem_of (Ac ry) dd.mapOf hw<|h w' _ (I.tok _) gr
 ·subst ey;cases(ry);obtain⟨z,hd,xs,rel,dd⟩:=Ae I.ar e;obtain⟨w',hw,gr⟩:=b_.some_of (by rw[l];exact rel.val k);obtain⟨p,hp,hp2⟩:=Ja.mp hw;refine wpAny_getItem_heap (LS hu) (AN I.ar eb) dd hp ?_
  rw[hp2];exact h w' _ (I.tok _) gr
def Dp(I:Inv X XI σ H s)(mu:BF<|H a)(hs:Ya a s.heap h')(he:∃q,h'.get? a=some q)(new:aQ X.prog X.w (upd H a ob) h' a ob) :
  Inv X XI σ (upd H a ob) { s with heap:=h',toks:=t' }:=
 I.write mu (.inl rfl) (λb q hb z=>(hs.2 b hb).trans z) he new
def P2(z:kvs.length<=Xj)(hd:(a == Xq)=false)(rel:KV kvs vs)(dd:h'.DictOf (aq P w) a vs) :
  aQ P w H' h' a (.dK kvs):=⟨z,hd,vs,rel,dd⟩
def QpQ(hu:A.units+1<cLine)(I:Inv X XI σ H s)(g:iA H a y v H')(ry:RelV y u)(rv:RelV v r)(h:∀s',Inv X XI σ H' s'->Q () s') :
  Xi (Xg X.prog X.w) A (XE (.ref a) u r) Q E s:=by
 rcases g with⟨kvs,k,e,ey,l,eH⟩ | ⟨kvs,k,b,e,ey,eb,l,eH⟩
 ·subst ey eH;obtain⟨z,hd,vs,rel,dd⟩:=QBB I.ar e;have hz:vs.length<=Xj:=by rw[<- rel.length];exact z
  have hl:(gW kvs k v).length<=Xj:=by have:=Mt kvs k v;omega
  refine wpAny_setItem_pairs (Ac ry) dd λh' oX hs=>h _ ?_
  have he:∃q,h'.get? a=some q:=let ⟨q,_,_,hq,_⟩:=oX;⟨q,hq⟩
  exact Dp I (by rw[e];exact Ju) hs he<|P2 hl hd (rel.put k rv) oX
 ·subst ey eH;cases(ry);obtain⟨z,hd,xs,rel,dd⟩:=QBz I.ar e;have hz:xs.length<=Xj:=by rw[<- D8 rel];exact z
  have hl:(gW kvs k v).length<=Xj:=by have:=Mt kvs k v;omega
  refine wpAny_setItem_heap (LS hu) (AN I.ar eb) dd λh' oX hs=>h _ ?_
  obtain⟨q,es,ep,hq,h2,h3,h4,_,h5⟩:=oX;refine Dp I (by rw[e];exact Ju) hs ⟨q,hq⟩ ⟨hl,hd,_,(rel.put k eb rv).keeps λc ys ec=>?_,q,es,ep,hq,h2,h3,h4,h5⟩;rw[QY<|YB ec e nofun];exact ec
end
section
variable{X:Cx}{XI:List (Xb×Xo)}{σ:St}{H:Hp}{s:Xe}{a:Xb}{kvs:List (Key×V)}{k:Key}{u:Xd}{A:Jo}{E:Xd->Xe->Prop}
end
def M5(i:Zm):Prop:=∀ov iv,subscripted i false ov iv=operate [ov,iv] (XA ov iv)
def U3{id:String} 
  (hl:typeLookup (.type T) "__getitem__" = pure (some<|.builtin id))(hs:M5 slice)
  (h:Xi (Xg prog w) A (eval value env) (λo s₁=>Xi (Xg prog w) A (eval slice env) (λi s₂=>s₂.TypeIs o T/\Xi (Xg prog w) A (XA o i) Q E s₂) E s₁) E s) :
  Xi (Xg prog w) A (eval (.Subscript value slice pos) env) Q E s:=by
 refine Ni<|Xk h (λo s₁ h₁=>Xk h₁ (λi s₂ h₂=>?_) λ_ _ x=>x) λ_ _ x=>x;obtain⟨hT,h₂⟩:=h₂;refine Xa ?_
 refine Xa<|D7 hT hl ?_;have fin:Xi (Xg prog w) A (subscripted slice false o i) (λr s₃=>Xi (Xg prog w) A (letTemporaryGo value o r >>= λ_=>pure r) Q E s₃) E s₂:=by
  rw[hs o i];exact wpAny_operating<|Xk h₂ (λr s₃ h₃=>Xa<|wpAny_letTemporaryGo<|Qg h₃) λ_ _ x=>x
 first
  |exact Qg<|Xa fin
  |exact Xa<|Qg<|Xa fin
  |exact Xa fin
def Qj8(I:Inv X XI σ H s)(g:cJ H a y o):s.TypeIs (.ref a) "dict" := by
 rcases g with⟨kvs,k,e,_,_⟩ | ⟨kvs,k,b,e,_,_,_⟩
 ·obtain⟨_,_,vs,_,dd⟩:=Ad I.ar e;exact dd.typeIs
 ·obtain⟨_,_,xs,_,dd⟩:=Ae I.ar e;exact dd.typeIs
def xg(td ty:TE):TE:=λσ H Q=>td σ H λx H1=>ty σ H1 λy H2=>∃a v,x=.ref a/\cJ H2 a y (some v)/\Q v H2
def Ij(td ty tv:TE):TS:=λD σ H=>tv σ H λv H1=>td σ H1 λx H2=>ty σ H2 λy H3=>∃a H4,x=.ref a/\iA H3 a y v H4/\D.nx σ H4
section
variable{X:Cx}{o i e value:Zm}{pos pos' cM:Pos}{td ty tv:TE}
def Dw(hu:X.A.units+1<cLine)(ho:PE X o td)(hi:PE X i ty)(hs:M5 i):PE X (.Subscript o i pos) (xg td ty):=by
 intro XI s σ H Q I h;refine U3 PySem.F.slot_dict_getitem.lookup hs<|aD (ho XI s σ H _ I h) λu s1 ⟨x,H1,I1,rx,q1⟩=>aD (hi XI s1 σ H1 _ I1 q1) λiv s2 ⟨y,H2,I2,ry,a,v,ex,g,q2⟩=>?_;subst ex;obtain rfl:u=JT a:=rx;exact⟨Qj8 I2 g,QpR hu I2 g ry λw' s3 I3 gr=>⟨v,H2,I3,gr,q2⟩⟩
def Ur(hu:X.A.units+1<cLine)(ho:PE X o td)(hi:PE X i ty)(hv:PE X value tv)(hs:Xt value (some<|.Subscript o i pos') pos.line X.env=pure false) :
  PS X (.Assign [.Subscript o i pos'] value pos) (Ij td ty tv):=by
 intro XI s σ H D I h;refine wpAny_Assign_Subscript (aD (hv XI s σ H _ I h) λr s1 ⟨v,H1,I1,rv,q1⟩=>aD (ho XI s1 σ H1 _ I1 q1) λu s2 ⟨x,H2,I2,rx,q2⟩=>aD (hi XI s2 σ H2 _ I2 q2) λiv s3 ⟨y,H3,I3,ry,a,H4,ex,g,q3⟩=>?_) hs;subst ex;obtain rfl:u=JT a:=rx;exact QpQ hu I3 g ry rv λs4 I4=>⟨σ,H4,I4,q3⟩
end
def QtM(h:ZF)(hb:Xq<h.objs.size):aQ P w H (h.push { cls:=.type "dict",data:=.dict #[] }) h.objs.size (.dK []):=
 ⟨Q9 _,beq_eq_false_iff_ne.mpr<|iM<|QZ hb,[],.nil,VG h⟩
def QtL(h:ZF)(hb:Xq<h.objs.size):aQ P w H (h.push { cls:=.type "dict",data:=.dict #[] }) h.objs.size (.dT []):=
 ⟨Q9 _,beq_eq_false_iff_ne.mpr<|iM<|QZ hb,[],.nil,_,#[],0,Qs _ rfl,⟨rfl,rfl,rfl⟩,rfl,rfl,Bm⟩
section
variable{X:Cx}{pos:Pos}
end
def Dj:List (TE×TE)->St->Hp->(List (V×V)->Hp->Prop)->Prop
 |[],_,H,Q=>Q [] H
 |(tk,tv)::r,σ,H,Q=>tk σ H λx H1=>tv σ H1 λy H2=>Dj r σ H2 λps H3=>Q ((x,y)::ps) H3
abbrev VV:List (V×V)->List (Xd×Xd)->Prop:=Zw λp q=>RelV p.1 q.1/\RelV p.2 q.2
def BB(X:Cx)(pos:Pos)(keys:List<|Option Zm)(values:List Zm)(sM:List (TE×TE)):Prop:=
 ∀(XI:List (Xb×Xo))(s:Xe)(σ:St)(H:Hp)(Q:List (V×V)->Hp->Prop),Inv X XI σ H s->Dj sM σ H Q ->
  Xi (Xg X.prog X.w) X.A (evalPairs<|pairTrees keys values X.env pos) (λvs s'=>∃ps H',Inv X XI σ H' s'/\VV ps vs/\Q ps H') X.xe s
def K7:BB X pos [] [] []:=λXI s σ H Q I h=>pairTrees_nil_walk ⟨[],H,I,.nil,h⟩
def vn(hk:PE X k tk)(hv:PE X v tv)(hr:BB X pos ks vs sM) :
  BB X pos (some k::ks) (v::vs) ((tk,tv)::sM):=λXI s σ H Q I h=>
 pairTrees_cons_walk (aD (hk XI s σ H _ I h) λu s1 ⟨x,H1,I1,rx,q1⟩=>aD (hv XI s1 σ H1 _ I1 q1) λw2 s2 ⟨y,H2,I2,ry,q2⟩=>
  aD (hr XI s2 σ H2 _ I2 q2) λws s3 ⟨ps,H3,I3,rel,q3⟩=>⟨(x,y)::ps,H3,I3,.cons ⟨rx,ry⟩ rel,q3⟩)
def uW(kvs more:List (Key×V)):List (Key×V):=more.foldl (λacc kv=>gW acc kv.1 kv.2) kvs
def KV.merge:∀{more:List (Key×V)}{rs:List (Key×Xd)}{kvs:List (Key×V)}{vs:List (Key×Xd)},KV more rs->KV kvs vs->KV (uW kvs more) (merged vs rs):=by
 intro more rs kvs vs r;induction r generalizing kvs vs with
 |nil=>intro q;exact q
 |@cons p q ps qs h t ih=>
  intro r0;have e:KV (gW kvs p.1 p.2) (stored vs q.1 q.2):=by
   have:=r0.put p.1 h.2;rw[<- h.1];exact this
  exact ih e
def ML:∀(more kvs:List (Key×V)),(uW kvs more).length<=kvs.length+more.length
 |[],kvs=>by show kvs.length<=kvs.length+0;omega
 |p::r,kvs=>by
  have h1:=ML r<|gW kvs p.1 p.2;have h2:=Mt kvs p.1 p.2;show(uW (gW kvs p.1 p.2) r).length<=_;rw[Qz];omega
def QgU:∀{kvs:List (Key×V)}{ws:List (Xd×Xd)},VV (kvs.map λkv=>(kV kv.1,kv.2)) ws->∃rs,Carries (aq P w) ws rs/\KV kvs rs
 |[],_,r=>by rw[A_] at r;cases r;exact⟨[],Ju,.nil⟩
 |p::kvs,_,r=>by
  cases r with
  |@cons a b as bs h t=>
   obtain⟨rs,c,q⟩:=QgU t;obtain⟨b1,b2⟩:=b;exact⟨(p.1,b2)::rs,⟨Ac h.1,rfl,c⟩,.cons ⟨rfl,h.2⟩ q⟩
def OU(sM:List (TE×TE)):TE:=λσ H Q=>∀p,H p=none->Dj sM σ (upd H p<|.dK []) λps H2=>H2 p=some (.dK [])/\∃kvs:List (Key×V),ps=kvs.map (λkv=>(kV kv.1,kv.2))/\kvs.length<=15/\Q (.ref p) (upd H2 p<|.dK<|uW [] kvs)
def Uj(h:BB X pos keys values sM)(lM:keys.all (·.isSome)=true)(hl:keys.length=values.length)(h0:keys≠[])
  (h15:keys.length<=15):PE X (.Dict keys values pos) (OU sM):=by
 intro XI s σ H Q I q;have hn:=I.ar.fresh<|Qd s.heap.objs.size;have I1:=I.laid (t':=s.toks) (λ_ _ q=>Qf _ q) (Qd _)<|QtM s.heap I.Hw;refine wpAny_Dict_walk (knd:=aq X.prog X.w) lM hl h0 h15<|aD (h XI _ σ _ _ I1<|q _ hn) λws s2 ⟨ps,H2,I2,rel,e,kvs,ep,lk,q2⟩=>?_;subst ep;obtain⟨rs,c,rk⟩:=QgU rel;obtain⟨z,hd,vs0,r0,dd⟩:=QBB I2.ar e;cases r0;refine⟨rs,c,dd,λh' oX hs=>⟨.ref s.heap.objs.size,_,?_,rfl,q2⟩⟩;have hz:(uW [] kvs).length<=Xj:=by
  have h1:=ML kvs [];rw[PC] at h1;rw[ZR];omega
 have he:∃q,h'.get? s.heap.objs.size=some q:=let ⟨q,_,_,hq,_⟩:=oX;⟨q,hq⟩
 exact Dp I2 (by rw[e];exact Ju) hs he<|P2 hz hd (rk.merge .nil) oX
structure M2 (X:Cx) (o:Zm) (m:Str) (apos:Pos) (e f:Zm) (XJ:Pos):Prop where
 base:attributeBase o m X.env (eval o X.env)=eval o X.env
 wI:((Xp XJ<|Xh [e,f] X.env).all (λx => !x.1)&&(Xz XJ<|Xx [] X.env).all (λx=>x.1.isSome)
  && decide (([e,f]:List Zm).length+([]:List ml).length+(if([]:List ml).isEmpty then 0 else 1)<30))=true
 line:(apos.endLine == XJ.line)=true
 trees:Xp XJ (Xh [e,f] X.env)=[(false,eval e X.env),(false,eval f X.env)]
def IsD(H:Hp)(a:Xb):Prop:=(∃kvs,Rd H a<|.dK kvs)∨∃kvs,Rd H a<|.dT kvs
def QBi(I:Inv X XI σ H s)(d:IsD H a) :
  s.TypeIs (.ref a) "dict" /\ (∀b,JT a=.ref b->∃ob,s.heap.get? b=some ob/\ob.dict=none)/\(a == Xq)=false:=by
 rcases d with⟨kvs,e⟩ | ⟨kvs,e⟩
 ·obtain⟨_,hd,vs,_,dd⟩:=Ad I.ar e;refine⟨dd.typeIs,λb q=>?_,hd⟩;cases q;obtain⟨ob,_,_,h1,h2,_⟩:=dd;exact⟨ob,h1,h2.2.1⟩
 ·obtain⟨_,hd,xs,_,dd⟩:=Ae I.ar e;refine⟨dd.typeIs,λb q=>?_,hd⟩;cases q;obtain⟨ob,_,_,h1,h2,_⟩:=dd;exact⟨ob,h1,h2.2.1⟩
section
variable{X:Cx}{XI:List (Xb×Xo)}{σ:St}{H:Hp}{s:Xe}{a:Xb}{y d:V}{u r:Xd}{o:Option V}{A:Jo}{E:Xd->Xe->Prop}
def QBK(hu:A.units+1<cLine)(I:Inv X XI σ H s)(g:cJ H a y o)(ry:RelV y u)(rd:RelV d r)(h:∀w' s',Inv X XI σ H s'->RelV (o.getD d) w'->Q w' s') :
  Xi (Xg X.prog X.w) A (call (.builtin "dict.get") [.ref a,u,r]) Q E s:=by
 rcases g with⟨kvs,k,e,ey,l⟩ | ⟨kvs,k,b,e,ey,eb,l⟩
 ·subst ey;obtain⟨z,hd,vs,rel,dd⟩:=Ad I.ar e;refine call_meetsIn XR dd.typeIs X4 (X5 _ _ _) (meets_dict_get_default (aq X.prog X.w) a (Ac ry) hd r) ⟨_,dd.mapOf,h _ _ (I.tok _) ?_⟩;rw[l];exact(rel.val k).getD rd
 ·subst ey;cases(ry);obtain⟨z,hd,xs,rel,dd⟩:=Ae I.ar e;refine call_meetsIn XR dd.typeIs X4 (X5 _ _ _) (meetsH_dict_get_default (XB<|aq X.prog X.w) a b hd r) ⟨LS hu,k,xs,AN I.ar eb,dd,h _ _ (I.tok _) ?_⟩;rw[l];exact(rel.val k).getD rd
end
def IX(td ty tx:TE):TE:=λσ H Q=>td σ H λx H1=>∃a,x=.ref a/\IsD H1 a/\ty σ H1 λy H2=>tx σ H2 λz H3=>∃o,cJ H3 a y o/\Q (o.getD z) H3
section
variable{X:Cx}{o e f:Zm}{apos XJ:Pos}{td ty tx:TE}
def Qsl(hu:X.A.units+1<cLine)(ho:PE X o td)(he:PE X e ty)(hf:PE X f tx)(m:M2 X o "get" apos e f XJ):PE X (.Call (.Attribute o "get" apos) [e,f] [] XJ) (IX td ty tx):=by
 intro XI s σ H Q I h;refine wpAny_Call_method m.base m.wI m.line PySem.F.plainAttrs_dict XR PySem.F.type_dict_get<|aD (ho XI s σ H _ I h) λu s1 ⟨x,H1,I1,rx,a,ex,d,q1⟩=>?_;subst ex;obtain rfl:u=JT a:=rx;obtain⟨t1,t2,_⟩:=QBi I1 d;refine⟨t1,t2,?_⟩;rw[m.trees];refine MJ rfl (MA<|YL<|aD (he XI s1 σ H1 _ I1 q1) λiv s2 ⟨y,H2,I2,ry,q2⟩=>
  YL (aD (hf XI s2 σ H2 _ I2 q2) λfv s3 ⟨z,H3,I3,rz,ov,g,q3⟩=>Ey ?_))
 exact QBK hu I3 g ry rz λw' s4 I4 gr=>⟨_,H3,I4,gr,q3⟩
end
section
variable{X:Cx}{XI:List (Xb×Xo)}{σ:St}{H:Hp}{s:Xe}{a:Xb}{kvs:List (Key×V)}{A:Jo}{E:Xd->Xe->Prop}
end
section
variable{X:Cx}{XI:List (Xb×Xo)}{σ:St}{H:Hp}{s:Xe}{a:Xb}{y:V}{u:Xd}{A:Jo}{E:Xd->Xe->Prop}
end
end L2


namespace L2
open PySem.Calls
structure BD (P:QB) (w:Jh) (K:Ws) (d:Xb) (vs:List (Key×Xd)):Prop where
 gH:∀h:ZF,K.In h->h.DictOf (aq P w) d vs
 F_:(d == Xq)=false
section
variable{X:Cx}
def QFF(P:QB)(w:Jh)(K:Ws)(neg:Bool):R2:=λx y H Q=>∃z d vs,x=.str z/\y=.ref d/\BD P w K d vs/\Q (.bl<|if neg then !(valueAt vs<|JM z).isSome else(valueAt vs<|JM z).isSome) H
def Sq:aI X (Xl .In) (QFF X.prog X.w X.K false):=by
 intro XI s σ H x y v u Q I rx ry h;obtain⟨z,d,vs,rfl,rfl,b,q⟩:=h;obtain⟨t,rfl⟩:=rx;cases(ry);exact wpAny_in_of (Bk X.prog X.w z t) b.F_ (b.gH _ I.bX).mapOf ⟨.bl _,H,I.tok _,rfl,q⟩
def QDq(P:QB)(w:Jh)(K:Ws)(td ty:TE):TE:=λσ H Q=>td σ H λx H1=>ty σ H1 λy H2=>∃d z vs f,x=.ref d/\y=.str z/\BD P w K d vs/\valueAt vs (JM z)=some (.ref f)/\Q (.ref f) H2
def Uk(ho:PE X o td)(hi:PE X i ty)(hs:M5 i):PE X (.Subscript o i pos) (QDq X.prog X.w X.K td ty):=by
 intro XI s σ H Q I h;refine U3 PySem.F.slot_dict_getitem.lookup hs<|aD (ho XI s σ H _ I h) λu s1 ⟨x,H1,I1,rx,q1⟩=>aD (hi XI s1 σ H1 _ I1 q1) λiv s2 ⟨y,H2,I2,ry,d,z,vs,f,ex,ey,b,hf,q2⟩=>?_;subst ex;subst ey;obtain rfl:u=JT d:=rx;obtain⟨t,rfl⟩:=ry;exact⟨(b.gH _ I2.bX).typeIs,wpAny_getItem_of (Bk X.prog X.w z t) (b.gH _ I2.bX).mapOf hf ⟨.ref f,H2,I2.tok _,rfl,q2⟩⟩
def QFY(X:Cx)(f:Xb)(sp:Sp):Prop:=∃k fd ps,aO X.prog X.w X.K X.mg X.base (Rx.aY X.prog X.w) k f fd ps sp/\az k X.A/\Wu X.K (.ref f)=true/\Binds X.K fd ps []
def Qzx(M:Xb->Sp->Prop)(i:Nat)(E:XK)(t:TA):TE:=λσ H Q=>∃f sp,σ[i]? = some (some<|.ref f)/\M f sp/\t σ H λvs H1=>sp vs H1 Q E
def Wo(hM:∀f sp,M f sp->QFY X f sp)(hv:PE X (.Name x p)<|Yu i)(hx:g7 (Rx.aY X.prog X.w) X E)(ha:PA X (e::es) t)
  (he:Xh (e::es) X.env=(false,eval e X.env)::Xh es X.env:=by rfl)(hpl:(Xp pos<|Xh es X.env).any (·.1)=false:=by rfl):PE X (.Call (.Name x p) (e::es) [] pos) (Qzx M i E t):=by
 intro XI s σ H Q I h;obtain⟨f,sp,hi,mf,h⟩:=h;obtain⟨k,fd,ps,F,hr,hk,hb⟩:=hM f sp mf;refine Yq<|aD (hv XI s σ H (λv H1=>v=.ref f/\t σ H1 λvs H1=>sp vs H1 Q E) I ⟨_,hi,rfl,h⟩) λv s1 ⟨y,H1,I1,r1,ey,q1⟩=>?_;subst ey;cases(r1);refine WL I.ok.mod.oH hk (aD (ha pos XI s1 σ H1 _ I1 q1) λus s2 ⟨vs,H2,I2,r,q⟩=>⟨I2.bX,?_⟩) he hpl;exact De F hr hb .nil hx I2 r (by rw[J4];exact q)
def QeM:aG X (.type "int") (λxs H Q=>∃z n,xs=[.str z]/\PySem.intText? z=some n/\z.length<=640/\Q (.int n) H):=by
 intro XI s σ H xs us Q I r h;obtain⟨z,n,rfl,hz,hl,q⟩:=h;obtain⟨u,rfl,t,rfl⟩:=vals1 r;exact PySem.W.KIN.call_text hz hl ⟨.int n,H,I.tok _,⟨_,rfl⟩,q⟩
def NB(c:Str)(ta tb:TE):TE:=λσ H Q=>ta σ H λx H1=>∃i:Int,x=.int i/\i.natAbs.log2<1920/\(Qe<|toString i).length+c.length<=1000/\tb σ H1 λy H2=>∃k:Int,y=.int k/\k.natAbs.log2<1920/\(Qe<|toString k).length<=1000/\Q (.str<|r8++Qe (toString i)++c++Qe (toString k)) H2
def QDK{a b:Zm}{ta tb:TE}{c:Str}{j}{p1 pc p2 pos:Pos}(ha:PE X a ta)(hb:PE X b tb):PE X (.JoinedStr [.FormattedValue a (-1) none p1,.Constant (.str c) j pc,.FormattedValue b (-1) none p2] pos) (NB c ta tb):=by
 intro XI s σ H Q I h;refine JoinedStr_many<|Kk<|Pz<|aD (ha XI s σ H _ I h) λu s1 ⟨x,H1,I1,rx,i,ex,hi,hli,q1⟩=>?_;subst ex;obtain⟨t,rfl⟩:=rx;refine RD hi ?_
 have I2:=I1.tok<|s1.toks+1+1;have z0:r8.length=0:=rfl;have ll:∀x y:Str,(x++y).length=x.length+y.length:=λx y=>by
  show(x++y).cps.size=_;rw[Bd,L5];rfl
 refine⟨by rw[ll];exact JG<|Rk.xQ<|by omega,Kk<|S8 ⟨?_,Kk<|Pz<|aD (hb XI _ σ H1 _ (I2.tok _) q1) λu s2 ⟨y,H2,I3,ry,k,ey,hk,hl,q2⟩=>?_⟩⟩
 ·rw[ll,ll];exact JG (Rk.xQ<|by omega)
 subst ey;obtain⟨t',rfl⟩:=ry;refine RD hk ⟨?_,joinParts_nil ⟨.str _,H2,(I3.tok _).tok _,⟨_,rfl⟩,q2⟩ ?_⟩
 all_goals (rw[ll,ll,ll,z0];exact JG<|Rk.xQ<|by omega)
end
def wW(P:Params):List (Str×Tok×Xb)->List XD
 |[]=>[]
 |p::r=>⟨PyData.keyHash P p.1,.str p.1 p.2.1,.ref p.2.2⟩::wW P r
def Fe(zs:List (Str×Tok×Xb)):List (Key×Xd):=zs.map λp=>(JM p.1,.ref p.2.2)
def Vo:∀(zs:List (Str×Tok×Xb))(e:XD),e∈wW w.params zs->∃k,(aq P w).is k e.key=true/\e.hash=(aq P w).hash k
 |[],_,h=>nomatch h
 |p::r,e,h=>by
  rcases Qt.mp h with rfl | h
  ·exact⟨JM p.1,Bk P w p.1 p.2.1,rfl⟩
  ·exact Vo r e h
def QgR:∀zs:List (Str×Tok×Xb),Pairs (aq P w) (wW w.params zs) (Fe zs)
 |[]=>.nil
 |p::r=>.cons (Bk P w p.1 p.2.1) rfl<|QgR r
def QB6{K:Ws}(zs:List (Str×Tok×Xb))(h:K.lookup d=some ⟨.type "dict",none,.dict (wW w.params zs).toArray n,#[]⟩)(nd:(zs.map (·.1)).Nodup)(ns:(d == Xq)=false):BD P w K d (Fe zs):=
 ⟨λhp X=>⟨_,_,_,X _ _ h,⟨rfl,rfl,rfl⟩,rfl,λe he=>Vo zs e<|YD.mp he,QgR zs,by
  have e:(Fe zs).map (·.1)=(zs.map (·.1)).map JM:=by
   unfold Fe;rw[QD,QD];rfl
  rw[e];exact Mv _ (λa b h z=>h<|Kv z) nd⟩,ns⟩
end L2
namespace Rx
open PySem.Calls L2
def Qzs(ta:TE)(tb:TX):TX:=λσ H Q Ex=>ta σ H λx H1=>tb σ H1 (λy H2=>∀t H',ag H2 H'->H2 t=none->H' t=some (.tup [x,y])->Q (.ref t) H') Ex
def Qsf{x1}(ha:PE X.iF a ta)(hb:Fq X b tb)(h1:Xh [a,b] X.env=(false,eval a X.env)::Xh [b] X.env:=by rfl)(h2:Xh [b] X.env=(false,eval b X.env)::Xh [] X.env:=by rfl) :
  Fq X (.Tuple [a,b] x1 pos) (Qzs ta tb):=by
 intro XI s σ H Q Ex I h;refine PU ?_
 rw[h1];refine YL<|Xk (ha XI s σ H _ (I.cG _) h) (λu s1 ⟨x,H1,J1,r1,q1⟩=>?_) λ_ _ z=>Jr z;have I1:=J1.aZ;rw[h2];refine YL<|Xk (hb XI s1 σ H1 _ _ I1 q1) (λv s2 ⟨y,H2,I2,r2,q2⟩=>(Ey ⟨?_,?_⟩)) λ_ _ z=>z
 ·show 2<=Xj;rw[ZR];decide
 have hf:=I2.ar.fresh<|Qd _;refine⟨.ref s2.heap.objs.size,upd H2 s2.heap.objs.size<|.tup [x,y],I2.laid (λb u e=>Qf _ e) (Qd _) ?_,rfl,q2 _ _ (JA hf) hf af⟩;exact⟨by show 2<=Xj;rw[ZR];decide,[u,v],.cons r1<|.cons r2 .nil,⟨_,Qs _ rfl,rfl,rfl,_,rfl⟩⟩
end Rx
namespace Dz
section
variable{prog:QB}{w:Jh}{A:Jo}{E:Xd->Xe->Prop}{s:Xe}
structure Raw (h:ZF) (d:Xb) (es:Array XD) (ep:Nat):Prop where
 at_:∃o,h.get? d=some o/\o.ExactDict/\o.data=.dict es ep
def Raw.ty(x:Raw s.heap d es ep):s.TypeIs (.ref d) "dict" := by
 obtain⟨o,e,c,_⟩:=x.at_;exact⟨o,e,c.1⟩
def Raw.keep(x:Raw h d es ep)(k:∀o,h.get? d=some o->h'.get? d=some o):Raw h' d es ep:=by
 obtain⟨o,e,r⟩:=x.at_;exact⟨o,k o e,r⟩
def Vx(hS:(d == Xq)=false)(x:Raw s.heap d es ep)
  (q:Q (.ref s.heap.objs.size) { s with heap:=s.heap.push { cls:=.type "dict_keyiterator",data:=.fields #[.ref d,.int 0 0,.int es.size 0,.int ep 0] } }) :
  Xi (Xg prog w) A (pyIter<|.ref d) Q E s:=by
 have ty:=x.ty;obtain⟨o,e,c,dt⟩:=x.at_;refine wpAny_pyIter_slot ty LI<|ZQ LI ty F.entry_dict_iter ?_<|F.args_dict_iter_1 _;have first:∀{Q':Xd->Xe->Prop}{A':Jo}{E':Xd->Xe->Prop},Q' (.ref d) s->Xi (Xg prog w) A' (Builtin.Dict.dictSlotNone "__iter__" ⟨[.ref d],[]⟩) Q' E' s:=λq'=>by
  exact Xa<|RE ty<|Qg q'
 refine Xa<|first ?_;show Xi _ _ (MO d >>= _) _ _ s;unfold MO;rw[X8 (by rw[hS];exact Qw)];refine Xa<|Qg<|Xa<|yf e dt<|Xa<|Kw e dt<|Xa<|JC<|Qg ⟨_,rfl, "dict_keyiterator",_,⟨_,Qs _ rfl,rfl⟩,ZW.lookup,?_⟩
 simpa [rawInt] using q
def Wj(hi:s.heap.IsKeyIter it d i es.size ep)(x:Raw s.heap d es ep)(he:es[i]? = some en)
  (q:∀h',h'.IsKeyIter it d (i+1) es.size ep->Ya it s.heap h'->Q (some en.key) { s with heap:=h' }):Xi (Xg prog w) A (pyNext<|.ref it) Q E s:=by
 have ty:=hi.typeIs;obtain⟨o,e,c,dt⟩:=id hi;obtain⟨od,eo,co,dd⟩:=x.at_;have own:Qc3 "dict_keyiterator" = false:=by decide
 have lt:i<es.size:=by
  rcases Nat.lt_or_ge i es.size with z | z
  ·exact z
  ·rw[MI z] at he;cases he
 have ek:es[i]=en:=by rw[Zd lt] at he;exact QL he
 refine Xa<|DW<|Z2 ty ZW<|ZQ ZW ty Qh5 ?_<|QhM _;refine Xa<|Qg<|Xa<|Xa ?_
 first | refine Xa (YV ty<|Qg<|Xa<|DU e dt ?_) | refine Xa<|EV ty<|Qg<|Xa<|DU e dt ?_
 refine Xa<|Qg<|Xa<|yf eo dd ?_;rw[X8<|by simp];refine Xa<|Qg<|Xa<|Kw eo dd ?_;rw[X8<|by simp];refine Qg ?_
 simp only[show ¬(i<0) by omega,Qx,Zd lt];refine Xa ?_
 first | refine Xa (YV ty<|Qg<|Xa<|Mp ty ?_) | refine Xa<|EV ty<|Qg<|Xa<|Mp ty ?_
 show Xi _ _ (setField (.ref it) 1 (rawInt<|i+1) >>= _) _ _ s;refine Xa (DV e dt (by simp) ?_);have wF:(s.heap.update it (Obj.mapFields (·.setIfInBounds 1 (rawInt<|i+1)))).IsKeyIter it d (i+1) es.size ep:=⟨_,EJ _ e<|Vf<|EO dt _,(Ry ..).trans c,by rw[EO dt];simp[rawInt]⟩;refine Xa<|ZE<|Xa<|Mp wF.typeIs ?_;rw[ek];exact Qg<|Qg ⟨_,rfl,Qg<|q _ wF<|Y0 ..⟩
def Wb(hh:A.handled=none)(hi:s.heap.IsKeyIter it d i es.size ep)(x:Raw s.heap d es ep)(ge:es.size<=i)
  (q:∀h',Heap.ExtBut it s.heap h'->Q none { s with heap:=h' }):Xi (Xg prog w) A (pyNext<|.ref it) Q E s:=by
 have ty:=hi.typeIs;obtain⟨o,e,c,dt⟩:=id hi;obtain⟨od,eo,co,dd⟩:=x.at_;have own:Qc3 "dict_keyiterator" = false:=by decide
 refine Xa<|DW<|Z2 ty ZW<|ZQ ZW ty Qh5 ?_<|QhM _;refine Xa<|Qg<|Xa<|Xa ?_
 first | refine Xa (YV ty<|Qg<|Xa<|DU e dt ?_) | refine Xa<|EV ty<|Qg<|Xa<|DU e dt ?_
 simp only[Mr];show Xi _ _ (if(JT d == ZS)=true then _ else _) _ _ s;refine Xa<|Qg<|Xa<|yf eo dd ?_;rw[X8<|by simp];refine Xa<|Qg<|Xa<|Kw eo dd ?_;rw[X8<|by simp];refine Qg ?_
 simp only[by omega,Qx,MI ge];refine Xa ?_
 first | refine Xa (YV ty<|Qg ?_) | refine Xa<|EV ty<|Qg ?_
 show Xi _ _ (setField (.ref it) 0 .none >>= _) _ _ s;refine Xa (DV e dt (by simp) ?_);refine Xa ?_
 simp only[newExc];refine Xa (JC ?_<|by size_fits);refine Xa (YN (by first | rfl | (simp only[firstArgMember];rfl))<|JC ?_<|by size_fits);simp only[raiseNew];refine Xa<|wpAny_handled ?_;rw[hh];refine Xa<|Qg<|wpAny_throw ?_;refine Xa<|wpAny_isInstance ⟨_,Qs _ rfl,rfl⟩ isSubtype_stop ?_;exact Qg<|q _<|((Y0 ..).extBut.push _).push _
end
end Dz
namespace L2
open Dz
section
variable{X:Cx}
def BG(d:Xb)(o:Xo)(kvs:List<|List Key×V):It:=
 ⟨λi H=>H d=some (.cE o<|.dT kvs)/\i<kvs.length,λi H x H'=>H'=H/\∃p b,kvs[i]? = some p/\x=.ref b/\H b=some (.tup<|p.1.map kV),λi H=>H d=some (.cE o<|.dT kvs)/\kvs.length<=i⟩
def br{l:List α}{m:List β}(h:Zw F l m)(i:Nat)(b:β)(e:m[i]? = some b):∃a,l[i]? = some a/\F a b:=by
 induction h generalizing i with
 |nil=>simp at e
 |cons r _ ih=>
  cases i with
  |zero=>simp at e;subst e;exact⟨_,rfl,r⟩
  |succ i=>exact ih i e
def xX:∀{l:List α}{m:List β},Zw F l m->l.length=m.length
 |_,_,.nil=>rfl
 |_,_,.cons r t=>by rw[Qz,Qz,xX t]
def Qnn{K:Ws}(hd:o.ExactDict/\o.data=.dict es ep):Turn P w K tg (BG d o kvs) [it] it (λi h=>h.IsKeyIter it d i es.size ep) where
 mem:=by simp
 obj:=λi h st b hb=>by
  have e:b=it:=by simpa using hb
  subst e;obtain⟨q,e,c,dt⟩:=st;exact⟨q,e,λv z=>by rw[dt] at z;cases z⟩
 keep:=λi h h' st k=>st.at λq e=>k it (by simp) q e
 item:=by
  intro X hP hw hK hc i XI s σ H E I hf st hg;obtain⟨hg,c_⟩:=hg;obtain⟨ho,z,y,xs,r,o',nF,i9,e1,e2,e3,e4,e5⟩:=I.ar d _ hg;rw[ho] at e1;cases e1;rw[hd.2] at e3;cases e3;have zr:i<xs.length:=by rw[<- xX r];exact c_
  obtain⟨p,Hd,h1,h2,h3⟩:=br r i xs[i]<|Qc zr;obtain⟨f0,f1,f2,f3,f4,f5⟩:=hf it (by simp);have Ck:es[i]? = some (entryOfKey (XB<|aq X.prog X.w) xs[i]):=by
   rw[<- Mu,e4,Qq,Qc zr];rfl
  refine Wj st ⟨o,ho,e2,hd.2⟩ Ck λh' bH sb=>?_
  have I1:=I.turned (t':=s.toks) (λb q hb e=>(sb.2 b hb).trans e) f0 f1 f3 f4 f5;obtain⟨q,e,c,dt⟩:=id bH;exact⟨_,rfl,wZ e c dt (by decide) ⟨.ref (xs[i]).2.1,H,I1,rfl,⟨rfl,p,_,Hd,rfl,h2⟩,bH,λb hb=>(hf b hb).1⟩⟩
 done:=by
  intro X hP hw hK hc i XI s σ H E I hf st hg;obtain⟨hg,c_⟩:=hg;obtain⟨ho,z,y,xs,r,o',nF,i9,e1,e2,e3,e4,e5⟩:=I.ar d _ hg;rw[ho] at e1;cases e1;rw[hd.2] at e3;cases e3;have hl:es.size=kvs.length:=by rw[<- Jd,e4,Qb,xX r]
  obtain⟨f0,f1,f2,f3,f4,f5⟩:=hf it (by simp);refine Wb (I.ok.hd hc) st ⟨o,ho,e2,hd.2⟩ (by omega) λh' sb=>⟨rfl,?_⟩
  exact I.turned (λb q hb e=>sb b q hb e) f0 f1 f3 f4 f5
 self:=λA i s Q E st q=>PQ st q
def Ab(td:TE):TI:=λσ H R=>td σ H λv H1=>∃d kvs,v=.ref d/\H1 d=some (.dT kvs)/\∀o,R (BG d o kvs)<|upd H1 d<|.cE o<|.dT kvs
def Ul(hl:PE X l td):PI X tg l (Ab td):=by
 intro XI s σ H R I h;refine aD (hl XI s σ H _ I h) λv s1 ⟨x,H1,I1,r1,q1⟩=>?_
 obtain⟨d,kvs,e,hq,q⟩:=q1;subst e;cases r1;obtain⟨z,y,xs,r,o,es,ep,e1,e2,e3,e4,e5⟩:=(I1.ar d _ hq);refine Vx y ⟨o,e1,e2,e3⟩ ?_
 have I2:Inv X XI σ (upd H1 d<|.cE o<|.dT kvs) { s1 with heap:=s1.heap,toks:=s1.toks }:=by
  refine I1.write (by rw[hq];exact Ju) (.inl rfl) (λb q hb z=>z) ⟨o,e1⟩ ⟨e1,z,y,xs,KT.keeps r λc ys ec=>?_,o,es,ep,e1,e2,e3,e4,e5⟩;rw[QY<|YB ec hq nofun];exact ec
 refine⟨s1.heap.objs.size,[s1.heap.objs.size],_,_,_,rfl,I2.kept λb q e=>Qf _ e,Qnn ⟨e2,e3⟩,⟨_,Qs _ rfl,rfl,rfl⟩,λb hb=>?_,q o⟩;have e:b=s1.heap.objs.size:=by simpa using hb
 subst e;exact I2.h_ (Qd _)<|I2.ar.fresh<|Qd _
end
end L2
namespace Dz
section
variable{prog:QB}{w:Jh}{A:Jo}{E:Xd->Xe->Prop}{s:Xe}
def Qoa(ty:s.TypeIs (.ref b) "tuple")(q:Q false s):Xi (Xg prog w) A (Builtin.Dict.quietEq<|.ref b) Q E s:=by
 exact Xa<|D7 ty F.slot_tuple_eq.lookup<|Qg q
def Qj7{id:String}(x:Raw s.heap d es ep)(hk:∀e∈es.toList,∃b,e.key=.ref b/\s.TypeIs (.ref b) "tuple")(hu:∀e∈es.toList,(es.filter (·.hash == e.hash)).size<=1)(q:Q es s) :
  Xi (Xg prog w) A (Builtin.Dict.entriesForEmpty id d) Q E s:=by
 obtain⟨o,eo,co,dd⟩:=x.at_;refine Xa<|yf eo dd<|Xa ?_;rw[<- Array.forIn_toList];refine wpAny_forIn_list _ (λrest _ s'=>s'=s/\∀e∈rest,e∈es.toList) _ ?_ ?_ _ _ ⟨rfl,λe h=>h⟩
 ·rintro e rest r s' ⟨rfl,hr⟩;obtain⟨b,eb,ty⟩:=hk e<|hr e<|.head _;rw[eb];refine Xa<|Qoa ty ?_;simp only[KP,if_true];rw[X8 (by have:=hu e<|hr e<|.head _;omega)];exact Qg ⟨rfl,λy hy=>hr y<|.tail _ hy⟩
 ·rintro r s' ⟨rfl,_⟩;exact Qg q
def Qo5{id:String}(ne:d≠o)(hS:(o == Xq)=false)(x0:Raw s.heap d #[] ep0)(x:Raw s.heap o es ep)(h0:0<es.size)(hz:es.size<=Xj)
  (hk:∀e∈es.toList,∃b,e.key=.ref b/\s.TypeIs (.ref b) "tuple")(hu:∀e∈es.toList,(es.filter (·.hash == e.hash)).size<=1)(q:∀h' i9,Raw h' d es i9->Ya d s.heap h'->Q () { s with heap:=h' }) :
  Xi (Xg prog w) A (Qgm id d o) Q E s:=by
 obtain⟨oo,eo,co,dd⟩:=x.at_;obtain⟨od,He,co0,Cu⟩:=x0.at_;have wI:(decide (es.size<=8)&&es.all λe=>(keyPart e.key).isSome)=false:=by
  have:(es.all λe=>(keyPart e.key).isSome)=false:=by
   rw[Y4];intro z;have z:=Array.all_eq_true.mp z 0 h0;obtain⟨b,eb,_⟩:=hk es[0]<|Mz.mpr<|Array.getElem_mem h0;rw[eb] at z;cases z
  rw[this,KO]
 unfold Qgm;rw[X8<|by simpa using ne];unfold MO;rw[X8 (by rw[hS];exact Qw)];refine Xa<|Qg<|Xa<|yf eo dd ?_;simp only[wI];refine Xa<|yf He Cu ?_;refine Xa<|Qj7 x hk hu ?_;have hem:es.isEmpty=false:=by
  rw[Y4];intro z;rw[Array.isEmpty_iff] at z;subst z;exact Z_ h0<|ZT _
 simp only[hem];refine Xa (wpAny_updateDictKeysTo He Cu ?_<|by omega);refine Qg<|q _ (ep0+1) ⟨_,EJ _ He<|Obj.isFreed_of_dict<|Ta Cu _,co0.mapDictKeys _,Ta Cu _⟩<|Y0 ..
def QhF(hS:(o == Xq)=false)(x:Raw s.heap o es ep)(h0:0<es.size)(hz:es.size<=Xj)
  (hk:∀e∈es.toList,∃b,e.key=.ref b/\s.TypeIs (.ref b) "tuple")(hu:∀e∈es.toList,(es.filter (·.hash == e.hash)).size<=1)
  (q:∀h' i9,Raw h' s.heap.objs.size es i9->Ya s.heap.objs.size (s.heap.push { cls:=.type "dict",data:=.dict #[] }) h'->Q (.ref s.heap.objs.size) { s with heap:=h' }) :
  Xi (Xg prog w) A (call (.type "dict") [.ref o]) Q E s:=by
 obtain⟨oo,eo,co,dd⟩:=x.at_;have ne:s.heap.objs.size≠o:=λz=>Z_ (Qr eo) (by rw[z];exact ZT _)
 have kp:∀b u,s.heap.get? b=some u->(s.heap.push { cls:=.type "dict",data:=.dict #[] }).get? b=some u:=λb u e=>Qf _ e
 refine callType_codes (Q₁:=λobj s₁=>obj=.ref s.heap.objs.size/\s₁={ s with heap:=s.heap.push { cls:=.type "dict",data:=.dict #[] } }) F.kt_called_dict (F.kt_typeCall_dict_1 _) F.entry_dict_init (kt_code_dict_new _ ⟨rfl,rfl⟩) ?_
 rintro obj s₁ ⟨rfl,rfl⟩;have x0:Raw (s.heap.push { cls:=.type "dict",data:=.dict #[] }) s.heap.objs.size #[] 0:=⟨_,Qs _ rfl,⟨rfl,rfl,rfl⟩,rfl⟩;have x1:=x.keep λu e=>kp _ _ e
 have t0:=Raw.ty (s:={ s with heap:=s.heap.push { cls:=.type "dict",data:=.dict #[] } }) x0;have t1:=Raw.ty (s:={ s with heap:=s.heap.push { cls:=.type "dict",data:=.dict #[] } }) x1;refine⟨t0,F.args_dict_init_2 _ _,?_⟩;unfold z8.«dict.__init__»;refine Xa ?_
 unfold Builtin.Dict.selfAndRest;refine Xa<|RE t0 ?_;refine Qg ?_
 refine Xa<|Dn t1 ?_;rw[X8<|by decide];refine Xa ?_
 unfold Builtin.Dict.merge;refine Xa ?_;unfold Builtin.Dict.readDirectly
 refine Xa<|wpAny_isInstance t1 isSubtype_dict_dict ?_;simp only[Mr];refine Xa<|D7 t1 LI.lookup<|Qg ?_;simp only[beq_self_eq_true];refine Xa<|Qg<|Qo5 ne hS x0 x1 h0 hz (λe he=>?_) hu λh' i9 x' sb=>?_
 ·obtain⟨b,eb,ob,e1,e2⟩:=hk e he;exact⟨b,eb,ob,kp _ _ e1,e2⟩
 ·exact Xa<|Qg<|Qg ⟨rfl,q h' i9 x' sb⟩
end
end Dz
namespace L2
open Dz
section
variable{X:Cx}
def h9(kvs:List<|List Key×V)(P:QB)(w:Jh):Prop:=(kvs.map λp=>Xy (aq P w) p.1).Nodup
def Kg(P:QB)(w:Jh):List V->Hp->VK->Prop:=λxs H Q=>∃a kvs,xs=[.ref a]/\Rd H a (.dT kvs)/\0<kvs.length/\h9 kvs P w/\∀p,H p=none->Q (.ref p) (upd H p<|.dT kvs)
def QgQ(f:α->Int):∀(l:List α),(l.map f).Nodup->∀e∈l,(l.filter λy=>f y == f e).length<=1
 |[],_,e,h=>nomatch h
 |x::l,nd,e,h=>by
  have nd:=JI.mp nd;rw[Rp];by_cases z:f x=f e
  ·rw[X9<|beq_iff_eq.mpr z];have:(l.filter λy=>f y == f e)=[]:=YK.mpr λy hy q=>nd.1 (by rw[z,<- beq_iff_eq.mp q];exact Qh.mpr ⟨y,hy,rfl⟩)
   rw[this];exact Qd _
  ·rw[X8 λq=>z<|beq_iff_eq.mp q];rcases Qt.mp h with q | q
   ·subst q;exact Z_ rfl z
   ·exact QgQ f l nd.2 e q
def Ql6{l:List α}{m:List β}(q:Zw F l m)(h:∀a b,F a b->f a=g b):m.map g=l.map f:=by
 induction q with
 |nil=>rfl
 |cons r _ ih=>rw[JU,JU,ih,h _ _ r]
def QmC:aG X (.type "dict") (Kg X.prog X.w):=by
 intro XI s σ H xs us Q I r h;obtain⟨a,kvs,rfl,hR,h0,hu,q⟩:=h;obtain⟨u,rfl,ru⟩:=vals1 r;cases ru;obtain⟨z,y,xs,r,o,es,ep,e1,e2,e3,e4,e5⟩:=(hR.ok I.ar);have hl:=xX r;have hes:es.size=xs.length:=by rw[<- Jd,e4,Qb]
 have hh:(xs.map λp=>Xy (aq X.prog X.w) p.1)=kvs.map λp=>Xy (aq X.prog X.w) p.1:=by
  exact Ql6 r λp q h=>by rw[h.1]
 refine QhF y ⟨o,e1,e2,e3⟩ (by omega) (by omega) (λe he=>?_) (λe he=>?_) λh' i9 x' sb=>?_
 ·rw[e4] at he;obtain⟨p,hp,rfl⟩:=Qh.mp he;obtain⟨i,hi⟩:=J3.mp hp;obtain⟨kv,_,h1,h2,h3⟩:=br r i p hi;obtain⟨_,ah,_,ob,e6,e7,_⟩:=(I.ar _ _ h2);exact⟨p.2.1,rfl,ob,e6,e7⟩
 ·rw[<- Jd,Array.toList_filter,e4];rw[e4] at he;refine QgQ (λy:XD=>y.hash) _ ?_ e he
  rw[QD];show(xs.map λp=>Xy (aq X.prog X.w) p.1).Nodup;rw[hh];exact hu
 ·obtain⟨o',f1,f2,f3⟩:=x'.at_;have hf:=I.ar.fresh<|Qd _;refine⟨.ref s.heap.objs.size,_,I.laid (a:=s.heap.objs.size) (o:=.dT kvs) (λb u hb=>(sb.2 b<|QZ<|Qr hb).trans<|Qf _ hb) (Qd _) ⟨z,beq_eq_false_iff_ne.mpr<|iM<|QZ I.Hw,xs,KT.keeps r λc ys ec=>?_,o',es,i9,f1,f2,f3,e4,e5⟩,rfl,q _ hf⟩;rw[QY<|QN ec hf];exact ec
def IY(tk tv:TE):TE:=λσ H Q=>∀p,H p=none->Dj [(tk,tv)] σ (upd H p<|.dT []) λps H2=>∃b k y,ps=[(.ref b,y)]/\H2 p=some (.dT [])/\H2 b=some (.tup<|k.map kV)/\Q (.ref p) (upd H2 p<|.dT [(k,y)])
def Qsk(hu:X.A.units+1<cLine)(hk:PE X k tk)(hv:PE X v tv):PE X (.Dict [some k] [v] pos) (IY tk tv):=by
 intro XI s σ H Q I q;have hn:=I.ar.fresh<|Qd s.heap.objs.size;have I1:=I.laid (t':=s.toks) (λ_ _ q=>Qf _ q) (Qd _)<|QtL s.heap I.Hw;have pp:BB X pos [some k] [v] [(tk,tv)]:=vn hk hv K7;refine wpAny_Dict_any rfl rfl (by simp) (by show 1<=15;decide)<|aD (pp XI _ σ _ _ I1<|q _ hn) λws s2 ⟨ps,H2,I2,rel,b,ks,y,e,e1,e2,q2⟩=>?_;subst e;cases rel with
 |@cons _ c _ _ r1 r2=>
  cases r2;obtain⟨u1,u2⟩:=c;obtain⟨ru,rv⟩:=r1;cases(ru);obtain⟨z,hd,xs,rl,dd⟩:=QBz I2.ar e1;cases rl;unfold storeAll;refine Xa<|Xa<|wpAny_dictSet_heap ?_ (AN I2.ar e2) dd (λh' oX hs=>?_)<|Q9 _
  ·show X.A.units<cLine;omega
  ·refine Qg<|Qg ⟨.ref s.heap.objs.size,_,?_,rfl,q2⟩;obtain⟨o,es,ep,h1,h2,h3,h4,_,h5⟩:=oX;refine Dp I2 (by rw[e1];exact Ju) hs ⟨o,h1⟩ ⟨by show 1<=Xj;decide,hd,_,.cons ⟨rfl,?_,rv⟩ .nil,o,es,ep,h1,h2,h3,h4,h5⟩;rw[QY<|YB e2 e1 nofun];exact e2
end
end L2
namespace Rk
def QyB:Xm "dict" = some (.type "dict"):=by decide
end Rk
namespace Rt
structure Ord (c:eB->eB->Bool):Prop where
 asym:∀x y,c x y=true->c y x=false
 trans:∀x y z,c y x=false->c z y=false->c z x=false
section
variable{c:eB->eB->Bool}
end
structure SB (κ:u3) (a₀:Array eB) (st:SortSt):Prop where
 perm:(arrOf st).Perm a₀
 kind:kindOf st=κ
 failed:failedOf st=none
def SB.size{st:SortSt}(h:SB κ a₀ st):(arrOf st).size=a₀.size:=h.perm.size_eq
section
variable{prog:QB}{w:Jh}{A:Jo}{E:Xd->Xe->Prop}{s:Xe}{a₀:Array eB}{κ:u3}{c:eB->eB->Bool}
end
section
variable{c:eB->eB->Bool}
variable{a b r:Array eB}{i j k:Nat}
end
structure Sm (st bH:SortSt):Prop where
 kind:kindOf bH=kindOf st
 arr:arrOf bH=arrOf st
 pend:pendingOf bH=pendingOf st
 failed:failedOf bH=failedOf st
section
variable{prog:QB}{w:Jh}{A:Jo}{E:Xd->Xe->Prop}{s:Xe}{a₀:Array eB}{κ:u3}{c:eB->eB->Bool}
end
section
variable{c:eB->eB->Bool}
variable{a b r:Array eB}{i j t:Nat}
end
section
variable{prog:QB}{w:Jh}{A:Jo}{E:Xd->Xe->Prop}{s:Xe}{a₀:Array eB}{κ:u3}{c:eB->eB->Bool}
end
section
variable{c:eB->eB->Bool}
end
section
variable{prog:QB}{w:Jh}{A:Jo}{E:Xd->Xe->Prop}{s:Xe}{a₀:Array eB}{κ:u3}{c:eB->eB->Bool}
end
end Rt
namespace Dl
open L2 _root_.Rd Rk
structure Ft (wg:DG):Prop where h:∀d δ Q,wg d δ Q->wg d δ λδ'=>(∀(j:Nat) x,δ'[j]? = some x->(∃e,x=.v e)∨δ[j]? = some x)/\Q δ'
def Qty(i:Nat):Ft (gN i):=⟨λd δ Q h=>⟨λj x e=>by
 by_cases z:j=i
 ·subst z;exact .inl ⟨d,bq e⟩
 ·rw[iQ z] at e;exact .inr e,h⟩⟩
def TH(hf:jh cap ix=true)(hi:i∈ix):cap[i]? = some none:=by
 have:=ZG.mp hf i hi;split at this
 ·assumption
 ·cases this
def DX(hf:jh cap ix=true)(h:(eY cap δ)[i]? = some x)(hx:x≠.no):i∉ix:=λz=>by
 rcases LF h with⟨_,e⟩ | ⟨j,hj,_⟩
 ·exact hx e
 ·rw[TH hf z] at hj;cases hj
section
variable{K:Ws}{σ σ4:L2.St}{δ δ4:aS}{cap:List (Option Nat)}{ix:List Nat}{A1:Xb->Prop}{H3 H5 H6:Hp}
def Rc(hP:∀a,YC σ δ a->A1 a)(hf:jh cap ix=true)(j4:∀j,j∉ix->σ4[j]? = (dE cap σ)[j]?)(gk:∀(j:Nat) x,δ4[j]? = some x->(∃e,x=.v e)∨(eY cap δ)[j]? = some x)(h:Av (dj A1 cap σ δ H3) σ4 δ4 a):A1 a:=by
 rcases h with z | ⟨i,h1,h2⟩
 ·exact z
 ·refine(C4 (cap:=cap) (H:=H3) hP).mp ?_
  rcases h2 with h2 | ⟨ds,h2⟩
  ·rcases gk i _ h2 with⟨e,z⟩ | z
   ·cases z
   ·exact .inr ⟨i,by rw[<- j4 i (DX hf z nofun)];exact h1,.inl z⟩
  ·rcases gk i _ h2 with⟨e,z⟩ | z
   ·cases z
   ·exact .inr ⟨i,by rw[<- j4 i (DX hf z nofun)];exact h1,.inr ⟨ds,z⟩⟩
def Qx6(hP:∀a,YC σ δ a->A1 a)(hf:jh cap ix=true)(j4:∀j,j∉ix->σ4[j]? = (dE cap σ)[j]?)(gk:∀(j:Nat) x,δ4[j]? = some x->(∃e,x=.v e)∨(eY cap δ)[j]? = some x)
  (ri:Rel K (dj A1 cap σ δ H6) (dE cap σ) H6<|eY cap δ)(r5:Rel K (dj A1 cap σ δ H3) σ4 H5 δ4)(kk:∀a o,¬A1 a->H5 a=some o->H6 a=some o):Rel K (dj A1 cap σ δ H6) σ4 H6 δ4 where
 len:=r5.len
 i_:=ri.i_
 cz:=ri.cz
 iE:=ri.iE
 kx:=ri.kx
 sl:=λi o x h1 h2=>by
  have iv:∀{a:Xb},Av (dj A1 cap σ δ H6) σ4 δ4 a->A1 a:=λ{a} z=>Rc hP hf j4 gk z
  rcases gk i x h2 with⟨d,rfl⟩ | hx
  ·obtain⟨v,e,q⟩:=r5.sl i o _ h1 h2;exact⟨v,e,q.mv (λa o n e=>kk a o (λz=>n<|.inl z) e) λa z=>.inl<|.inl<|iv z⟩
  ·by_cases hn:x=.no
   ·subst hn;trivial
   ·have h1':(dE cap σ)[i]? = some o:=by rw[<- j4 i (DX hf hx hn)];exact h1
    have h:=ri.sl i o x h1' hx;cases x with
    |no=>trivial
    |v d=>obtain⟨v',e,q'⟩:=h;exact⟨v',e,q'.mv (λ_ _ _ e=>e) λa z=>.inl<|.inl<|iv z⟩
    |own ds=>obtain⟨l,xs,e,e2,q',f⟩:=h;exact⟨l,xs,e,e2,q'.mv (λ_ _ _ e=>e) λa z=>.inl<|.inl<|iv z,f⟩
    |pk ds=>obtain⟨l,xs,e,e2,q',f⟩:=h;exact⟨l,xs,e,e2,q'.mv (λ_ _ _ e=>e) λa z=>.inl<|.inl<|iv z,f⟩
    |eJ=>exact h
    |oB=>exact h
 inj:=λi j a ds h1 h2 _=>by
  rcases gk i _ h1 with⟨e,z⟩ | z
  ·cases z
  ·rcases LF z with⟨_,e⟩ | ⟨j,hj,e⟩
   ·cases e
   ·exfalso
    cases e2:δ[j]? with
    |none=>rw[e2] at e;cases e
    |some y=>rw[e2] at e;cases y<;>cases e
end
def QrO{K:Ws}{T:aS->Prop}(zJ:Ft wg)
  (hf:jh cap ix=true)(rel:Rel K F σ H1 δ)(hA:∀a,Av F σ δ a->A1 a)(hN:∀a,A1 a->Av F σ δ a∨H1 a=none)(dm:∀a,A1 a->∃xs,H3 a=some (.lst xs))(kp:Kp σ δ H1 H3)(dx:DA A1 H3 x d)
  (h:wg d (eY cap δ) λδ4=>wt δ4 (λb=>if b=true then T δ4 else N) XF)
  (hT:∀σ4 δ4 H5,T δ4->Rel K (dj A1 cap σ δ H3) σ4 H5 δ4->Kp σ δ H3 H5->(∀j,j∉ix->σ4[j]? = (dE cap σ)[j]?)->σ4.length=(dE cap σ).length->(∀(j:Nat) x,δ4[j]? = some x->(∃e,x=.v e)∨(eY cap δ)[j]? = some x)->inner σ4 H5 kk)(hF:N->∀H5,Kp σ δ H3 H5->kk H5) :
  uo (dE cap σ) (tG ix K wg) (tT K E0 wt) inner x H3 kk:=by
 have ri:=II (cap:=cap) rel hA hN dm kp;have iv:∀{a:Xb},Av (dj A1 cap σ δ H3) (dE cap σ) (eY cap δ) a->A1 a:=λ{a}=>(C4 λa z=>hA a<|g8 z).mp
 refine⟨dj A1 cap σ δ H3,eY cap δ,d,_,ri,dx.mv (λ_ _ _ e=>e) λa z=>.inl<|iv z,zJ.h _ _ _ h,λδ4 ⟨g4,h4⟩ σ4 r4 kz l4 j4=>⟨RK hf l4 j4,dj A1 cap σ δ H3,δ4,_,XF,r4,h4,λb hb H5 r5 tw=>?_,uF⟩⟩;have cq:∀{b:Xb},YC σ4 δ4 b->YC σ δ b:=λz=>Lj r4 (λb o _ e1 e2=>by rw[e2] at e1;cases e1) z
 have K5:Kp σ δ H3 H5:=by
  refine⟨λb o n e=>tw.1 b o (λz=>n<|cq z) e,λb hb=>?_⟩;by_cases z:YC σ4 δ4 b
  ·exact tw.2 b z
  ·obtain⟨n,e⟩:=kp.2 b hb;exact⟨n,tw.1 _ _ z e⟩
 exact nU hb (λz=>hT σ4 δ4 H5 z r5 K5 j4 l4 g4) λz=>hF z H5 K5
def Qyh{K:Ws} 
  (zl:A1 p)(hP:∀a,YC σ δ a->A1 a)(Gz:H1 p=none)(dH:¬YC σ δ p)(lp:Lp σ δ A1 p H1 H5 acc)(hl:acc.length<Xj)(r5:Rel K (dj A1 cap σ δ H3) σ4 H5 δ4)(cq:∀b,YC σ4 δ4 b->YC σ δ b)
  (h:we δ4 G XF)(hk:∀e,G e->∀H',Lp σ δ A1 p H1 H' (acc++[e])->(∀b o,¬A1 b->H5 b=some o->H' b=some o)->kk H'):wU p (tX .D K E0 we) σ4 H5 kk:=by
 refine⟨dj A1 cap σ δ H3,δ4,G,XF,r5,h,λe he v H6 r6 qL dv=>?_,uF⟩;have Gp:Kp σ δ H5 H6:=by
  refine⟨λb o n e=>qL.1 b o (λz=>n<|cq b z) e,λb hb=>?_⟩;by_cases z:YC σ4 δ4 b
  ·exact qL.2 b z
  ·obtain⟨n,e⟩:=lp.kp.2 b hb;exact⟨n,qL.1 _ _ z e⟩
 obtain⟨k6,ys,e6,q6⟩:=lp.step hP dH Gp;have up:∀{b:Xb}{o:HO},¬A1 b->H6 b=some o->upd H6 p (.lst<|ys++[v]) b=some o:=λ{b o} n e=>by rw[QY λz=>n (by rw[z];exact zl)];exact e
 refine⟨ys,e6,by rw[q6.length];exact hl,hk e he _ ⟨⟨λb o n e=>?_,λb hb=>?_⟩,ys++[v],af,aJ.app (q6.mv (λ_ _=>up) λa z=>.inl z)<|.cons (DA.mv dv (λa o n e=>up (λz=>n<|.inl z) e) λa z=>.inl<|.inl z) .nil⟩ λb o n e=>up n<|qL.1 b o (λz=>n<|hP b<|cq b z) e⟩
 ·rw[QY (λz=>by rw[z,Gz] at e;cases e)];exact k6.1 b o n e
 ·rw[QY λz=>dH (by rw[<- z];exact hb)];exact k6.2 b hb
def HU:Nat:=1000000
@[irreducible] def BI(aK:List Xc)(jW:DG)(jU:DT)(we:DE)(δ4:aS)(acc:List Xc)(N:List Xc->Prop):Prop:=∃Jv:Nat->List Xc->Prop,Jv 0 acc /\
 (∀(j:Nat) bu d2,aK[j]? = some d2->Jv j bu->bu.length<HU/\jW d2 δ4 λδ5=>jU δ5 (λb=>if b=true then we δ5 (λe=>Jv (j+1)<|bu++[e]) XF else Jv (j+1) bu) XF)/\∀bu,Jv aK.length bu->N bu
@[irreducible] def C6(items:List Xc)(wg:DG)(wt:DT)(jV:DI)(jW:DG)(jU:DT)(we:DE)(δ:aS)(Q:Xc->Prop):Prop:=∃Iv:Nat->List Xc->Prop,Iv 0 [] /\
 (∀(i:Nat) acc d,items[i]? = some d->Iv i acc->wg d δ λδ4=>wt δ4 (λb=>if b=true then jV δ4 (λaK=>BI aK jW jU we δ4 acc<|Iv<|i+1) XF else Iv (i+1) acc) XF)/\∀acc,Iv items.length acc->Q (.list acc)
def RL(cap:List<|Option Nat)(wi:DI)(wg:DG)(wt:DT)(jV:DI)(jW:DG)(jU:DT)(we:DE):DE:=λδ Q EX=>wi δ (λitems=>C6 items wg wt jV jW jU we (eY cap δ) Q) EX
section
variable{X:Cx}{E:XK}
def Qtp:HU<=Xj:=QK (by decide) rK
end
def QD6(G:Xc->Option Xc)(hl:acc.length+aK.length<HU)
  (h:∀d∈aK,∀(k1:Prop)(k2:Xc->Prop),(G d=none->k1)->(∀e,G d=some e->k2 e)->jW d δ4 λδ5=>jU δ5 (λb=>if b=true then we δ5 k2 XF else k1) XF)(q:N<|acc++aK.filterMap G) :
  BI aK jW jU we δ4 acc N:=by
 unfold BI;refine⟨λi bu=>bu=acc++(aK.take i).filterMap G,by simp,λi bu d hd e=>?_,λbu e=>by rw[e,Zh];exact q⟩;have e:=e;have hs:(aK.take<|i+1).filterMap G=(aK.take i).filterMap G++(G d).toList:=by
  rw[ZV,hd];cases e2:G d<;>simp[e2]
 refine⟨?_,h d (Jb hd) _ _ (λe2=>?_) λe' e2=>?_⟩
 ·have:=Qjx G<|aK.take i;have h2:(aK.take i).length<=aK.length:=by rw[yd];exact LZ _ _
  rw[e,Qj];omega
 ·show bu=acc++(aK.take<|i+1).filterMap G;rw[hs,e2,e];simp
 ·show bu++[e']=acc++(aK.take<|i+1).filterMap G;rw[hs,e2,e];simp
section
open Rs PySem.W PySem.Calls
variable{X:Cx}
end
def Vw:∀ms:List Int,aJ A H (ms.map V.int) (ms.map .int)
 |[]=>.nil
 |m::ms=>.cons (.int m)<|Vw ms
def QFR(a b:DI):DI:=λδ R EX=>a δ R EX∨b δ R EX
def Ib(h:QI m X E tg e a)(h':QI m X E tg e b):QI m X E tg e (QFR a b):=⟨λXI s σ H R I ⟨F,δ,R',EX,rel,hw,k,o⟩=>by
 rcases hw with hw | hw
 ·exact h.h XI s σ H R I ⟨F,δ,R',EX,rel,hw,k,o⟩
 ·exact h'.h XI s σ H R I ⟨F,δ,R',EX,rel,hw,k,o⟩⟩
end Dl
namespace PySem
namespace AutoSeq1
open PyProof
end AutoSeq1
end PySem
namespace L2
end L2
namespace Dl
open L2 _root_.Rd Rk
section
variable{X:Cx}{E:XK}
end
def QpW{K:Ws}(hf:jh cap ix=true)(σ:L2.St)(H:Hp)(Q:VK)(h:tX .F K E (jE cap wi wg wt we) σ H Q) :
  lr cap (tI .P K E wi) (tG ix K wg) (tT K E0 wt) (tX .D K E0 we) σ H Q:=by
 obtain⟨F,δ,R,EX,rel,hw,k,o⟩:=h;refine⟨F,δ,_,EX,rel,hw,λitems hC J H1 aF bU ⟨ln,it⟩ p hp=>?_,o⟩;unfold uH at hC;obtain⟨Iv,i0,step,fin⟩:=hC;have dH:¬YC σ δ p:=λz=>by obtain⟨xs,e⟩:=aF.fI<|g8 z;rw[hp] at e;cases e
 let A1:Xb->Prop:=λa=>Av F σ δ a∨a=p
 have hP:∀a,YC σ δ a->A1 a:=λa z=>.inl<|g8 z
 have hN:∀a,A1 a->Av F σ δ a∨H1 a=none:=λa z=>z.elim .inl λz=>.inr (by rw[z];exact hp)
 have jD:∀{H2:Hp},Kp σ δ H1 H2->(∃ys,H2 p=some (.lst ys))->∀a,A1 a->∃xs,H2 a=some (.lst xs):=λ{H2} k2 e2 a z=>by
  rcases z with z | z
  ·exact(aF.kp k2).fI z
  ·rw[z];exact e2
 refine AS items.length (λi H2=>i<=items.length/\∃acc,Iv i acc/\acc.length<=i/\Lp σ δ A1 p H1 H2 acc) ⟨Q9 _,[],i0,Qd _,Kp.same aF<|JA hp,[],af,.nil⟩ (λi H2 hi ⟨_,acc,iv,hl,lp⟩=>?_) λH2 ⟨_,acc,iv,hl,lp⟩=>?_
 ·obtain⟨k2,ys,e2,q2⟩:=lp;obtain⟨go,_⟩:=it H2 A1 (λb o n e=>k2.1 b o n e) hN<|jD k2 ⟨ys,e2⟩;have hd:=Qc hi;obtain⟨g1,g2⟩:=go i _ hd;refine⟨g1,λx H3 y kk hk=>?_⟩;obtain⟨s3,dx⟩:=g2 x H3 y;have y_:=Kp.same (aF.kp k2) s3;have jw:=Lp.step hP dH ⟨k2,ys,e2,q2⟩ y_;refine UI hf aF (λa z=>.inl z) hN (jD jw.kp ⟨ys,s3 _ _ e2⟩) jw.kp dx (step i acc _ hd iv) (λσ4 δ4 H5 h5 r5 k5 cq=>?_) λh5 H5 k5=>hk _ ⟨hi,acc,h5,by omega,jw.step hP dH k5⟩
  exact P5 (.inr rfl) hP hp dH (jw.step hP dH k5) (by omega) r5 cq h5 λe he H' yX=>hk _ ⟨hi,acc++[e],he,by rw[Qj];show _+1<=_;omega,yX⟩
 ·obtain⟨k2,ys,e2,q2⟩:=lp;obtain⟨_,st⟩:=it H2 A1 (λb o n e=>k2.1 b o n e) hN<|jD k2 ⟨ys,e2⟩;refine⟨st,k _ (fin acc iv) (.ref p) H2 (aF.kp k2) (bU.trans k2) ⟨.lst (λz=>?_) e2<|q2.mv (λ_ _ _ e=>e) λa z=>.inl<|.inl z,λl e1 _=>?_⟩⟩
  ·obtain⟨xs,e⟩:=aF.fI z;rw[hp] at e;cases e
  ·cases e1;exact ve bU hp
def QE3{K:Ws}(σ:L2.St)(H:Hp)(Q:VK)(h:tX .D K E w σ H Q):tX .F K E w σ H Q:=by
 obtain⟨F,δ,R,EX,rel,hw,k,o⟩:=h;exact⟨F,δ,R,EX,rel,hw,λd hd v H' r kp vk=>k d hd v H' r kp vk.1,o⟩
section
variable{X:Cx}{E:XK}
def K9(M:List Str)(cap:List<|Option Nat)(i:Nat)(hN:X.N.Nodup)(hi:QI .P X E tg iter wi)(hb:∀cl ex s3 H3 C,QG ix (bV X M scope cl ex s3 H3 C) tg wg/\yj (bV X M scope cl ex s3 H3 C) E0 ifs wt/\QE .D (bV X M scope cl ex s3 H3 C) E0 elt we)(ua:X.N[i]? = some y:=by rfl)(tZ:X.env.scope.names.lookup y=some .local:=by rfl)(hc:X.calm=true:=by rfl)(ok:pz X.N X.env.scope M scope cap=true:=by rfl)(hf:jh cap ix=true:=by rfl)(hs:∀x,Xn iter X.env x=pure x:=by intro _;rfl)(j7:Xt (.ListComp elt [⟨tg,iter,ifs,0⟩] scope pos) (some<|.Name y py) cO.line X.env=pure true:=by rfl):QS X E (.Assign [.Name y py] (.ListComp elt [⟨tg,iter,ifs,0⟩] scope pos) cO) (Fd i<|jE cap wi wg wt we):=
 ⟨K4<|PS.imp (PS.imp (Qsb hN ua tZ hc ok hi.h (λcl ex s3 H3 C=>⟨(hb cl ex s3 H3 C).1.h,(hb cl ex s3 H3 C).2.1.h,(hb cl ex s3 H3 C).2.2.h⟩) hs j7) λD σ H q=>QpW hf σ H _ q) λD σ H q=>QE3 σ H _ q⟩
end
def Qmz{K:Ws}(zJ:Ft wg)(hf:jh cap ix=true)(qO:jh cap wq=true)(hd:wq.all (λi => !ix.contains i)=true)(σ:L2.St)(H:Hp)(Q:VK)(h:tX .F K E (RL cap wi wg wt jV jW jU we) σ H Q) :
  R8 cap (tI .P K E wi) (tG ix K wg) (tT K E0 wt) (tI .D K E0 jV) (tG wq K jW) (tT K E0 jU) (tX .D K E0 we) σ H Q:=by
 obtain⟨F,δ,R,EX,rel,hw,k,o⟩:=h;refine⟨F,δ,_,EX,rel,hw,λitems hC J H1 aF bU ⟨ln,it⟩ p hp=>?_,o⟩;unfold C6 at hC;obtain⟨Iv,i0,step,fin⟩:=hC;have dH:¬YC σ δ p:=λz=>by obtain⟨xs,e⟩:=aF.fI<|g8 z;rw[hp] at e;cases e
 let A1:Xb->Prop:=λa=>Av F σ δ a∨a=p
 have hP:∀a,YC σ δ a->A1 a:=λa z=>.inl<|g8 z
 have hN:∀a,A1 a->Av F σ δ a∨H1 a=none:=λa z=>z.elim .inl λz=>.inr (by rw[z];exact hp)
 have jD:∀{H2:Hp},Kp σ δ H1 H2->(∃ys,H2 p=some (.lst ys))->∀a,A1 a->∃xs,H2 a=some (.lst xs):=λ{H2} k2 e2 a z=>by
  rcases z with z | z
  ·exact(aF.kp k2).fI z
  ·rw[z];exact e2
 refine AS items.length (λi H2=>i<=items.length/\∃acc,Iv i acc/\Lp σ δ A1 p H1 H2 acc) ⟨Q9 _,[],i0,Kp.same aF<|JA hp,[],af,.nil⟩ (λi H2 hi ⟨_,acc,iv,lp⟩=>?_) λH2 ⟨_,acc,iv,lp⟩=>?_
 ·obtain⟨k2,ys,e2,q2⟩:=lp;obtain⟨go,_⟩:=it H2 A1 (λb o n e=>k2.1 b o n e) hN<|jD k2 ⟨ys,e2⟩;have dB:=Qc hi;obtain⟨g1,g2⟩:=go i _ dB;refine⟨g1,λx H3 y kk hk=>?_⟩;obtain⟨s3,dx⟩:=g2 x H3 y;have y_:=Kp.same (aF.kp k2) s3;have jw:=Lp.step hP dH ⟨k2,ys,e2,q2⟩ y_;refine QrO zJ hf aF (λa z=>.inl z) hN (jD jw.kp ⟨ys,s3 _ _ e2⟩) jw.kp dx (step i acc _ dB iv) (λσ4 δ4 H5 h5 r5 k5 j4 l4 g4=>?_) λh5 H5 k5=>hk _ ⟨hi,acc,h5,jw.step hP dH k5⟩
  have av4:∀{H:Hp}{a:Xb},Av (dj A1 cap σ δ H) σ4 δ4 a->A1 a:=λ{H a} z=>Rc hP hf j4 g4 z
  refine⟨dj A1 cap σ δ H3,δ4,_,XF,r5,h5,λaK hJ J2 H7 rel7 Gn ⟨ln2,Oe⟩=>?_,uF⟩;unfold BI at hJ;obtain⟨Jv,z0,yw,fin2⟩:=hJ;have yI:∀{b:Xb},YC σ4 δ4 b->YC σ δ b:=λ{b} z=>by
   obtain⟨j,z1,z2⟩:=z;rcases g4 j _ z2 with⟨e,z⟩ | z
   ·cases z
   ·exact u9 ⟨j,by rw[<- j4 j (DX hf z nofun)];exact z1,z⟩
  have Ob:Kp σ δ H5 H7:=by
   refine⟨λb o n e=>Gn.1 b o (λz=>n<|yI z) e,λb hb=>?_⟩;by_cases z:YC σ4 δ4 b
   ·exact Gn.2 b z
   ·obtain⟨n,e⟩:=k5.2 b hb;exact⟨n,Gn.1 _ _ z e⟩
  refine AS aK.length (λj H8=>j<=aK.length/\∃bu,Jv j bu/\Lp σ δ A1 p H1 H8 bu/\∀b o,¬A1 b->H7 b=some o->H8 b=some o) ⟨Q9 _,acc,z0,(jw.step hP dH k5).step hP dH Ob,λ_ _ _ e=>e⟩ (λj H8 hj ⟨_,bu,jv,qJ,yC⟩=>?_) λH8 ⟨_,bu,jv,qJ,yC⟩=>?_
  ·obtain⟨BV,e8,q8⟩:=qJ.at_;obtain⟨go2,_⟩:=Oe H8 A1 (λb o n e=>yC b o (λz=>n<|.inl z) e) (λb z=>.inl<|.inl z)<|jD qJ.kp ⟨BV,e8⟩;have hd2:=Qc hj;obtain⟨g3,g5⟩:=go2 j _ hd2;refine⟨g3,λx2 H9 y2 kk2 wB=>?_⟩;obtain⟨s9,dx2⟩:=g5 x2 H9 y2;have k89:=Kp.same (aF.kp qJ.kp) s9;have yV:=qJ.step hP dH k89;have ri:=II (cap:=cap) aF (λa z=>.inl z) hN (jD yV.kp ⟨BV,s9 _ _ e8⟩) yV.kp;have r9:=Qx6 hP hf j4 g4 ri r5 λa o n e=>s9 _ _<|yC a o n<|Ob.1 a o (λz=>n<|hP a z) e
   obtain⟨GO,hw2⟩:=yw j bu _ hd2 jv;refine⟨dj A1 cap σ δ H9,δ4,_,_,r9,dx2.mv (λ_ _ _ e=>e) λa z=>.inl<|av4 z,hw2,λδ5 h6 σ5 NX ky l5 j5=>⟨C2 l5 λi v e=>?_,dj A1 cap σ δ H9,δ5,_,XF,NX,h6,λb hb yo r11 tz=>?_,uF⟩⟩
   ·by_cases z:i∈wq
    ·have n1:i∉ix:=λz2=>by
      have:=ZG.mp hd i z;simp[z2] at this
     rw[j4 i n1] at e;rcases LG e with⟨_,e2⟩ | ⟨j,wC,_⟩
     ·cases e2
     ·rw[TH qO z] at wC;cases wC
    ·rw[j5 i z];exact e
   ·have cq:∀{b:Xb},YC σ5 δ5 b->YC σ δ b:=λz=>Lj NX (λb o _ e1 e2=>by rw[e2] at e1;cases e1) z
    have Nl:Kp σ δ H9 yo:=by
     refine⟨λb o n e=>tz.1 b o (λz=>n<|cq z) e,λb hb=>?_⟩;by_cases z:YC σ5 δ5 b
     ·exact tz.2 b z
     ·obtain⟨n,e⟩:=yV.kp.2 b hb;exact⟨n,tz.1 _ _ z e⟩
    have yD:=λb o n e=>Nl.1 b o (λz=>n<|hP b z)<|s9 _ _<|yC b o n e
    exact nU hb (λz=>(Qyh (.inr rfl) hP hp dH (yV.step hP dH Nl) (Q2 GO Qtp) r11 (λb=>cq) z λe he H' yX kk'=>wB _ ⟨hj,bu++[e],he,yX,λb o n e=>kk' b o n<|yD b o n e⟩)) λz=>wB _ ⟨hj,bu,z,yV.step hP dH Nl,yD⟩
  ·obtain⟨BV,e8,q8⟩:=qJ.at_;obtain⟨_,iZ⟩:=Oe H8 A1 (λb o n e=>yC b o (λz=>n<|.inl z) e) (λb z=>.inl<|.inl z)<|jD qJ.kp ⟨BV,e8⟩;exact⟨iZ,hk _ ⟨hi,bu,fin2 bu jv,qJ⟩⟩
 ·obtain⟨k2,ys,e2,q2⟩:=lp;obtain⟨_,st⟩:=it H2 A1 (λb o n e=>k2.1 b o n e) hN<|jD k2 ⟨ys,e2⟩;refine⟨st,k _ (fin acc iv) (.ref p) H2 (aF.kp k2) (bU.trans k2) ⟨.lst (λz=>?_) e2<|q2.mv (λ_ _ _ e=>e) λa z=>.inl<|.inl z,λl e1 _=>?_⟩⟩
  ·obtain⟨xs,e⟩:=aF.fI z;rw[hp] at e;cases e
  ·cases e1;exact ve bU hp
section
variable{X:Cx}{E:XK}
def Qr7(M:List Str)(cap:List<|Option Nat)(i:Nat)(hN:X.N.Nodup)(zJ:Ft wg)(hi:QI .P X E tg iter wi)(hb:∀cl ex s3 H3 C,QG ix (bV X M scope cl ex s3 H3 C) tg wg/\yj (bV X M scope cl ex s3 H3 C) E0 ifs wt/\QI .D (bV X M scope cl ex s3 H3 C) E0 jr aW jV/\QG wq (bV X M scope cl ex s3 H3 C) jr jW/\yj (bV X M scope cl ex s3 H3 C) E0 dY jU/\QE .D (bV X M scope cl ex s3 H3 C) E0 elt we)(ua:X.N[i]? = some y:=by rfl)(tZ:X.env.scope.names.lookup y=some .local:=by rfl)(hc:X.calm=true:=by rfl)(ok:pz X.N X.env.scope M scope cap=true:=by rfl)(hf:jh cap ix=true:=by rfl)(qO:jh cap wq=true:=by rfl)(hd:wq.all (λi => !ix.contains i)=true:=by rfl)(hs:∀x,Xn iter X.env x=pure x:=by intro _;rfl)(wu:∀env x,Xn aW env x=pure x:=by intro _ _;rfl)(j7:Xt (.ListComp elt [⟨tg,iter,ifs,0⟩,⟨jr,aW,dY,0⟩] scope pos) (some<|.Name y py) cO.line X.env=pure true:=by rfl):QS X E (.Assign [.Name y py] (.ListComp elt [⟨tg,iter,ifs,0⟩,⟨jr,aW,dY,0⟩] scope pos) cO) (Fd i<|RL cap wi wg wt jV jW jU we):=
 ⟨K4<|PS.imp (PS.imp (Qoh hN ua tZ hc ok hi.h (λcl ex s3 H3 C=>⟨(hb cl ex s3 H3 C).1.h,(hb cl ex s3 H3 C).2.1.h,(hb cl ex s3 H3 C).2.2.1.h,(hb cl ex s3 H3 C).2.2.2.1.h,(hb cl ex s3 H3 C).2.2.2.2.1.h,(hb cl ex s3 H3 C).2.2.2.2.2.h⟩) hs wu j7) λD σ H q=>Qmz zJ hf qO hd σ H _ q) λD σ H q=>QE3 σ H _ q⟩
end
end Dl


namespace Dl
open L2 _root_.Rd Rk
def Qiv(dm:∀a,A a->∃xs,H a=some (.lst xs)):∀(M:List (Int×Int))(ys:List V),aP H ys (M.map Rk.pairD)->aJ A H ys (M.map Rk.pairD)
 |[],ys,h=>by cases h;exact .nil
 |m::M,ys,h=>by
  cases h with
  |@cons x xs _ _ h1 h2=>
   refine .cons ?_<|Qiv dm M xs h2
   cases h1 with
   |@tup a zs _ e q=>
    refine .tup (λz=>?_) e ?_
    ·obtain⟨xs,e'⟩:=dm a z;rw[e] at e';cases e'
    ·cases q with
     |cons a b=>
      cases a;cases b with
      |cons a b=>cases a;cases b;exact .cons (.int _)<|.cons (.int _) .nil
def ZP(L:List (Int×Int)):gv (L.map Rk.pairD)=true:=KU.mpr λd hd=>by
 obtain⟨i,_,rfl⟩:=Qh.mp hd;rfl
@[irreducible] def bJ:List Xc->(Xc->Prop)->Prop
 |[.list ds],Q=>∃L:List (Int×Int),ds=L.map Rk.pairD/\L.Nodup/\L.length<64/\(∀ij∈L,0<=ij.2/\ij.2<64)/\∀M:List (Int×Int),M.Perm L->M.Pairwise (λa b=>Rs.code a<Rs.code b)->Q (.list<|M.map Rk.pairD)
 |_,_=>False
def cV:iL Kj bJ:=λA P H vs ds R Q ln dm q h k=>by
 unfold bJ at h;split at h
 ·obtain⟨v,rfl,hv⟩:=kC q;obtain⟨L,rfl,nd',lO,hb,hR⟩:=h;obtain⟨l,xs,rfl,e,qq⟩:=hv.list;refine⟨l,xs,L,rfl,e,xR _ _ (ZP L) qq,nd',lO,hb,λt ys M H2 s n e2 zS pm pw=>?_⟩;have zT:∀a,A a->∃xs,H2 a=some (.lst xs):=λa z=>by obtain⟨xs,e⟩:=dm a z;exact⟨xs,s _ _ e⟩
  refine k _ (hR M pm pw) _ H2 s (.lst (λz=>?_) e2<|Qiv zT M ys zS)<|oh n;obtain⟨xs,e⟩:=dm t z;rw[n] at e;cases e
 ·exact h.elim
def cP(h1:L.Nodup)(h2:L.length<64)(h3:∀ij∈L,0<=ij.2/\ij.2<64)(k:∀M:List (Int×Int),M.Perm L->M.Pairwise (λa b=>Rs.code a<Rs.code b)->Q (.list<|M.map Rk.pairD)):bJ [.list<|L.map Rk.pairD] Q:=by
 unfold bJ;exact⟨L,rfl,h1,h2,h3,k⟩
def NU:Xc->Nat
 |.int _=>0
 |.tuple _=>1
 |_=>2
def QFU(i j:Int):Ordering:=if i<j then .lt else if i=j then .eq else .gt
def QFT(i j:Nat):Ordering:=if i<j then .lt else if i=j then .eq else .gt
def aD(o:Ordering)(p:Ordering):Ordering:=match o with
 |.eq=>p
 |o=>o
mutual
def QFf:Xc->Xc->Ordering
 |.int i,.int j=>QFU i j
 |.tuple a,.tuple b=>QBX a b
 |x,y=>QFT (NU x)<|NU y
def QBX:List Xc->List Xc->Ordering
 |[],[]=>.eq
 |[],_::_=>.lt
 |_::_,[]=>.gt
 |x::xs,y::ys=>aD (QFf x y)<|QBX xs ys
end
def isL:Ordering->Bool
 |.lt=>true
 |_=>false
def N'(x y:Xc):Bool:=isL<|QFf x y
end Dl
namespace Rt
open PySem.Calls Dl
section
open PySem.SeqAt
open PySem.AutoSeq1 (wpAny_loadPart')
open PySem.MeetsSeq PySem.MeetsSeq2 PySem.MeetsSeq3
end
end Rt
namespace Rt
open PySem.Calls PySem.W Dl
section
variable{prog:QB}{w:Jh}{A:Jo}{E:Xd->Xe->Prop}{s:Xe}
end
section
variable{M:Model}{A:Jo}{E:Xd->Xe->Prop}{s:Xe}
end
section
variable{prog:QB}{w:Jh}{A:Jo}{E:Xd->Xe->Prop}{s:Xe}
end
end Rt
namespace Rt
open PySem.Calls PySem.W Dl Rs
section
variable{prog:QB}{w:Jh}{A:Jo}{E:Xd->Xe->Prop}{s:Xe}
end
end Rt
namespace L2
open PySem.Calls _root_.Rd _root_.Rk _root_.Rs Rt Dl
section
variable{X:Cx}
end
end L2
namespace Dl
open L2 _root_.Rd Rk Rt
end Dl
namespace L2
open PySem.Calls _root_.Rd _root_.Rk Rt
section
variable{X:Cx}
def Qn0(bs:List Bool):((Qv bs.length).any λi=>(bs[i]?).getD false)=bs.any id:=by
 rw[Jt,J5,J5];constructor
 ·rintro⟨i,hi,h⟩;have hl:=Jl.mp hi;rw[Qc hl] at h;exact⟨bs[i],JQ hl,h⟩
 ·rintro⟨b,hb,h⟩;obtain⟨i,hi⟩:=J3.mp hb;exact⟨i,Jl.mpr (QR.mp hi).1,by rw[hi];exact h⟩
def QtW:aG X (.builtin "any") (λxs H Q=>∃(p:Xb)(bs:List Bool),xs=[.ref p]/\aA X.K H p (bs.map V.bl)/\X.calm=true/\Q (.bl<|bs.any id) H):=by
 intro XI s σ H xs us Q I r h;obtain⟨p,bs,rfl,hp,hc,q⟩:=h;obtain⟨u,rfl,ru⟩:=vals1 r;cases ru;obtain⟨ah,rv,pl,hz⟩:=I.list hp;have hl:=pl.isList;have hb:=VM rv;have c_:p<s.heap.objs.size:=by obtain⟨_,e,_⟩:=hl;exact Qr e
 refine call_any_walk<|LC hl ?_;refine⟨s.heap.objs.size,[s.heap.objs.size,p],[s.heap.objs.size],ah.toArray.size,_,_,λi=>(bs[i]?).getD false,rfl,Walks.list (A:=X.A.in1) (I.ok.hd hc) _ p (QZ c_) ah.toArray,
  ⟨⟨_,Qs _ rfl,rfl,rfl⟩,hl.push _⟩,λi v s' Q' E' hP hQ=>?_,λh' tk hk=>?_⟩
 ·obtain⟨b,e,rfl⟩:=hb.get i v (by simpa using hP);simp only[e] at hQ;exact ZC hQ
 ·have e:((Qv ah.toArray.size).any λi=>(bs[i]?).getD false)=bs.any id:=by
   rw[Qm,hb.length];exact Qn0 bs
  rw[e];exact⟨.bl _,H,I.kept<|QDd hk,rfl,q⟩
end
end L2
namespace Dl
open L2 _root_.Rd Rk Rt
def l8:Xm "any" = some (.builtin "any"):=PyProof.Rows.boot_any
@[irreducible] def Fb:List Xc->(Xc->Prop)->Prop
 |[.list ds],Q=>∃bs,xD ds=some bs/\Q (.bool<|bs.any id)
 |_,_=>False
def QBZ{K:Ws}(hc:cm=true):iL (λxs H Q=>∃(p:Xb)(bs:List Bool),xs=[.ref p]/\aA K H p (bs.map V.bl)/\cm=true/\Q (.bl<|bs.any id) H) Fb:=λA P H vs ds R Q ln dm q h k=>by
 unfold Fb at h;split at h
 ·obtain⟨v,rfl,hv⟩:=kC q;obtain⟨bs,hb,hR⟩:=h;rw[bZ hb] at hv;obtain⟨l,xs,rfl,e,qq⟩:=hv.list;rw[QpP qq] at e;exact⟨l,bs,rfl,aA.of e,hc,k _ hR _ H (ag.refl H) (.bl _) ip⟩
 ·exact h.elim
def any_map(l:List α)(g:α->Bool):(l.map g).any id=l.any g:=by rw[vi];rfl
def QyE{items:List Xc}(h:ds=[.list<|items.map λd=>.bool<|g d])(q:Q<|.bool<|items.any g):Fb ds Q:=by
 subst h;unfold Fb;refine⟨items.map g,?_,by rw[any_map];exact q⟩;rw[show items.map (λd=>su<|g d)=(items.map g).map su by rw[QD];rfl,Qrb]
section
variable{X:Cx}{E:XK}
end
end Dl
namespace Rk
open L2 _root_.Rd Dl Rt
def QDy:List Xc->Bool
 |x::y::r=>N' x y&&QDy (y::r)
 |_=>true
def ltP2:Xc->Bool
 |.tuple [a,b]=>N' a b
 |_=>false
def jJ(h w:Int):Xc->Bool
 |.tuple [a,b]=>jy a 0 (h - 1)&&jy b 0 (w - 1)
 |_=>false
def QBh(q:jJ h w d=true):∃p:Int×Int,d=pairD p/\0<=p.1/\p.1<h/\0<=p.2/\p.2<w:=by
 cases d<;>first | (cases q;done) | skip
 rename_i ds
 match ds,q with
 |[a,b],q=>
  have q:=QH.mp (q);obtain⟨i,rfl,i1,i2⟩:=QBk q.1;obtain⟨j,rfl,j1,j2⟩:=QBk q.2;exact⟨(i,j),rfl,i1,by omega,j1,by omega⟩
 |[],q=>cases q
 |[_],q=>cases q
 |_::_::_::_,q=>cases q
def QBg(h1:0<=p.1)(h2:p.1<h)(h3:0<=p.2)(h4:p.2<w):jJ h w (pairD p)=true:=by
 show(jy (.int p.1) 0 (h - 1)&&jy (.int p.2) 0 (w - 1))=true;rw[CK h1<|by omega,CK h3<|by omega];rfl
def cN:Xc->Int×Int
 |.tuple [.int a,.int b]=>(a,b)
 |_=>(0,0)
def Qyk(p:Int×Int):(pairD p).depth<=1:=by
 show Yn [.int p.1,.int p.2]+1<=1;simp[Yn,YU]
def f6(L:List (Int×Int)):Xc:=.tuple<|L.map pairD
def a_(p q:Int×Int):Prop:=p.1<q.1∨(p.1=q.1/\p.2<q.2)
instance B' (p q:Int×Int):Decidable (a_ p q):=by unfold a_;exact inferInstance
def Em(p q:Int×Int):Qy (pairD p) (pairD q)=decide (p=q):=by
 show((p.1 == q.1)&&((p.2 == q.2)&&true))=_;obtain⟨a,b⟩:=p;obtain⟨c,d⟩:=q;by_cases h1:a=c
 ·by_cases h2:b=d
  ·subst h1 h2;simp
  ·simp[h2]
 ·simp[h1]
def Y2(cs:List (Int×Int))(p:Int×Int):((cs.map pairD).any λc=>Qy c<|pairD p)=decide (p∈cs):=by
 rw[vi,Jt,J5,decide_eq_true_iff];constructor
 ·rintro⟨c,hc,h⟩;have:=Y' (by rw[<- Em];exact h);rw[<- this];exact hc
 ·intro h;refine⟨p,h,?_⟩;show Qy (pairD p) (pairD p)=true;rw[Em];simp
def bQ(h w:Int)(cs:List (Int×Int)):Xc:=.tuple [.int h,.int w,.tuple<|cs.map pairD]
def SA:DF:=λargs R _=>∃(h w:Int)(d:Xc),args=[.v<|.int h,.v<|.int w,.v d]/\R (.bool<|jJ h w d)
def QiY(xs:List Xc)(k:Nat):Dl.cutD xs (some (k:Int)) none=xs.drop k:=by
 unfold Dl.cutD;rw[HT.UU];by_cases z:k<=xs.length
 ·rw[LK z,MH (by rw[yb];exact Qd _)]
 ·rw[PK<|by omega,List.drop_length,List.drop_of_length_le<|by omega,List.take_nil]
def Og(n:Int):Xc->Bool
 |.int i=>decide (0<=i)&&decide (i<n)
 |_=>false
def TM(n:Int)(d:Xc):Og n d=jy d 0 (n - 1):=by
 cases d<;>first | rfl | skip
 rename_i i
 show(decide (0<=i)&&decide (i<n))=(decide (0<=i)&&decide (i<=n - 1));rw[show decide (i<n)=decide (i<=n - 1) from decide_eq_decide.mpr<|by omega]
def dP(r n:Nat)(f:Nat->Nat->Bool):List (Int×Int):=((Qv n).filter<|f r).map λ(c:Nat)=>((r:Int),(c:Int))
def ae(h w:Nat)(f:Nat->Nat->Bool):List (Int×Int):=(Qv h).flatMap λr=>dP r w f
def wO(f:Nat->Nat->Bool)(i j:Nat)(b:Bool):Nat->Nat->Bool:=λr c=>if r=i/\c=j then b else f r c
def vv(h w:Nat)(f:Nat->Nat->Bool):ae (h+1) w f=ae h w f++dP h w f:=by
 unfold ae;rw[yh];simp
def vj:p∈dP r n f↔∃c:Nat,c<n/\f r c=true/\p=((r:Int),(c:Int)):=by
 unfold dP;rw[Qh];constructor
 ·rintro⟨c,hc,rfl⟩;have hc:=QF.mp hc;exact⟨c,Jl.mp hc.1,hc.2,rfl⟩
 ·rintro⟨c,hc,hf,rfl⟩;exact⟨c,QF.mpr ⟨Jl.mpr hc,hf⟩,rfl⟩
def JS:p∈ae h w f↔∃r c:Nat,r<h/\c<w/\f r c=true/\p=((r:Int),(c:Int)):=by
 unfold ae;rw[Z7];constructor
 ·rintro⟨r,hr,hp⟩;obtain⟨c,hc,hf,rfl⟩:=vj.mp hp;exact⟨r,c,Jl.mp hr,hc,hf,rfl⟩
 ·rintro⟨r,c,hr,hc,hf,rfl⟩;exact⟨r,Jl.mpr hr,vj.mpr ⟨c,hc,hf,rfl⟩⟩
def YI{h w:Nat}{f:Nat->Nat->Bool}{p:Int×Int}(q:p∈ae h w f):0<=p.1/\p.1<h/\0<=p.2/\p.2<w:=by
 obtain⟨r,c,hr,hc,_,rfl⟩:=JS.mp q;exact⟨S2 _,by omega,S2 _,by omega⟩
def Lu(r n:Nat)(f:Nat->Nat->Bool):(dP r n f).length<=n:=by
 unfold dP;rw[Qb];exact QK (Zk _ _) (by rw[Q5];exact Qd _)
def YS(w:Nat)(f:Nat->Nat->Bool):∀h,(ae h w f).length<=h*w
 |0=>Q9 _
 |h+1=>by
  have:=YS w f h;have:=Lu h w f;rw[vv,Qj,Ks];omega
def QfR(r n:Nat)(f:Nat->Nat->Bool):(dP r n f).filter (λp=>decide (p.1=(r:Int)))=dP r n f:=EN.mpr λp hp=>by
 obtain⟨c,_,_,rfl⟩:=vj.mp hp;exact X_ rfl
def QfS(h:r≠k)(f:Nat->Nat->Bool):(dP r n f).filter (λp=>decide (p.1=(k:Int)))=[]:=YK.mpr λp hp=>by
 obtain⟨c,_,_,rfl⟩:=vj.mp hp;rw[X'<|by omega];exact Qw
def QgT(w k:Nat)(f:Nat->Nat->Bool):∀h,(ae h w f).filter (λp=>decide (p.1=(k:Int)))=if k<h then dP k w f else[]
 |0=>rfl
 |h+1=>by
  rw[vv,Tx,QgT w k f h];by_cases z:k=h
  ·subst z;rw[X8<|by omega,QfR,X9<|by omega];rfl
  ·rw[QfS λe=>z e.symm,J4];by_cases z2:k<h
   ·rw[X9 z2,X9<|by omega]
   ·rw[X8 z2,X8<|by omega]
def Qws(r n:Nat)(f:Nat->Nat->Bool):(dP r n f).Pairwise a_:=by
 refine Mv (R:=λa b=>a<b) _ (λa b hab=>.inr ⟨rfl,by omega⟩) ?_
 exact Zj _ List.pairwise_lt_range
def aE(w:Nat)(f:Nat->Nat->Bool):∀h,(ae h w f).Pairwise a_
 |0=>.nil
 |h+1=>by
  rw[vv];refine Bq.mpr ⟨aE w f h,Qws h w f,λp hp q hq=>?_⟩;obtain⟨r,c,hr,_,_,rfl⟩:=JS.mp hp;obtain⟨c',_,_,rfl⟩:=vj.mp hq;exact .inl (by omega)
def jO(h:a_ p q):p≠q:=λe=>by subst e;rcases h with z | z<;>omega
def UA:DF:=λargs R _=>∃(d:Xc)(h w:Int),args=[.v d,.v<|.int h,.v<|.int w]/\R (.bool<|jJ h w d)
def iJ(cs:List (Int×Int))(r:Int):List (Int×Int):=cs.filter λp=>decide (p.1=r)
def me(cells L:List (Int×Int)):List (List (Int×Int)):=(cells.filter λc => !decide (c.2∈L.map (·.2))).map λc=>L++[c]
def fT(cs:List (Int×Int)):Nat->List (List (Int×Int))
 |0=>[[]]
 |i+1=>fT cs i++(fT cs i).flatMap (me<|iJ cs i)
def QtF(cells L:List (Int×Int)):(me cells L).length<=cells.length:=by
 unfold me;rw[Qb];exact Zk _ _
def Vr{f:α->List β}:∀{xs:List α},(∀x∈xs,(f x).length<=k)->(xs.flatMap f).length<=xs.length*k
 |[],_=>Q9 _
 |x::xs,h=>by
  have h1:=h x<|.head _;have h2:=Vr λy hy=>h y<|.tail _ hy
  rw[Zl,Qj,Qz,Ks];omega
def Wd(h:∀r,(iJ cs r).length<=k):∀i,(fT cs i).length<=(k+1)^i
 |0=>Qd _
 |i+1=>by
  have h1:=Wd h i;have h2:=Vr (xs:=fT cs i) λL _=>QK (QtF (iJ cs i) L)<|h i
  show(fT cs i++(fT cs i).flatMap (me<|iJ cs i)).length<=_;rw[Qj,Nat.pow_succ,Nat.mul_add];have h3:=Nat.mul_le_mul_right k h1;omega
def si:M∈me cells L↔∃c∈cells,c.2∉L.map (·.2)/\M=L++[c]:=by
 unfold me;rw[Qh];constructor
 ·rintro⟨c,hc,rfl⟩;have hc:=QF.mp hc;exact⟨c,hc.1,by simpa using hc.2,rfl⟩
 ·rintro⟨c,hc,hn,rfl⟩;exact⟨c,QF.mpr ⟨hc,by simpa using hn⟩,rfl⟩
def L0:∀i,∀L∈fT cs i,L.length<=i
 |0,L,h=>by rw[Qo.mp h];exact Qd _
 |i+1,L,h=>by
  rcases QP.mp (h) with z | z
  ·exact Es<|L0 i L z
  ·obtain⟨M,hM,hL⟩:=Z7.mp z;obtain⟨c,_,_,rfl⟩:=si.mp hL;have:=L0 i M hM;rw[Qj];exact PL this
def U2(cs:List (Int×Int)):∀i,[]∈fT cs i
 |0=>.head _
 |i+1=>QP.mpr<|.inl<|U2 cs i
def Ky(ns:List Int)(i:Int):((ns.map Qp).any λe=>Qy e<|.int i)=decide (i∈ns):=by
 rw[vi,Jt,J5,decide_eq_true_iff];constructor
 ·rintro⟨c,hc,h⟩;have:c=i:=by simpa [Qy] using h
  rw[<- this];exact hc
 ·intro h;refine⟨i,h,?_⟩;show(i == i)=true;simp
def QjI(w h:Nat)(f:Nat->Nat->Bool)(r:Int):(iJ (ae h w f) r).length<=w:=by
 by_cases z:0<=r
 ·obtain⟨k,rfl⟩:∃k:Nat,r=k:=⟨r.toNat,by omega⟩
  unfold iJ;rw[QgT];split
  ·exact Lu _ _ _
  ·exact Q9 _
 ·have:iJ (ae h w f) r=[]:=YK.mpr λp hp e=>by
   have:=YI hp;have:=Y' e;omega
  rw[this];exact Q9 _
def sH(ns:List Int):Nat:=(max (ns.getLastD 0) 1).toNat
def uM:∀{xs:List α},(∀x∈xs,g x=if p x=true then some (k x) else none)->xs.filterMap g=(xs.filter p).map k
 |[],_=>rfl
 |x::xs,h=>by
  have ih:=uM λy hy=>h y<|.tail _ hy
  by_cases z:p x=true
  ·rw[List.filterMap_cons_some<|by rw[h x<|.head _,X9 z],ih,YA z];rfl
  ·rw[List.filterMap_cons_none<|by rw[h x<|.head _,X8 z],ih,J7 z]
@[irreducible] def CO:List Xc->(Xc->Prop)->Prop:=HW
def QtV:iL (λxs H Q=>∃i j,xs=[.int i,.int j]/\Q (.int<|if j<i then j else i) H) CO:=by unfold CO;exact Qyw
def QxP(e:(if j<i then j else i)=k)(h:Q<|.int k):CO [.int i,.int j] Q:=by
 unfold CO;show Q<|.int<|if j<i then j else i;rw[e];exact h
def vp(g:Int×Int->Bool)(cs:List (Int×Int)):(cs.map pairD).filterMap (λd=>if g (cN d)=true then some d else none)=(cs.filter g).map pairD:=by
 rw[Z9];exact uM λp _=>rfl
def Qyg(L:List (Int×Int)):(L.map pairD).isEmpty=L.isEmpty:=by cases L<;>rfl
def Qyt(G:Xc->List Xc)(k:Nat)(hl:(items.flatMap G).length<=k)
  (h:∀d∈items,∀(acc:List Xc)(N:List Xc->Prop),acc.length+(G d).length<=k->N (acc++G d)->wg d δ λδ4=>wt δ4 (λb=>if b=true then jV δ4 (λaK=>BI aK jW jU we δ4 acc N) XF else N acc) XF)(q:Q<|.list<|items.flatMap G) :
  C6 items wg wt jV jW jU we δ Q:=by
 unfold C6;refine⟨λi acc=>acc=(items.take i).flatMap G,by simp,λi acc d hd e=>?_,λacc e=>by rw[e,Zh];exact q⟩;have e:=e;have hs:(items.take<|i+1).flatMap G=(items.take i).flatMap G++G d:=by
  rw[ZV,hd];simp
 refine h d (Jb hd) acc _ ?_ (by show acc++G d=_;rw[hs,e])
 have h1:(items.flatMap G).length=((items.take<|i+1).flatMap G).length+((items.drop<|i+1).flatMap G).length:=by
  rw[<- Qj,<- List.flatMap_append,List.take_append_drop]
 rw[hs,<- e,Qj] at h1;omega
end Rk
namespace Rv
def Qzz:isSubtype (.type "range_iterator") (.type "reversed")=pure false:=by rw[isSubtype_type];kernel_rfl
section
variable{prog:QB}{w:Jh}{A:Jo}{E:Xd->Xe->Prop}{s:Xe}
def rq(a b:Int):Xo:={ cls:=.type "range_iterator",data:=.fields #[rawInt<|a+(ZA a b 1 - 1)*1,rawInt<|ZA a b 1,rawInt<|-1] }
def QmD(hr:IsRange s.heap r 0 j 1 t u v)(h0 : -1000<=j)(h1:j<=1000)
  (h:Q (.ref s.heap.objs.size) { s with heap:=s.heap.push (rq 0 j) }):Xi (Xg prog w) A (call (.builtin "range.__reversed__") [.ref r]) Q E s:=by
 refine ZQ Mj ⟨_,hr,rfl⟩ F.entry_range_reversed ?_<|F.args_range_reversed_1 _
 refine Xa<|YN rfl ?_;refine Xa ?_
 refine Xa<|om hr rfl rfl ?_;refine Xa<|YN rfl ?_;refine Xa<|om hr rfl rfl ?_;refine Xa<|YN rfl ?_;refine Xa<|om hr rfl rfl ?_;refine Xa<|YN rfl ?_;refine Qg ?_
 dsimp only
 have hz:ZA 0 j 1=if 0<j then j else 0:=by rw[IG];split<;>omega
 have wH:∀x:Int,-2000<=x->x<=2000->JD x=true:=λx a b=>by
  unfold JD;simp only[Js,Z'];omega
 have hs:(JD 0&&JD j&&JD 1&&JD (-1)&&JD (0 - 1)&&JD (ZA 0 j 1))=true:=by
  rw[wH 0 (by decide)<|by decide,wH j (by omega)<|by omega,wH 1 (by decide)<|by decide,wH (-1) (by decide)<|by decide,wH (0 - 1) (by decide)<|by decide,wH _ (by rw[hz];split<;>omega) (by rw[hz];split<;>omega)];rfl
 rw[hs];exact Xa<|JC<|Qg ⟨_,rfl,h⟩
def QtY(hr:IsRange s.heap r 0 j 1 t u v)(h0 : -1000<=j)(h1:j<=1000)
  (h:Q (.ref s.heap.objs.size) { s with heap:=s.heap.push (rq 0 j) }):Xu (Xg prog w) A (.call (.builtin "reversed.__new__") ⟨[.type "reversed",.ref r],[]⟩) (wants Q E) s:=by
 have hT:s.TypeIs (.ref r) "range" := ⟨_,hr,rfl⟩;refine codeAny_of_tree ?_
 refine Xa<|YN (F.newCall_reversed_1 _)<|Qg ⟨plainId_quiet F.plain_reversed_new _,codeAny_builtin F.entry_reversed_new ?_⟩;refine Xa<|YN (newClass_reversed _) ?_;refine Xa (YN (by first | rfl | kernel_rfl) ?_);refine Xa (YN (by first | rfl | kernel_rfl) ?_);refine Xa<|D7 hT Mj.lookup ?_;refine Xa<|YN (Mj.bind _) ?_
 try dsimp only
 first
 |rw[X8 (Qw)]
 |(rw[X8<|show ¬((Bc "range.__reversed__" == ZS)=true) from Qw])
 refine Xa<|wpAny_rule ?_;refine Xa<|QmD hr h0 h1 ?_
 first
 |exact Qg h
 |exact Xa<|Qg<|Qg h
def Qp6(hr:IsRange s.heap r 0 j 1 t u v)(h0 : -1000<=j)(h1:j<=1000)
  (h:Q (.ref s.heap.objs.size) { s with heap:=s.heap.push (rq 0 j) }):Xi (Xg prog w) A (call (.type "reversed") [.ref r]) Q E s:=by
 refine callType_other (Q₁:=λobj s₁=>obj=.ref s.heap.objs.size/\s₁={ s with heap:=s.heap.push (rq 0 j) }) (by decide) F.create_reversed ⟨_,_,F.mro_reversed⟩ F.made_reversed Qzz (F.typeCall_reversed_1 _) (QtY hr h0 h1 ⟨rfl,rfl⟩) ?_
 rintro obj s₁ ⟨rfl,rfl⟩;exact⟨⟨_,Qs _ rfl,rfl⟩,h⟩
end
end Rv
namespace L2
def Nm(n:Nat):It:=⟨λi _=>i<n,λi H x H'=>H'=H/\x=.int ((n:Int) - 1 - i),λi _=>n<=i⟩
def Qno{K:Ws}(it:Xb)(n:Nat):Turn P w K tg (Nm n) [it] it (λi h=>HE h it ((n:Int) - 1+(i:Nat)*(-1)) ((n:Int) - (i:Nat))<|-1) where
 mem:=by simp
 obj:=λi h st b hb=>by
  have e:b=it:=by simpa using hb
  subst e;exact⟨_,st,λv z=>by
   have z':=z;cases z'⟩
 keep:=λi h h' st k=>k it (by simp) _ st
 item:=by
  intro X hP hw hK hc i XI s σ H E I hf st hg;subst hP hw hK;obtain⟨f0,f1,f2,f3,f4,f5⟩:=hf it (by simp);have W:=QCX (prog:=X.prog) (w:=X.w) (I.ok.hd hc) it (n - 1) (-1) n;refine W.item i s _ _ hg st λv h' tk hv bH kk=>?_
  obtain⟨t,rfl⟩:=hv;have I1:Inv X XI σ H { s with heap:=h',toks:=tk }:=I.turned (λb o hb e=>kk b o (by simpa using hb) e) f0 f1 f3 f4 f5;refine⟨_,rfl,wZ bH rfl rfl (by decide) ⟨.int<|n - 1 - i,H,I1,⟨t,?_⟩,⟨rfl,rfl⟩,bH,λb hb=>(hf b hb).1⟩⟩;rw[show n - 1+i*(-1)=(n:Int) - 1 - i by omega]
 done:=by
  intro X hP hw hK hc i XI s σ H E I hf st hg;obtain⟨f0,f1,f2,f3,f4,f5⟩:=hf it (by simp);exact S7 (I.ok.hd hc) st (by have:n<=i:=hg;omega) λh' eb=>⟨rfl,I.turned (λb o hb e=>eb b o hb e) f0 f1 f3 f4 f5⟩
 self:=λ_ _ _ _ _ st h=>Mm st h
def QEa(ta:TA):TI:=λσ H R=>ta σ H λvs H1=>∃(r:Xb)(j:Int),vs=[.ref r]/\H1 r=some (.sU 0 j) /\ -1000<=j/\j<=1000/\R (Nm j.toNat) H1
section
variable{X:Cx}{tg:Zm}
def QwC(hg:Gl X "reversed")(hm:X.mg "reversed" = none)(ha:PA X [a] ta)(hs:Xh [a] X.env=[(false,eval a X.env)]:=by rfl):PI X tg (.Call (.Name "reversed" p) [a] [] pos) (QEa ta):=by
 intro XI s σ H R I h;refine Call_<|rP I hg hm boot_reversed<|Zi (aD (ha pos XI s σ H _ I h) λus s1 ⟨vs,H1,I1,r1,q1⟩=>?_) hs rfl;obtain⟨r,j,e,hr,q1,q2,q⟩:=q1;subst e;obtain⟨u,rfl,ru⟩:=vals1 r1;cases(ru);obtain⟨t1,t2,t3,e⟩:=I1.ar r _ hr;refine Rv.Qp6 (e) q1 q2 ?_
 have hz:ZA 0 j 1=(j.toNat:Int):=by rw[IG];split<;>omega
 have Of:HE (s1.heap.push<|Rv.rq 0 j) s1.heap.objs.size ((j.toNat:Int) - 1+(0:Int)*(-1)) ((j.toNat:Int) - (0:Int)) (-1):=by
  have:=Qs (h:=s1.heap) (o:=Rv.rq 0 j) rfl;unfold Rv.rq at this;rw[hz,show 0+((j.toNat:Int) - 1)*1=(j.toNat:Int) - 1+(0:Int)*(-1) by omega] at this;rw[show(j.toNat:Int) - (0:Int)=(j.toNat:Int) by omega];unfold Rv.rq;rw[hz,show 0+((j.toNat:Int) - 1)*1=(j.toNat:Int) - 1+(0:Int)*(-1) by omega];exact this
 refine Mm Of ?_
 refine⟨s1.heap.objs.size,[s1.heap.objs.size],_,_,H1,rfl,I1.kept λb o e=>Qf _ e,Qno _ j.toNat,Of,λb hb=>?_,q⟩;have e:b=s1.heap.objs.size:=by simpa using hb
 subst e;exact I1.h_ (Qd _)<|I1.ar.fresh<|Qd _
end
section
variable{X:Cx}
def V1:V->List V->Hp->VK->Prop:=λx vs H Q=>∃l xs y,x=.ref l/\vs=[.int 0,y]/\H l=some (.lst xs)/\xs.length<Xj/\Q .aH (upd H l<|.lst (y::xs))
def Qmg:Fs X "list.insert" V1:=by
 intro XI s σ H x vs v us Q I rx rv h;obtain⟨l,xs,y,rfl,rfl,hH,hz,q⟩:=h;cases rx;cases rv with
 |cons r0 rv=>
  obtain⟨u,rfl,ru⟩:=ai.one rv;obtain⟨t,rfl⟩:=r0;obtain⟨z,ah,n,r,hl,e⟩:=I.fO hH;refine mG F.slot_list_insert ⟨_,e,rfl⟩ F.entry_list_insert (F.args_list_insert_3 _ _ _) (AutoSeq1.list_insert_list_int_val_1 l ah.toArray n 0 t u (by decide) (by rw[Qm];omega)) ⟨e,?_⟩;refine⟨.aH,_,I.oG hH e (by simp) (.cons ru r) ?_,rfl,q⟩;rw[Qz];omega
end
end L2
namespace Dl
open L2 _root_.Rd Rk
section
variable{X:Cx}{E:XK}{st:Zo}{i:Nat}{we:DE}
def wX(n:Nat):List Xc:=(Qv n).map λ(i:Nat)=>.int<|(n:Int) - 1 - i
def Ea(n:Nat):(wX n).length=n:=by unfold wX;rw[Qb,Q5]
def Lr{n i:Nat}{d:Xc}(h:(wX n)[i]? = some d):i<n/\d=.int ((n:Int) - 1 - i):=by
 unfold wX at h;rw[Qq] at h;by_cases z:i<n
 ·rw[JP z] at h;exact⟨z,(QL h).symm⟩
 ·rw[Jz (by rw[Q5];omega)] at h;cases h
def QEn(w:DE):DI:=λδ Q EX=>w δ (λd=>match d with
 |.int j=>(-1000<=j/\j<=1000)/\Q (wX j.toNat)
 |_=>False) EX
def QD4(h:n<=Xj):BH A S (Nm n) (wX n) H1:=by
 refine⟨by rw[Ea];exact h,λH2 A' _ _ _=>⟨λi d hd=>?_,?_⟩⟩
 ·obtain⟨hi,rfl⟩:=Lr hd;refine⟨hi,λx H3 hy=>?_⟩;obtain⟨rfl,rfl⟩:=hy;exact⟨ag.refl _,.int _⟩
 ·rw[Ea];exact Qd _
def Ut{m:Md}{tg e:Zm}{w:DE}{p p2 pos lC:Pos}(hg:Gl X "reversed")(hm:X.mg "reversed" = none)(zw:Gl X "range")(tY:X.mg "range" = none)(h:QE .P X E e w)(hs:notStar e=true:=by rfl):QI m X E tg (.Call (.Name "reversed" p) [.Call (.Name "range" p2) [e] [] lC] [] pos) (QEn w):=⟨by
 refine PI.imp (QwC hg hm<|Y6 (Qsh zw tY (Y6 h.h Qu hs) (by rw[mz hs];rfl)) Qu) λσ H R _ ⟨F,δ,R',EX,rel,hw,k,o⟩=>?_
 refine⟨F,δ,_,EX,rel,hw,λd hd v H' aj kp vk=>?_,o⟩;cases d<;>first | exact(hd).elim | skip
 obtain⟨⟨h1,h2⟩,hR⟩:=hd;rw[DP.int vk];exact⟨_,rfl,λr H2 s2 n2 e2=>⟨r,_,rfl,e2,h1,h2,k _ hR _ H2 (aj.same s2) (kp.trans<|Kp.same aj s2)<|QD4<|JG<|Rk.ZY<|by omega⟩⟩⟩
def MZ(i:Nat)(we:DE):DS:=λD δ=>match δ[i]? with
 |some (.own ds)=>we δ (λd=>ds.length<1000000/\D.nx (δ.set i<|.own (d::ds))) D.ex
 |_=>False
def QwR(h:PS X st<|Aj<|BZ X.K "list" V1 (Yu i)<|ZM (tX .D X.K E<|dC<|.int 0)<|ZM (tX .D X.K E we) bD):PS X st (tS X.K E<|MZ i we):=by
 refine PS.imp h λD σ H ⟨F,δ,DD,rel,hw,en⟩=>?_
 unfold MZ at hw;split at hw
 ·rename_i ds hd
  obtain⟨x,hx⟩:=rel.lt hd;obtain⟨l,xs,rfl,e,q,f⟩:=rel.sl i _ _ hx hd;have np:=rel.a7 hd hx;refine⟨.ref l,hx,.inl ⟨rfl,_,aA.of e⟩,F,δ,(λd=>d=.int 0),DD.ex,rel,rfl,λd hd0 v0 H0 FT kp0 vk0=>?_,en.ex⟩;subst hd0;cases vk0;refine⟨F,δ,_,DD.ex,FT,hw,λd ⟨hl,hn⟩ v H' aj kp vk=>?_,en.ex⟩;have kk:=kp0.trans kp;have q':=kk.oY q;refine⟨l,xs,v,rfl,rfl,kk.1 _ _ np e,Q2 (by rw[q.length];exact hl) rK,?_⟩;obtain⟨r2,st⟩:=aj.mut hd hx<|.cons vk q';exact en.nx.go _ hn _ _ r2<|(a8.kp kk).trans st
 ·exact hw.elim
def Qz2{y:Str}{e e0:Zm}{we:DE}{apos XJ pos bo:Pos}(i:Nat)(h0:QE .D X E e0<|dC<|.int 0)(he:QE .D X E e we)(hN:X.N[i]? = some y:=by rfl)(hv:gU X.env.scope y:=by first | exact QM rfl | exact QV (QM rfl) | exact QV<|QV rfl)(hd:(y == ("__debug__" : Str))=false:=by decide)(bG:(y == ("__classdict__" : Str))=false:=by decide)(Oo:notStar e0=true:=by rfl)(fJ:notStar e=true:=by rfl)(cT:attributeBase (.Name y bo) "insert" X.env (eval (.Name y bo) X.env)=eval (.Name y bo) X.env:=by rfl)(i6:((Xp XJ<|Xh [e0,e] X.env).all (λx => !x.1)&&(Xz XJ<|Xx [] X.env).all (λx=>x.1.isSome)&&decide ([e0,e].length+([]:List ml).length+(if([]:List ml).isEmpty then 0 else 1)<30))=true:=by rfl)(cR:(apos.endLine == XJ.line)=true:=by rfl)(j7:Xt (.Call (.Attribute (.Name y bo) "insert" apos) [e0,e] [] XJ) none pos.line X.env=pure false:=by rfl):QS X E (.Expr (.Call (.Attribute (.Name y bo) "insert" apos) [e0,e] [] XJ) pos) (MZ i we):=⟨QwR<|ZB (gZ Wz PySem.F.slot_list_insert PySem.F.type_list_insert Qmg (pv i hN hv hd bG) (Y6 h0.h (Y6 he.h Qu fJ) Oo) cT i6 cR (mz Oo) (by rw[mz fJ];rfl)) j7⟩
end
end Dl
namespace Rk
open L2 _root_.Rd Dl Rt
def mh(B:Nat->Nat->Int)(t:Nat):List Nat->Nat->Int
 |[],_=>0
 |c::cs,k=>(if t.testBit c=true then 0 else B (t ||| 2^c) k)+mh B t cs k
def L1(B:Nat->Nat->Int)(t c k:Nat):∀cs:List Nat,mh B t (cs++[c]) k=mh B t cs k+(if t.testBit c=true then 0 else B (t ||| 2^c) k)
 |[]=>by show _+0=0+_;omega
 |d::cs=>by
  show _+mh B t (cs++[c]) k=_+mh B t cs k+_;rw[L1 B t c k cs];omega
def fu(h:Nat)(F:Nat->Int):List Xc:=(Qv<|h+1).map λ(k:Nat)=>.int<|F k
def jK(h w:Nat)(B:Nat->Nat->Int):List Xc:=(Qv (2^w)).map λ(t:Nat)=>.list<|fu h<|B t
def nQ(B:Nat->Nat->Int)(cols:List Nat)(t k:Nat):Int:=B t k+if k=0 then 0 else mh B t cols<|k - 1
def kH(cs:List (Int×Int))(r:Nat):List Nat:=(iJ cs r).map λp=>p.2.toNat
def Wc(cs:List (Int×Int))(h:Nat):Nat->Nat->Nat->Int
 |0,_,k=>if k=0 then 1 else 0
 |i+1,t,k=>nQ (Wc cs h i) (kH cs<|h - 1 - i) t k
def jL(cs:List (Int×Int))(h w:Nat):Nat->List Xc
 |0=>[.list<|jK h w<|Wc cs h 0]
 |i+1=>.list (jK h w<|Wc cs h<|i+1)::jL cs h w i
def uE(ns:List Nat):List Xc:=ns.map λ(c:Nat)=>.int (c:Int)
def ma(cs:List (Int×Int))(h w:Nat):List Xc:=(Qv<|min h w+1).map λ(k:Nat)=>.int<|Wc cs h h 0 k
def HX:DF:=λargs R _=>∃(h w:Nat)(cs:List (Int×Int)),args=[.v<|bQ h w cs]/\R (.int ((min h w:Nat):Int))
def OZ:DF:=λargs R _=>∃(h w:Nat)(B:Nat->Nat->Int)(cols:List Nat)(t:Nat),args=[.v<|.list<|jK h w B,.v<|.list<|uE cols,.v<|.int t]/\t<2^w/\(∀c∈cols,c<w)/\h<=6/\w<=6/\R (.list<|fu h<|nQ B cols t)
def Ir:DF:=λargs R _=>∃(h w:Nat)(cs:List (Int×Int)),args=[.v<|bQ h w cs]/\h<=6/\w<=6/\(∀p∈cs,0<=p.2/\p.2<w)/\R (.list<|jL cs h w h)
def KJ:DF:=λargs R _=>∃(h w:Nat)(cs:List (Int×Int)),args=[.v<|bQ h w cs]/\h<=6/\w<=6/\(∀p∈cs,0<=p.2/\p.2<w)/\R (.list<|ma cs h w)
def rZ(hk:k<=h):(fu h F)[k]? = some (.int<|F k):=by
 unfold fu;rw[Qq,JP<|by omega];rfl
def xT(h:Nat)(F:Nat->Int):(fu h F).length=h+1:=by unfold fu;rw[Qb,Q5]
def AI(ht:t<2^w):(jK h w B)[t]? = some (.list<|fu h<|B t):=by
 unfold jK;rw[Qq,JP ht];rfl
def Bl(e:∀k,k<=h->F k=G k):fu h F=fu h G:=by
 refine ZZ λk hk=>?_
 rw[e k (by have:=Jl.mp hk;omega)]
def Qr1(hj:j<=h):(fu h F).set j (.int v)=fu h (λk=>if k=j then v else F k):=by
 apply Eu
 intro k;rw[LQ];by_cases z:j=k
 ·subst z;rw[X9 rfl,X9 (by rw[xT];omega),rZ hj,X9 rfl]
 ·rw[X8 z];by_cases z2:k<=h
  ·rw[rZ z2,rZ z2,X8 λe=>z e.symm]
  ·rw[Jz (by rw[xT];omega),Jz (by rw[xT];omega)]
def ie(xs:List Xc):Dl.cutD xs none (some<|-1)=xs.take (xs.length - 1):=by
 unfold Dl.cutD;rw[HT.V4]
 congr 1
 have e:HT.aT xs.length xs.length (some<|-1)=((-1:Int)+xs.length).toNat:=by unfold HT.aT;dsimp only;rw[X9<|by decide]
 omega
def QyC:∀t:Fin 64,∀c:Fin 6,Ei ((t:Nat):Int) (1*2^((c:Nat):Int).toNat)=if(t:Nat).testBit c=true then 2^(c:Nat) else 0:=by decide
def QB4:∀t:Fin 64,∀c:Fin 6,LH ((t:Nat):Int) (1*2^((c:Nat):Int).toNat)=(((t:Nat) ||| 2^(c:Nat):Nat):Int):=by decide
def QAy(ht:t<2^w)(hc:c<w):t ||| 2^c<2^w:=Nat.or_lt_two_pow ht (Nat.pow_lt_pow_right (by decide) hc)
def Qr3(h:Nat)(F:Nat->Int):Dl.cutD (fu h F) none (some<|-1)=(Qv h).map λ(k:Nat)=>Qp (F k):=by
 rw[ie,xT];unfold fu;rw[<- QCx,L6,PF,LK<|IC h]
def QyG{t:Nat}(ht:t<2^w)(hc:c<w)(w6:w<=6):Ei (t:Int) (1*2^((c:Nat):Int).toNat)=if t.testBit c=true then 2^c else 0:=by
 have lO:2^w<=2^6:=Bp (by decide) w6;exact QyC ⟨t,by have e:2^6=64:=rfl;omega⟩ ⟨c,by omega⟩
def QAz{t:Nat}(ht:t<2^w)(hc:c<w)(w6:w<=6):LH (t:Int) (1*2^((c:Nat):Int).toNat)=((t ||| 2^c:Nat):Int):=by
 have lO:2^w<=2^6:=Bp (by decide) w6;exact QB4 ⟨t,by have e:2^6=64:=rfl;omega⟩ ⟨c,by omega⟩
def Dx(w:Nat):(1*2^((w:Nat):Int).toNat:Int)=((2^w:Nat):Int):=by
 simp
def QBV(cs:List (Int×Int))(r:Nat)(hb:∀p∈cs,0<=p.2):(cs.map pairD).filterMap (λd=>if(cN d).1=(r:Int) then some (.int (cN d).2) else none)=uE (kH cs r):=by
 unfold uE kH iJ;rw[Z9,QD];refine uM λp hp=>?_
 show(if p.1=r then some (Qp p.2) else none)=if decide (p.1=r)=true then some (Qp (p.2.toNat:Int)) else none
 rw[show(p.2.toNat:Int)=p.2 by have:=hb p hp;omega];by_cases z:p.1=r
 ·rw[X9 z,X9<|X_ z]
 ·rw[X8 z,X8<|by simpa using z]
def Qyq{cs:List (Int×Int)}{w r c:Nat}(hb:∀p∈cs,0<=p.2/\p.2<w)(h:c∈kH cs r):c<w:=by
 obtain⟨p,hp,rfl⟩:=Qh.mp h;have:=hb p (QF.mp hp).1;omega
def VQ(cs:List (Int×Int))(h w:Nat):∀i,(jL cs h w i).length=i+1
 |0=>rfl
 |i+1=>by show(jL cs h w i).length+1=_;rw[VQ cs h w i]
def La(cs:List (Int×Int))(h w:Nat):∀i,(jL cs h w i)[0]? = some (.list<|jK h w<|Wc cs h i)
 |0=>rfl
 |_+1=>rfl
def Qr2(cs:List (Int×Int))(h t:Nat):fu h (Wc cs h 0 t)=Qp 1::Jc h (.int 0):=by
 apply Eu
 intro k;cases k with
 |zero=>rw[rZ<|Q9 _];rfl
 |succ k=>
  by_cases z:k+1<=h
  ·rw[rZ z,ME,EW,X9<|by omega];rfl
  ·rw[Jz (by rw[xT];omega),ME,EW,X8<|by omega]
def Qwh(h:Nat):(Jc h [Qp 0]).flatten=Jc h (.int 0):=by
 induction h with
 |zero=>rfl
 |succ h ih=>rw[Yy,Zy,ih];rfl
def SD{w:Nat}(h:w<=6) : -1000000<=(1*2^((w:Nat):Int).toNat:Int)/\(1*2^((w:Nat):Int).toNat:Int)<=1000000:=by
 have NZ:=Bp (n:=2) (by decide) h;rw[Dx];generalize 2^w=x at NZ;omega
def sumZ{α:Type}(f:α->Int):List α->Int
 |[]=>0
 |x::xs=>f x+sumZ f xs
def pH(f:α->Int):∀a b:List α,sumZ f (a++b)=sumZ f a+sumZ f b
 |[],b=>by show _=0+_;rw[Ye];rfl
 |x::a,b=>by show _+sumZ f (a++b)=_+sumZ f a+_;rw[pH f a b];omega
def Qid(f:β->Int)(g:α->List β):∀a:List α,sumZ f (a.flatMap g)=sumZ (λx=>sumZ f<|g x) a
 |[]=>rfl
 |x::a=>by rw[Zl,pH,Qid f g a];rfl
def sr:∀{a:List α},(∀x∈a,f x=g x)->sumZ f a=sumZ g a
 |[],_=>rfl
 |x::a,h=>by show f x+_=g x+_;rw[h x<|.head _,sr λy hy=>h y<|.tail _ hy]
def Lx(f g:α->Int):∀a:List α,sumZ (λx=>f x+g x) a=sumZ f a+sumZ g a
 |[]=>rfl
 |x::a=>by show(f x+g x)+sumZ _ a=f x+sumZ f a+(g x+sumZ g a);rw[Lx f g a];omega
def Y8(f:α->Int)(p:α->Bool):∀a:List α,sumZ f (a.filter p)=sumZ (λx=>if p x=true then f x else 0) a
 |[]=>rfl
 |x::a=>by
  by_cases z:p x=true
  ·rw[YA z];show f x+_=(if p x=true then f x else 0)+_;rw[X9 z,Y8 f p a]
  ·rw[J7 z];show _=(if p x=true then f x else 0)+_;rw[X8 z,Y8 f p a,Ye]
def LU(f:β->Int)(g:α->β):∀a:List α,sumZ f (a.map g)=sumZ (λx=>f<|g x) a
 |[]=>rfl
 |x::a=>by show _+sumZ f (a.map g)=_+_;rw[LU f g a]
def sumZ_zero:∀a:List α,sumZ (λ_=>0) a=0
 |[]=>rfl
 |x::a=>by show 0+sumZ _ a=0;rw[sumZ_zero a];rfl
def QgC(p:α->Bool):∀a:List α,sumZ (λx=>if p x=true then 1 else 0) a=((a.countP p:Nat):Int)
 |[]=>rfl
 |x::a=>by
  show(if p x=true then 1 else 0)+_=_;rw[QgC p a];by_cases z:p x=true
  ·rw[X9 z,List.countP_cons_of_pos z];omega
  ·rw[X8 z,List.countP_cons_of_neg z];omega
def L4(B:Nat->Nat->Int)(t k:Nat)(g:α->Nat):∀a:List α,mh B t (a.map g) k=sumZ (λx=>if t.testBit (g x)=true then 0 else B (t ||| 2^g x) k) a
 |[]=>rfl
 |x::a=>by show _+mh B t (a.map g) k=_+_;rw[L4 B t k g a]
def dG(L:List (Int×Int)):Nat:=L.foldl (λt p=>t ||| 2^p.2.toNat) 0
def DY(L:List (Int×Int))(p:Int×Int):dG (L++[p])=dG L ||| 2^p.2.toNat:=by
 unfold dG;rw[List.foldl_append];rfl
def VL(c:Nat):∀(L:List (Int×Int))(t:Nat),(L.foldl (λt p=>t ||| 2^p.2.toNat) t).testBit c=(t.testBit c||decide (c∈L.map λp=>p.2.toNat))
 |[],t=>by simp
 |p::L,t=>by
  rw[PB,VL c L,Nat.testBit_or,Nat.testBit_two_pow,Bool.or_assoc]
  congr 1
  rw[JU,Jt];simp only[yg,Z',Qt];constructor
  ·rintro(z | z)
   ·exact .inl z.symm
   ·exact .inr z
  ·rintro(z | z)
   ·exact .inl z.symm
   ·exact .inr z
def DL(L:List (Int×Int))(c:Nat):(dG L).testBit c=decide (c∈L.map λp=>p.2.toNat):=by
 unfold dG;rw[VL];simp
def Ed:∀i,∀L∈fT cs i,∀p∈L,p∈cs
 |0,L,h,p,hp=>by rw[Qo.mp h] at hp;cases hp
 |i+1,L,h,p,hp=>by
  rcases QP.mp (h) with z | z
  ·exact Ed i L z p hp
  ·obtain⟨M,hM,hL⟩:=Z7.mp z;obtain⟨c,hc,_,rfl⟩:=si.mp hL;rcases QP.mp hp with y | y
   ·exact Ed i M hM p y
   ·rw[Qo.mp y];exact(QF.mp hc).1
def KQ{L:List (Int×Int)}{c:Int×Int}(hL:∀p∈L,0<=p.2)(hc:0<=c.2):(c.2.toNat∈L.map λp=>p.2.toNat)↔c.2∈L.map (·.2):=by
 rw[Qh,Qh];constructor
 ·rintro⟨p,hp,e⟩;refine⟨p,hp,?_⟩;have:=hL p hp;have e:=e;omega
 ·rintro⟨p,hp,e⟩;exact⟨p,hp,by rw[e]⟩
def vY(cs:List (Int×Int))(h r k:Nat)(L:List (Int×Int)):Int:=if L.length<=k then Wc cs h (h - r) (dG L) (k - L.length) else 0
def QrP(hr:r<h)(hb:∀p∈cs,0<=p.2)(hL:∀p∈L,p∈cs) :
  vY cs h r k L=vY cs h (r+1) k L+sumZ (vY cs h (r+1) k) (me (iJ cs r) L):=by
 have e1:h - r=(h - (r+1))+1:=by omega
 have e2:h - 1 - (h - (r+1))=r:=by omega
 unfold me;rw[LU,Y8];unfold vY;rw[e1];by_cases z:L.length<=k
 ·rw[X9 z,X9 z];show nQ (Wc cs h<|h - (r+1)) (kH cs<|h - 1 - (h - (r+1))) (dG L) (k - L.length)=_;rw[e2];unfold nQ
  congr 1
  by_cases z2:k - L.length=0
  ·rw[X9 z2];refine(CI (sr λc hc=>?_)<|sumZ_zero _).symm;rw[Qj,X8 (show ¬(L.length+[c].length<=k) by show ¬(L.length+1<=k);omega)];split<;>rfl
  ·rw[X8 z2];unfold kH;rw[L4];refine sr λc hc=>?_
   have j8:=hb c (QF.mp hc).1;rw[DL,DY,Qj,X9 (show L.length+[c].length<=k by show L.length+1<=k;omega)];have em:=KQ (λp hp=>hb p<|hL p hp) j8;by_cases y:c.2∈L.map (·.2)
   ·rw[X9<|X_<|em.mpr y,X8<|by simpa using y]
   ·rw[X8 (by rw[Z'];exact λq=>y<|em.mp q),X9<|by simpa using y];show _=Wc cs h (h - (r+1)) _ (k - (L.length+1));rw[show k - L.length - 1=k - (L.length+1) by omega]
 ·rw[X8 z,X8 z,Ye];refine(CI (sr λc hc=>?_)<|sumZ_zero _).symm;rw[Qj,X8<|show ¬(L.length+[c].length<=k) by omega];split<;>rfl
def VU(hb:∀p∈cs,0<=p.2):∀r,r<=h->sumZ (vY cs h r k) (fT cs r)=Wc cs h h 0 k
 |0,_=>by
  show(if 0<=k then Wc cs h (h - 0) (dG []) (k - 0) else 0)+0=_;rw[Yf];rfl
 |r+1,hr=>by
  rw[<- VU hb r (by omega)];show sumZ _ (fT cs r++(fT cs r).flatMap (me<|iJ cs r))=_;rw[pH,Qid,<- Lx];exact(sr λL hL=>QrP (by omega) hb<|Ed r L hL).symm
def MU(cs:List (Int×Int))(h k:Nat):Int:=(((fT cs h).countP λL=>L.length == k:Nat):Int)
def QtS(hb:∀p∈cs,0<=p.2)(k:Nat):MU cs h k=Wc cs h h 0 k:=by
 rw[<- VU hb h (Qd _)];unfold MU;rw[<- QgC];refine sr λL _=>?_
 unfold vY;rw[Kr];show(if(L.length == k)=true then 1 else 0)=if L.length<=k then(if k - L.length=0 then 1 else 0) else 0
 by_cases z:L.length=k
 ·rw[X9<|by simpa using z,X9<|by omega,X9<|by omega]
 ·rw[X8<|by simpa using z];by_cases z2:L.length<=k
  ·rw[X9 z2,X8<|by omega]
  ·rw[X8 z2]
def Lo:∀(w:Nat)(l:List Nat),l.Nodup->(∀x∈l,x<w)->l.length<=w
 |0,l,_,h=>by
  cases l with
  |nil=>exact Qd _
  |cons a l=>exact Z_ (h a<|.head _)<|Lz _
 |w+1,l,nd,h=>by
  by_cases z:w∈l
  ·have h1:=Lo w (l.erase w) (nd.erase w) λx hx=>by
    have:=h x<|List.mem_of_mem_erase hx;have fi:x≠w:=λe=>by subst e;exact(List.Nodup.not_mem_erase nd) hx
    omega
   have h2:=Qjy z;omega
  ·have h1:=Lo w l nd λx hx=>by
    have:=h x hx;have fi:x≠w:=λe=>by subst e;exact z hx
    omega
   omega
def K_:∀i,∀L∈fT cs i,(L.map (·.2)).Nodup
 |0,L,h=>by rw[Qo.mp h];exact .nil
 |i+1,L,h=>by
  rcases QP.mp (h) with z | z
  ·exact K_ i L z
  ·obtain⟨M,hM,hL⟩:=Z7.mp z;obtain⟨c,_,hn,rfl⟩:=si.mp hL;rw[Q3];refine Zx.mpr ⟨K_ i M hM,by simp,λa h1 b h2 e=>?_⟩;have h2:b=c.2:=by simpa using h2
   rw[e,h2] at h1;exact hn h1
def QnD{cs:List (Int×Int)}{w:Nat}(hb:∀p∈cs,0<=p.2/\p.2<w)(h:L∈fT cs i):L.length<=w:=by
 have nd:=K_ i L h;have hs:=Ed i L h;have h1:=Lo w (L.map λp=>p.2.toNat) ?_ λx hx=>?_
 ·rwa [Qb] at h1
 ·have e:(L.map λp=>p.2.toNat)=(L.map (·.2)).map Int.toNat:=by rw[QD];rfl
  rw[e];refine Bs.mpr<|YZ (λ{a b} ha fS fi hz=>fi ?_) nd;obtain⟨p,hp,rfl⟩:=Qh.mp ha;obtain⟨q,hq,rfl⟩:=Qh.mp fS;have:=hb p<|hs p hp;have:=hb q<|hs q hq;have hz:=hz;omega
 ·obtain⟨p,hp,rfl⟩:=Qh.mp hx;have:=hb p<|hs p hp;omega
def QtU(hd:d∈ma cs h w):∃i,d=.int i:=by
 obtain⟨k,_,rfl⟩:=Qh.mp hd;exact⟨_,rfl⟩
def QtT(cs:List (Int×Int))(h w:Nat):(ma cs h w).length=min h w+1:=by unfold ma;rw[Qb,Q5]
end Rk


namespace L2
section
variable{X:Cx}
def O6(K:Ws):List V->Hp->VK->Prop:=λxs H Q=>∃(p:Xb)(ns:List Int),xs=[.ref p]/\aA K H p (ns.map V.int)/\0<ns.length/\∀m,m∈ns->(∀y∈ns,y<=m)->Q (.int m) H
def Qi5(hc:X.calm=true):aG X (.builtin "max") (O6 X.K):=by
 intro XI s σ H xs us Q I r h;obtain⟨p,ns,rfl,hp,hn,q⟩:=h;obtain⟨u,rfl,ru⟩:=vals1 r;cases ru;obtain⟨ah,rv,pl,hz⟩:=I.list hp;have hi:=intsAre_of rv;obtain⟨ys,hx⟩:=hi.allInts.items;have oN:=hx ▸ pl.isList;have qM:ys.size=ns.length:=by
  have h1:ah.toArray.size=(intItems ys).size:=by rw[hx]
  rw[Qm,hi.length] at h1;simp[intItems] at h1;omega
 have num:∀j m,ns[j]? = some m->numAt ys j=m:=λj m e=>by
  obtain⟨w,hw,gr⟩:=rv.get (by rw[Qq,e];rfl);have h2:(intItems ys)[j]? = some w:=by rw[<- hx,Va];exact hw
  unfold intItems at h2;rw[Array.getElem?_map] at h2;obtain⟨y,hy,ey⟩:=Ja.mp h2;unfold numAt;rw[hy];subst ey;obtain⟨t,et⟩:=gr;cases et;rfl
 refine max_intList (I.ok.hd hc) oN (by omega) λv h' tk hv hk=>?_
 rw[<- hx] at hv;rw[Va] at hv;have ab:=argBest_gt (numAt ys)<|ys.size - 1;generalize argBest (λi j=>decide (numAt ys i > numAt ys j)) (ys.size - 1)=b at *;obtain⟨x,Gv,rx⟩:∃x,(ns.map V.int)[b]? = some x/\RelV x v:=by
  have hlen:=rv.length;have c_:=(QR.mp hv).1;cases e:(ns.map V.int)[b]? with
  |none=>
   have:=List.getElem?_eq_none_iff.mp e
   omega
  |some x=>
   obtain⟨w,hw,gr⟩:=rv.get e;rw[hw] at hv;cases hv;exact⟨x,rfl,gr⟩
 rw[Qq] at Gv;obtain⟨m,hm,rfl⟩:=Ja.mp Gv;refine⟨.int m,H,I.kept hk,rx,q m (Jb hm) λy hy=>?_⟩;obtain⟨j,hj⟩:=J3.mp hy;have hjl:=(QR.mp hj).1;have:=ab.2 j (by omega);rw[num b m hm,num j y hj] at this;exact this
end
end L2
namespace Dl
open L2 _root_.Rd Rk
@[irreducible] def CL:List Xc->(Xc->Prop)->Prop
 |[.list ds],Q=>∃ns,uZ ds=some ns/\0<ns.length/\∀m,m∈ns->(∀y∈ns,y<=m)->Q (.int m)
 |_,_=>False
def Ue{K:Ws}:iL (O6 K) CL:=λA P H vs ds R Q ln dm q h k=>by
 unfold CL at h;split at h
 ·obtain⟨v,rfl,hv⟩:=kC q;obtain⟨bs,hb,h0,hR⟩:=h;rw[Lk hb] at hv;obtain⟨l,xs,rfl,e,qq⟩:=hv.list;rw[A6 qq] at e;exact⟨l,bs,rfl,aA.of e,h0,λm h1 h2=>k _ (hR m h1 h2) _ H (ag.refl H) (.int _) kZ⟩
 ·exact h.elim
def UB{ns:List Int}(h:0<ns.length)(k:∀m,m∈ns->(∀y∈ns,y<=m)->Q (.int m)):CL [.list<|ns.map Qp] Q:=by
 unfold CL;exact⟨ns,ints_map ns,h,k⟩
end Dl
namespace Rk
open L2 _root_.Rd Dl Rt
def wo(cs:List (Int×Int))(c:Int×Int):List (Int×Int):=cs.filter λp => !decide (p=c)
def QgP:∀{xs:List α},(∀x∈xs,f x=g x)->xs.flatMap f=xs.flatMap g
 |[],_=>rfl
 |x::xs,h=>by rw[Zl,Zl,h x<|.head _,QgP λy hy=>h y<|.tail _ hy]
def mi(cs:List (Int×Int))(h w m:Nat):Prop:=m<=min h w/\0<Wc cs h h 0 m/\∀k,k<=min h w->0<Wc cs h h 0 k->k<=m
def ou(h w:Nat)(cs:List (Int×Int)):Prop:=h<=6/\w<=6/\∀p∈cs,0<=p.1/\p.1<h/\0<=p.2/\p.2<w
def Rb:DF:=λargs R _=>∃(h w:Nat)(cs:List (Int×Int)),args=[.v<|bQ h w cs]/\ou h w cs/\∀m,mi cs h w m->R (.int (m:Int))
def ou.wo(b:ou h w cs)(c:Int×Int):ou h w (wo cs c):=⟨b.1,b.2.1,λp hp=>b.2.2 p (QF.mp hp).1⟩
def ou.col(b:ou h w cs):∀p∈cs,0<=p.2/\p.2<(w:Int):=λp hp=>(b.2.2 p hp).2.2
def ou.nn(b:ou h w cs):∀p∈cs,0<=p.2:=λp hp=>(b.2.2 p hp).2.2.1
def Iz(cs:List (Int×Int))(h:Nat):∀i t,Wc cs h i t 0=1
 |0,_=>rfl
 |i+1,t=>by
  show Wc cs h i t 0+(if 0=0 then 0 else _)=1;rw[Iz cs h i t];rfl
def kL:List (Int×Int)->List (Int×Int)->Prop
 |[],[]=>False
 |[],_::_=>True
 |_::_,[]=>False
 |p::L,q::M=>a_ p q∨(p=q/\kL L M)
def Ll:∀L:List (Int×Int),¬kL L L
 |[],h=>h
 |p::L,h=>by
  rcases h with z | z
  ·rcases z with z | z<;>omega
  ·exact Ll L z.2
def Uo(p q:Int×Int):a_ p q∨p=q∨a_ q p:=by
 obtain⟨a,b⟩:=p;obtain⟨c,d⟩:=q;by_cases e:a=c/\b=d
 ·exact .inr (.inl<|by rw[e.1,e.2])
 ·have:a<c∨(a=c/\b<d)∨c<a∨(c=a/\d<b):=by omega
  rcases this with z | z | z | z
  ·exact .inl<|.inl z
  ·exact .inl<|.inr z
  ·exact .inr<|.inr<|.inl z
  ·exact .inr<|.inr<|.inr z
def TZ:∀{S T:List (Int×Int)}(c d:Int×Int),S.length=T.length->kL S T->kL (S++[c]) (T++[d])
 |[],[],_,_,_,h=>h.elim
 |[],_::_,_,_,e,_=>by cases e
 |_::_,[],_,_,e,_=>by cases e
 |p::S,q::T,c,d,e,h=>by
  rcases h with z | z
  ·exact .inl z
  ·exact .inr ⟨z.1,TZ c d (by simpa using e) z.2⟩
def VB:∀(S:List (Int×Int)){c d:Int×Int},a_ c d->kL (S++[c]) (S++[d])
 |[],c,d,h=>.inl h
 |p::S,c,d,h=>.inr ⟨rfl,VB S h⟩
def fG(S:List (Int×Int)):Int:=match S.getLast? with
 |some c=>c.1+1
 |none=>0
def aX(cs S:List (Int×Int)):List (Int×Int):=cs.filter λc=>decide (fG S<=c.1) && !decide (c.2∈S.map (·.2))
def fL(cs:List (Int×Int)):Nat->List (List (Int×Int))
 |0=>[[]]
 |k+1=>(fL cs k).flatMap λS=>(aX cs S).map λc=>S++[c]
structure Std (cs L:List (Int×Int)):Prop where
 sub:∀p∈L,p∈cs
 rows:L.Pairwise λp q=>p.1<q.1
 cols:(L.map (·.2)).Nodup
def Std.nil{cs:List (Int×Int)}:Std cs []:=⟨λp hp=>(nomatch hp),.nil,.nil⟩
def Std.init(h:Std cs<|S++[c]):Std cs S/\c∈cs/\(∀p∈S,p.1<c.1)/\c.2∉S.map (·.2):=by
 have r:=Bq.mp h.rows;have k:=h.cols;rw[Q3] at k;have k:=Zx.mp k;refine⟨⟨λp hp=>h.sub p<|Zb _ hp,r.1,k.1⟩,h.sub c<|by simp,λp hp=>r.2.2 p hp c<|by simp,λz=>?_⟩;exact k.2.2 c.2 z c.2 (by simp) rfl
def Std.snoc(h:Std cs S)(h1:c∈cs)(h2:∀p∈S,p.1<c.1)(h3:c.2∉S.map (·.2)):Std cs (S++[c]):=by
 refine⟨λp hp=>?_,Bq.mpr ⟨h.rows,by simp,λp hp q hq=>?_⟩,?_⟩
 ·rcases QP.mp hp with z | z
  ·exact h.sub p z
  ·rw[Qo.mp z];exact h1
 ·rw[Qo.mp hq];exact h2 p hp
 ·rw[Q3];refine Zx.mpr ⟨h.cols,by simp,λa ha b hb e=>?_⟩;have hb:b=c.2:=by simpa using hb
  rw[e,hb] at ha;exact h3 ha
def Vz(h:S.Pairwise λp q=>p.1<q.1){c:Int×Int}:(∀p∈S,p.1<c.1)∨¬fG S<=c.1∨(S=[] ):=by
 by_cases z:S=[]
 ·exact .inr<|.inr z
 ·by_cases y:fG S<=c.1
  ·refine .inl λp hp=>?_
   obtain⟨T,d,rfl⟩:∃T d,S=T++[d]:=⟨S.dropLast,S.getLast z,(JE z).symm⟩
   have y:d.1+1<=c.1:=by unfold fG at y;rw[UO] at y;simpa using y
   rcases QP.mp hp with q | q
   ·have:=(Bq.mp h).2.2 p q d (by simp);omega
   ·rw[Qo.mp q];omega
  ·exact .inr<|.inl y
def QDz{c:Int×Int}(h:∀p∈S,p.1<c.1)(h0:0<=c.1):fG S<=c.1:=by
 unfold fG;cases e:S.getLast? with
 |none=>exact h0
 |some d=>
  have:=h d<|Ve e;show d.1+1<=c.1;omega
def xq(h0:∀p∈cs,0<=p.1):∀(k:Nat)(L:List (Int×Int)),L∈fL cs k↔Std cs L/\L.length=k
 |0,L=>by
  constructor
  ·intro h;rw[Qo.mp h];exact⟨.nil,rfl⟩
  ·rintro⟨_,h⟩;cases L with
   |nil=>exact .head _
   |cons a b=>cases h
 |k+1,L=>by
  show L∈(fL cs k).flatMap (λS=>(aX cs S).map λc=>S++[c])↔_;rw[Z7];constructor
  ·rintro⟨S,hS,hL⟩;obtain⟨c,hc,rfl⟩:=Qh.mp hL;obtain⟨st,hl⟩:=(xq h0 k S).mp hS;have hc:=QF.mp hc;have i7:=QH.mp hc.2;refine⟨st.snoc hc.1 ?_<|by simpa using i7.2,by rw[Qj,hl];rfl⟩;rcases Vz st.rows with z | z | z
   ·exact z
   ·exact Z_ (Y' i7.1) z
   ·rw[z];exact λp hp=>(nomatch hp)
  ·rintro⟨st,hl⟩;have fi:L≠[]:=λe=>by rw[e] at hl;cases hl
   obtain⟨S,c,rfl⟩:∃T d,L=T++[d]:=⟨L.dropLast,L.getLast fi,(JE fi).symm⟩
   obtain⟨s1,s2,s3,s4⟩:=st.init;refine⟨S,(xq h0 k S).mpr ⟨s1,by rw[Qj] at hl;exact xZ hl⟩,Qh.mpr ⟨c,QF.mpr ⟨s2,?_⟩,rfl⟩⟩;rw[Js];exact⟨X_<|QDz s3<|h0 c s2,by simpa using s4⟩
def QiU(hp:cs.Pairwise a_)(h0:∀p∈cs,0<=p.1):∀k,(fL cs k).Pairwise kL
 |0=>VX _ _
 |k+1=>by
  show((fL cs k).flatMap λS=>(aX cs S).map λc=>S++[c]).Pairwise kL;rw[Vb];refine⟨λS _=>?_,?_⟩
  ·exact Bs.mpr<|(Zj _ hp).imp λh=>VB S h
  ·refine YZ (λ{S T} hS hT h=>?_)<|QiU hp h0 k;intro x hx y hy;obtain⟨c,_,rfl⟩:=Qh.mp hx;obtain⟨d,_,rfl⟩:=Qh.mp hy;exact TZ c d (by rw[((xq h0 k S).mp hS).2,((xq h0 k T).mp hT).2]) h
def u4(h0:∀p∈cs,0<=p.1):∀(i:Nat)(L:List (Int×Int)),L∈fT cs i↔Std cs L/\∀p∈L,p.1<(i:Int)
 |0,L=>by
  constructor
  ·intro h;rw[Qo.mp h];exact⟨.nil,λp hp=>(nomatch hp)⟩
  ·rintro⟨s,h⟩;cases L with
   |nil=>exact .head _
   |cons a b=>
    have h1:=h a<|.head _;have h2:=h0 a<|s.sub a<|.head _;exact Z_ h1 (by omega)
 |i+1,L=>by
  show L∈fT cs i++(fT cs i).flatMap (me<|iJ cs i)↔_;rw[QP,Z7];constructor
  ·rintro(h | ⟨S,hS,hL⟩)
   ·obtain⟨a,b⟩:=(u4 h0 i L).mp h;exact⟨a,λp hp=>by have:=b p hp;omega⟩
   ·obtain⟨c,hc,hn,rfl⟩:=si.mp hL;obtain⟨a,b⟩:=(u4 h0 i S).mp hS;have hc:=QF.mp hc;have hr:=Y' hc.2;refine⟨a.snoc hc.1 (λp hp=>by rw[hr];exact b p hp) hn,λp hp=>?_⟩;rcases QP.mp hp with z | z
    ·have:=b p z;omega
    ·rw[Qo.mp z];omega
  ·rintro⟨s,h⟩;by_cases z:L=[]
   ·left
    rw[z];exact U2 cs i
   ·obtain⟨S,c,rfl⟩:∃T d,L=T++[d]:=⟨L.dropLast,L.getLast z,(JE z).symm⟩
    obtain⟨s1,s2,s3,s4⟩:=s.init;have hc:=h c (by simp);by_cases y:c.1=i
    ·right
     exact⟨S,(u4 h0 i S).mpr ⟨s1,λp hp=>by have:=s3 p hp;omega⟩,si.mpr ⟨c,QF.mpr ⟨s2,X_ y⟩,s4,rfl⟩⟩
    ·left
     refine(u4 h0 i _).mpr ⟨s,λp hp=>?_⟩;rcases QP.mp hp with q | q
     ·have:=s3 p q;omega
     ·rw[Qo.mp q];omega
def R3(nd:cs.Nodup)(h0:∀p∈cs,0<=p.1):∀i,(fT cs i).Nodup
 |0=>by show[([]:List (Int×Int))].Nodup;simp
 |i+1=>by
  have ih:=R3 nd h0 i;refine Zx.mpr ⟨ih,?_,λL hL M hM e=>?_⟩
  ·show List.Pairwise _ _;rw[Vb];refine⟨λS _=>?_,ih.imp λ{S T} fi x hx y hy e=>?_⟩
   ·unfold me;refine Bs.mpr<|(Zj _<|Zj _ nd).imp λ{c d} fi e=>fi ?_;have:=List.append_inj_right' e rfl
    simpa using this
   ·obtain⟨c,_,_,rfl⟩:=si.mp hx;obtain⟨d,_,_,rfl⟩:=si.mp hy;exact fi<|List.append_inj_left' e rfl
  ·obtain⟨S,hS,hM⟩:=Z7.mp hM;obtain⟨c,hc,_,rfl⟩:=si.mp hM;have hr:=Y' (QF.mp hc).2;have:=((u4 h0 i L).mp hL).2 c (by rw[e];simp);omega
end Rk
namespace Dl
open L2 _root_.Rd Rk
section
variable{X:Cx}{E:XK}{st:Zo}{we:DE}
end
end Dl
namespace Rk
open L2 _root_.Rd Dl Rt
structure GB (h w:Nat) (cs:List (Int×Int)):Prop where
 ja:ou h w cs
 kA:cs.Pairwise a_
 wI:(fT cs h).length<=200000
def GB.r0{h w:Nat}{cs:List (Int×Int)}(g:GB h w cs):∀p∈cs,0<=p.1:=λp hp=>(g.ja.2.2 p hp).1
def GB.rh(g:GB h w cs):∀p∈cs,p.1<(h:Int):=λp hp=>(g.ja.2.2 p hp).2.1
def Ub(g:GB h w cs)(k:Nat):(fL cs k).Perm ((fT cs h).filter λL=>L.length == k):=by
 have nd:=R3 (g.kA.imp jO) g.r0 h;have s2:=QiU g.kA g.r0 k;have n2:=QDb (λ{S T} z (e:S=T)=>Ll S (by rw[<- e] at z;exact z)) s2;refine(JN n2<|Zj _ nd).mpr λL=>?_
 rw[QF,xq g.r0,u4 g.r0];constructor
 ·rintro⟨a,b⟩;exact⟨⟨a,λp hp=>g.rh p<|a.sub p hp⟩,by simpa using b⟩
 ·rintro⟨⟨a,_⟩,b⟩;exact⟨a,by simpa using b⟩
def IK(g:GB h w cs)(k:Nat):((fL cs k).length:Int)=Wc cs h h 0 k:=by
 rw[<- QtS g.ja.nn];unfold MU;rw[(Ub g k).length_eq,List.countP_eq_length_filter]
def QBv(g:GB h w cs)(k:Nat):(fL cs k).length<=200000:=by
 rw[(Ub g k).length_eq];exact QK (Zk _ _) g.wI
def Ii:DF:=λargs R _=>∃S:List (Int×Int),args=[.v<|f6 S]/\R (.int<|fG S)
def QE1:DF:=λargs R _=>∃(h w:Nat)(cs S:List (Int×Int)),args=[.v<|bQ h w cs,.v<|f6 S]/\R (.list<|(aX cs S).map pairD)
def QxW{S:List (Int×Int)}(h:S.getLast? = some c):gb (S.map pairD) (-1)=some (pairD c):=by
 obtain⟨xs,rfl⟩:=List.getLast?_eq_some_iff.mp h
 rw[Q3];exact sf _ _
end Rk
namespace L2
section
variable{X:Cx}
end
end L2
namespace Dl
open L2 _root_.Rd Rk Rt
end Dl
namespace Rk
open L2 _root_.Rd Dl Rt
end Rk
namespace L2
open _root_.Rd
section
variable{X:Cx}
end
end L2
namespace Dl
open L2 _root_.Rd Rk Rt
section
variable{X:Cx}{E:XK}
end
end Dl
namespace Rk
open L2 _root_.Rd Dl Rt
def dh(cs:List (Int×Int)):Nat->List (Int×Int)->List (List (Int×Int))
 |0,S=>[S]
 |m+1,S=>(aX cs S).flatMap λc=>dh cs m<|S++[c]
def P9(cs:List (Int×Int)):∀(m j:Nat),(fL cs j).flatMap (dh cs m)=fL cs (j+m)
 |0,j=>by
  show(fL cs j).flatMap (λS=>[S])=fL cs j;rw[MD]
 |m+1,j=>by
  have h:=P9 cs m<|j+1;rw[show j+1+m=j+(m+1) by omega] at h;rw[<- h];show(fL cs j).flatMap (λS=>(aX cs S).flatMap λc=>dh cs m<|S++[c])=((fL cs j).flatMap λS=>(aX cs S).map λc=>S++[c]).flatMap (dh cs m);rw[List.flatMap_assoc];refine QgP λS _=>?_
  rw[LL]
def Uc(cs:List (Int×Int))(k:Nat):dh cs k []=fL cs k:=by
 have h:=P9 cs k 0;rw[Nat.zero_add] at h;rw[<- h];show _=[([]:List (Int×Int))].flatMap (dh cs k);simp
def Th(cs:List (Int×Int))(h:Nat):∀(i t:Nat),Wc cs h i t 0=1
 |0,_=>rfl
 |i+1,t=>by
  show Wc cs h i t 0+0=1;rw[Th cs h i t];rfl
def QCk(g:GB h w cs)(hT:∀p∈T,p∈cs)(m:Nat):∀i,i<=h->Wc cs h i (dG T) (m+1)=sumZ (λc=>Wc cs h (h - (c.1+1).toNat) (dG<|T++[c]) m) (cs.filter λc=>decide (((h - i:Nat):Int)<=c.1) && !decide (c.2∈T.map (·.2)))
 |0,_=>by
  have e:cs.filter (λc=>decide (((h - 0:Nat):Int)<=c.1) && !decide (c.2∈T.map (·.2)))=[]:=by
   rw[YK];intro c hc;have:=g.rh c hc;rw[X'<|by omega];exact Qw
  rw[e];rfl
 |i+1,hi=>by
  show Wc cs h i (dG T) (m+1)+(if m+1=0 then 0 else mh (Wc cs h i) (dG T) (kH cs<|h - 1 - i)<|m+1 - 1)=_;rw[X8<|by omega,L6,QCk g hT m i<|by omega,Y8,Y8];unfold kH iJ;rw[L4,Y8,<- Lx];refine sr λc hc=>?_
  have em:=KQ (λp hp=>g.ja.nn p<|hT p hp)<|g.ja.nn c hc;by_cases y:c.2∈T.map (·.2)
  ·have bt:(dG T).testBit c.2.toNat=true:=by rw[DL];exact X_<|em.mpr y
   rw[X_ y,bt];simp
  ·have bn:(dG T).testBit c.2.toNat=false:=by rw[DL];exact X' λq=>y<|em.mp q
   rw[X' y,bn];simp only[KP,QCC,Z',Mr,if_false];rw[DY];by_cases z:c.1=((h - 1 - i:Nat):Int)
   ·rw[X8<|by omega,show h - (c.1+1).toNat=i by omega];omega
   ·rw[X8 z,Yf];by_cases z2:((h - i:Nat):Int)<=c.1
    ·rw[X9 z2,X9<|by omega]
    ·rw[X8 z2,X8<|by omega]
def VA(g:α->List β):∀xs:List α,((xs.flatMap g).length:Int)=sumZ (λx=>((g x).length:Int)) xs
 |[]=>rfl
 |x::xs=>by
  rw[Zl,Qj];show _=((g x).length:Int)+sumZ _ xs;rw[<- VA g xs];omega
def UQ(S:List (Int×Int))(c:Int×Int):fG (S++[c])=c.1+1:=by
 unfold fG;rw[UO];rfl
def O_(g:GB h w cs)(st:Std cs S):0<=fG S/\fG S<=h:=by
 unfold fG;cases e:S.getLast? with
 |none=>exact⟨IB _,by show(0:Int)<=h;omega⟩
 |some d=>
  have hd:=st.sub d<|Ve e;have a:=g.r0 d hd;have b:=g.rh d hd;exact⟨by show 0<=d.1+1;omega,by show d.1+1<=h;omega⟩
def Dt(st:Std cs S)(hc:c∈aX cs S):Std cs (S++[c]):=by
 have hc:=QF.mp hc;have i7:=QH.mp hc.2;refine st.snoc hc.1 ?_ (by simpa using i7.2)
 rcases Vz st.rows with z | z | z
 ·exact z
 ·exact Z_ (Y' i7.1) z
 ·rw[z];exact λp hp=>(nomatch hp)
def UM(g:GB h w cs):∀(m:Nat)(S:List (Int×Int)),Std cs S->((dh cs m S).length:Int)=Wc cs h (h - (fG S).toNat) (dG S) m
 |0,S,_=>by rw[Th];rfl
 |m+1,S,st=>by
  have rb:=O_ g st;show(((aX cs S).flatMap λc=>dh cs m<|S++[c]).length:Int)=_;rw[VA,QCk g st.sub m _<|Nat.sub_le _ _];have e:(((h - (h - (fG S).toNat):Nat):Nat):Int)=fG S:=by omega
  rw[e];refine sr λc hc=>?_
  rw[UM g m (S++[c])<|Dt st hc,UQ]
def M4(f:Nat->Nat->Bool)(h6:h<=6)(w6:w<=6):GB h w (ae h w f):=by
 refine⟨⟨h6,w6,λp hp=>YI hp⟩,aE w f h,QK (Wd (λr=>QjI w h f r) h) ?_⟩;have c:(w+1)^h<=7^h:=Nat.pow_le_pow_left (by omega) _;have d:7^h<=7^6:=Bp (by decide) h6;have e:7^6=117649:=rfl;omega
def QAc(h1:a_ p q)(h2:a_ q r):a_ p r:=by
 rcases h1 with a | a<;>rcases h2 with b | b
 ·exact .inl (by omega)
 ·exact .inl (by omega)
 ·exact .inl (by omega)
 ·exact .inr (by omega)
def Qv9(g:GB h w cs)(st:Std cs L):L.length<=min h w:=by
 have m:=(u4 g.r0 h L).mpr ⟨st,λp hp=>g.rh p<|st.sub p hp⟩;have a:=L0 h L m;have b:=QnD g.ja.col m;omega
def VP(cs:List (Int×Int))(h w:Nat):∀(i j:Nat),j<=i->(jL cs h w i)[j]? = some (.list<|jK h w<|Wc cs h<|i - j)
 |0,0,_=>rfl
 |i+1,0,_=>rfl
 |i+1,j+1,hj=>by
  show(jL cs h w i)[j]? = _;rw[VP cs h w i j<|by omega,show i+1 - (j+1)=i - j by omega]
def QAA:∀t:Fin 64,∀c:Fin 6,(t:Nat).testBit c=false->(t:Nat) ||| 2^(c:Nat)=t+2^(c:Nat):=by decide
def SS{w:Nat}(w6:w<=6):∀{T S:List (Int×Int)},(∀p∈T++S,0<=p.2/\p.2<w)->((T++S).map (·.2)).Nodup->dG T<2^w->((dG T:Nat):Int)+(S.map λp=>(1*2^p.2.toNat:Int)).sum=((dG (T++S):Nat):Int)/\dG (T++S)<2^w
 |T,[],_,_,h=>by rw[J4];exact⟨by show _+0=_;omega,h⟩
 |T,c::S,hb,nd,h=>by
  have hc:=hb c (by simp);have NZ:2^w<=2^6:=Bp (by decide) w6;have e64:2^6=64:=rfl;have nt:(dG T).testBit c.2.toNat=false:=by
   rw[DL];refine X' λq=>?_
   have:=(KQ (λp hp=>(hb p<|Zb _ hp).1) hc.1).mp q;rw[Q3] at nd;exact(Zx.mp nd).2.2 _ this c.2 (.head _) rfl
  have eo:dG T ||| 2^c.2.toNat=dG T+2^c.2.toNat:=QAA ⟨dG T,by omega⟩ ⟨c.2.toNat,by omega⟩ nt;have lt:dG (T++[c])<2^w:=by rw[DY];exact QAy h (by omega)
  have e1:T++c::S=(T++[c])++S:=by simp
  have ih:=SS w6 (by rw[<- e1];exact hb) (by rw[<- e1];exact nd) lt;rw[e1];refine⟨?_,ih.2⟩;rw[<- ih.1,JU,List.sum_cons,DY];have:((2^c.2.toNat:Nat):Int)=2^c.2.toNat:=by simp
  omega
def OX:DF:=λargs R _=>∃(h w:Nat)(cs S:List (Int×Int))(k:Nat),args=[.v<|.list<|jL cs h w h,.v<|f6 S,.v<|.int k]/\GB h w cs/\Std cs S/\k<=h/\R (.int ((dh cs k S).length:Nat))
def Uh:DF:=λargs R _=>∃(h w:Nat)(cs S:List (Int×Int))(m n:Nat),args=[.v<|bQ h w cs,.v<|.list<|jL cs h w h,.v<|f6 S,.v<|.int m,.v<|.int n]/\GB h w cs/\Std cs S/\m<h/\n<(dh cs (m+1) S).length/\∀c (n':Nat),c∈aX cs S->n'<(dh cs m<|S++[c]).length->(dh cs (m+1) S)[n]? = (dh cs m<|S++[c])[n']? -> R (.tuple [pairD c,.int n'])
def Qyf(g:GB h w cs)(k:Nat):Wc cs h h 0 k=((fL cs k).length:Int):=(IK g k).symm
def iH(f:Nat->Nat->Bool):Nat->Nat->Bool:=λr c => !f r c
def SO(w:Nat)(f:Nat->Nat->Bool):∀h,r<h->iJ (ae h w f) r=dP r w f
 |h+1,hr=>by
  unfold iJ;rw[vv,Tx];have no:∀(q:Nat)(L:List (Int×Int)),(∀p∈L,p.1≠r)->L.filter (λp=>decide (p.1=(r:Int)))=[]:=λq L hL=>by
   rw[YK];intro p hp;rw[X'<|hL p hp];exact Qw
  by_cases z:r<h
  ·have ih:=SO w f h z;unfold iJ at ih;rw[ih,no 0 _ λp hp=>?_,J4];obtain⟨c,_,_,rfl⟩:=vj.mp hp;omega
  ·have e:r=h:=by omega
   subst e;rw[no 0 (ae r w f) λp hp=>?_,PD,EN.mpr λp hp=>?_]
   ·obtain⟨c,_,_,rfl⟩:=vj.mp hp;exact X_ rfl
   ·have:=(YI hp).2.1;omega
def QBW(f:Nat->Nat->Bool)(hr:r<h):kH (ae h w f) r=(Qv w).filter (f r):=by
 unfold kH;rw[SO w f h hr];unfold dP;rw[QD]
 conv=>rhs;rw[<- Iy ((Qv w).filter<|f r)]
 exact ZZ λc _=>by show((c:Int)).toNat=c;omega
abbrev Tb:=List<|List Int×Int
def cf(L:Tb):List (List Key×V):=L.map λp=>(p.1.map Ze,V.int p.2)
def dZ(L:Tb)(ks:List Int):Option Int:=(L.find? λp=>decide (p.1=ks)).map (·.2)
def kM(L:Tb)(ks:List Int)(v:Int):Tb:=if(L.any λp=>decide (p.1=ks))=true then L.map (λp=>if p.1=ks then(p.1,v) else p) else L++[(ks,v)]
def Du{b:List Int}:a.map (Ze:Int->Key)=b.map Ze↔a=b:=List.map_inj_right λ_ _ e=>Ku e
def AJ(ks:List Int):∀L:Tb,jc (cf L) (ks.map Ze)=(dZ L ks).map V.int
 |[]=>rfl
 |p::L=>by
  have ih:=AJ ks L;by_cases e:p.1=ks
  ·rw[show cf (p::L)=(p.1.map Ze,V.int p.2)::cf L from rfl,xW<|by rw[e]];unfold dZ;rw[My<|by simpa using e];rfl
  ·rw[show cf (p::L)=(p.1.map Ze,V.int p.2)::cf L from rfl,A9 λz=>e<|Du.mp z,ih];unfold dZ;rw[Mx<|by simpa using e]
def Qwv(L:Tb)(ks:List Int)(v:Int):gW (cf L) (ks.map Ze) (.int v)=cf (kM L ks v):=by
 have ea:((cf L).any λkv=>decide (kv.1=ks.map Ze))=L.any λp=>decide (p.1=ks):=by
  unfold cf;rw[vi]
  congr 1
  funext p
  exact decide_eq_decide.mpr Du
 unfold gW kM;rw[ea];split
 ·unfold cf;rw[QD,QD];refine ZZ λp _=>?_
  show(if p.1.map Ze=ks.map Ze then(p.1.map Ze,V.int v) else(p.1.map Ze,V.int p.2))=_;by_cases e:p.1=ks
  ·rw[X9<|Du.mpr e];show _=((if p.1=ks then(p.1,v) else p).1.map Ze,V.int (if p.1=ks then(p.1,v) else p).2);rw[X9 e]
  ·rw[X8 λz=>e<|Du.mp z];show _=((if p.1=ks then(p.1,v) else p).1.map Ze,V.int (if p.1=ks then(p.1,v) else p).2);rw[X8 e]
 ·unfold cf;rw[Q3];rfl
def Tw(φ:List Int->Int)(L:Tb):Int:=sumZ (λp=>p.2*φ p.1) L
def Ep(nd:(L.map (·.1)).Nodup)(h:p∈L):dZ L p.1=some p.2:=by
 induction L with
 |nil=>cases h
 |cons q L ih=>
  have nd:=JI.mp nd;unfold dZ;by_cases e:q.1=p.1
  ·rw[My<|by simpa using e];rcases Qt.mp h with z | z
   ·rw[z];rfl
   ·exact Z_ (by show q.1∈_;rw[e];exact Qh.mpr ⟨p,z,rfl⟩) nd.1
  ·rw[Mx<|by simpa using e];rcases Qt.mp h with z | z
   ·exact Z_ (by rw[z]) e
   ·exact ih nd.2 z
def Qpu(h:(L.any λp=>decide (p.1=ks))=false):dZ L ks=none:=by
 unfold dZ;rw[List.find?_eq_none.mpr λp hp z=>by
  rw[S3] at h;exact h p hp z]
 rfl
def Qr8(L:Tb)(ks:List Int)(v:Int):∀p∈kM L ks v,p.1=ks∨p.1∈L.map (·.1):=λp hp=>by
 unfold kM at hp;split at hp
 ·obtain⟨q,hq,rfl⟩:=Qh.mp hp;right
  refine Qh.mpr ⟨q,hq,?_⟩;split<;>rfl
 ·rcases QP.mp hp with z | z
  ·exact .inr<|Qh.mpr ⟨p,z,rfl⟩
  ·rw[Qo.mp z];exact .inl rfl
def Qz9(nd:(L.map (·.1)).Nodup)(ks:List Int)(v:Int):((kM L ks v).map (·.1)).Nodup:=by
 unfold kM;split
 ·rw[QD];have:((λp:List Int×Int=>p.1)∘λp=>if p.1=ks then(p.1,v) else p)=λp=>p.1:=by
   funext p
   show(if p.1=ks then(p.1,v) else p).1=p.1;split<;>rfl
  rw[this];exact nd
 ·rename_i h
  rw[Q3];refine Zx.mpr ⟨nd,JI.mpr ⟨Jy,Bm⟩,λa ha b hb e=>h ?_⟩;rw[J5];obtain⟨p,hp,rfl⟩:=Qh.mp ha;refine⟨p,hp,?_⟩;have hb:b=ks:=Qo.mp hb;rw[Z',<- hb];exact e
def Qwu(φ:List Int->Int)(ks:List Int)(n:Int):∀{L:Tb},(L.map (·.1)).Nodup->Tw φ (kM L ks<|(dZ L ks).getD 0+n)=Tw φ L+n*φ ks:=by
 intro L nd;by_cases z:(L.any λp=>decide (p.1=ks))=true
 ·unfold kM;rw[X9 z];generalize hv:(dZ L ks).getD 0+n=v;have key:∀M:Tb,(M.map (·.1)).Nodup->(∀p∈M,p.1=ks->p.2+n=v)->(M.any λp=>decide (p.1=ks))=true->Tw φ (M.map λp=>if p.1=ks then(p.1,v) else p)=Tw φ M+n*φ ks:=λM=>by
   induction M with
   |nil=>intro _ _ h;cases h
   |cons p M ih=>
    intro nd hm h;have nd:=JI.mp nd;show(if p.1=ks then(p.1,v) else p).2*φ (if p.1=ks then(p.1,v) else p).1+Tw φ (M.map λp=>if p.1=ks then(p.1,v) else p)=p.2*φ p.1+Tw φ M+n*φ ks;by_cases e:p.1=ks
    ·rw[X9 e];have:(M.map λp=>if p.1=ks then(p.1,v) else p)=M:=by
      conv=>rhs;rw[<- Iy M]
      refine ZZ λq hq=>X8 λz=>nd.1 ?_
      show p.1∈_;rw[e,<- z];exact Qh.mpr ⟨q,hq,rfl⟩
     rw[this,<- hm p (.head _) e];rw[e,Int.add_mul];omega
    ·rw[X8 e,ih nd.2 (λq hq=>hm q<|.tail _ hq) (by
      rw[Y3,X' e] at h;exact h)]
     omega
  refine key L nd (λp hp e=>?_) z;have:=Ep nd hp;rw[e] at this;rw[this] at hv;exact hv
 ·have z:=Y4.mpr z;rw[Qpu z];unfold kM;rw[X8 (by rw[z];exact Qw)];show sumZ _ (L++[(ks,0+n)])=_;rw[pH];show _+((0+n)*φ ks+0)=_;unfold Tw;rw[Ye];omega
def Io:List Int->List (List Int)
 |[]=>[[]]
 |x::xs=>(Io xs).map (x::·)++Io xs
def kF:List (List Int):=Io [0,1,2,3,4,5]
def insI(c:Int):List Int->List Int
 |[]=>[c]
 |x::xs=>if c<=x then c::x::xs else x::insI c xs
def lE(ks:List Int):Nat:=ks.foldr (λc t=>t ||| 2^c.toNat) 0
def insI_perm(c:Int):∀ks:List Int,(insI c ks).Perm (ks++[c])
 |[]=>LN _
 |x::xs=>by
  unfold insI;split
  ·exact(List.perm_append_singleton c (x::xs)).symm
  ·exact(insI_perm c xs).cons x
def QtD:∀ks∈kF,ks.Pairwise (·<=·):=by decide
def Lg:∀ks∈kF,∀c∈([0,1,2,3,4,5]:List Int),c∉ks->insI c ks∈kF/\lE (insI c ks)=lE ks ||| 2^c.toNat/\(insI c ks).length=ks.length+1:=by decide
def Qyc:∀ks∈kF,∀c∈([0,1,2,3,4,5]:List Int),(lE ks).testBit c.toNat=decide (c∈ks):=by decide
def P':∀ks∈kF,∀c∈ks,c∈([0,1,2,3,4,5]:List Int):=by decide
def Lh:∀w:Fin 7,∀ks∈kF,(∀c∈ks,c<(w:Nat))->ks.length<=w:=by decide
def w4(ks:List Int):Int:=reduceHash<|QDh<|ks.map hashInt
def QtE:(kF.map w4).Nodup:=by decide
def Qtx(P:QB)(w:Jh)(ks:List Int):Xy (aq P w) (ks.map Ze)=w4 ks:=by
 unfold Xy w4;rw[QD];rfl
def I_(h0:0<=c)(h6:c<6):c∈([0,1,2,3,4,5]:List Int):=by
 have:c=0∨c=1∨c=2∨c=3∨c=4∨c=5:=by omega
 rcases this with rfl | rfl | rfl | rfl | rfl | rfl<;>decide
def QrW(hk:ks∈kF)(hc:c∈([0,1,2,3,4,5]:List Int))(hn:c∉ks)(p:ms.Perm<|ks++[c])(s:ms.Pairwise (·<=·)):ms=insI c ks:=
 Yd (λa b _ _ h1 h2=>Int.le_antisymm h1 h2) s (QtD _ (Lg ks hk c hc hn).1) (p.trans (insI_perm c ks).symm)
structure be (r w:Nat) (L:Tb):Prop where
 nd:(L.map (·.1)).Nodup
 mem:∀p∈L,p.1∈kF/\p.1.length<=r/\∀c∈p.1,c<(w:Int)
def QiC{l:List α}(h:(l.map f).Nodup):∀{a b:α},a∈l->b∈l->f a=f b->a=b:=by
 induction l with
 |nil=>intro a b ha;cases ha
 |cons x l ih=>
  intro a b ha hb e;have h:=JI.mp h;rcases Qt.mp ha with z | z
  ·rcases Qt.mp hb with y | y
   ·rw[z,y]
   ·exact Z_ (by rw[<- z,e];exact Qh.mpr ⟨b,y,rfl⟩) h.1
  ·rcases Qt.mp hb with y | y
   ·exact Z_ (by rw[<- y,<- e];exact Qh.mpr ⟨a,z,rfl⟩) h.1
   ·exact ih h.2 z y e
def QiD:∀{l:List α},l.Nodup->(∀a∈l,∀b∈l,f a=f b->a=b)->(l.map f).Nodup
 |[],_,_=>Bm
 |x::l,h,q=>by
  have h:=JI.mp h;refine JI.mpr ⟨λz=>h.1 ?_,QiD h.2 λa ha b hb=>q a (.tail _ ha) b<|.tail _ hb⟩;obtain⟨y,hy,e⟩:=Qh.mp z;rw[q x (.head _) y (.tail _ hy) e.symm];exact hy
def be.h9(t:be r w L)(P:QB)(W:Jh):L2.h9 (cf L) P W:=by
 unfold L2.h9 cf;rw[QD];have e:((λp:List Key×V=>Xy (aq P W) p.1)∘λp:List Int×Int=>(p.1.map Ze,V.int p.2))=λp=>w4 p.1:=by
  funext p
  exact Qtx P W p.1
 rw[e];have e2:(L.map λp=>w4 p.1)=(L.map (·.1)).map w4:=by rw[QD];rfl
 rw[e2];refine QiD t.nd λa ha b hb he=>?_
 obtain⟨p,hp,rfl⟩:=Qh.mp ha;obtain⟨q,hq,rfl⟩:=Qh.mp hb;exact QiC QtE (t.mem p hp).1 (t.mem q hq).1 he
def Ds(L:Tb):(cf L).length=L.length:=Qb _
def be.len(t:be r w L):L.length<=64:=by
 have key:∀(M N:List<|List Int),M.Nodup->(∀x∈M,x∈N)->M.length<=N.length:=λM=>by
  induction M with
  |nil=>intro N _ _;exact Q9 _
  |cons x M ih=>
   intro N nd h;have nd:=JI.mp nd;have:=ih (N.erase x) nd.2 λy hy=>(List.mem_erase_of_ne λe:y=x=>nd.1 (by rw[<- e];exact hy)).mpr<|h y<|.tail _ hy
   have a:=Qjy<|h x<|.head _;have b:=MG<|h x<|.head _;rw[Qz];omega
 have:=key (L.map (·.1)) kF t.nd λx hx=>by
  obtain⟨p,hp,rfl⟩:=Qh.mp hx;exact(t.mem p hp).1
 rw[Qb] at this;exact this
def be.put{r w:Nat}{L:Tb}(t:be r w L){ks:List Int}(hk:ks∈kF/\ks.length<=r/\∀c∈ks,c<(w:Int))(v:Int):be r w (kM L ks v):=by
 refine⟨Qz9 t.nd ks v,λp hp=>?_⟩;rcases Qr8 L ks v p hp with z | z
 ·rw[z];exact hk
 ·obtain⟨q,hq,e⟩:=Qh.mp z;rw[<- e];exact t.mem q hq
def be.mono(t:be r w L):be (r+1) w L:=⟨t.nd,λp hp=>⟨(t.mem p hp).1,Es (t.mem p hp).2.1,(t.mem p hp).2.2⟩⟩
def Nx(f:Nat->Nat->Bool)(r:Nat)(φ:List Int->Int)(ks:List Int)(w:Nat):Int:=sumZ (λc:Nat=>if(f r c && !decide ((c:Int)∈ks))=true then φ (insI c ks) else 0)<|Qv w
def Ph(f:Nat->Nat->Bool)(h w r k:Nat)(ks:List Int):Int:=if ks.length<=k then Wc (ae h w f) h (h - r) (lE ks) (k - ks.length) else 0
def Ly(F:α->Int)(p:α->Bool):∀l:List α,sumZ F (l.filter p)=sumZ (λx=>if p x=true then F x else 0) l
 |[]=>rfl
 |x::l=>by
  rw[Rp];by_cases z:p x=true
  ·rw[X9 z];show F x+_=(if p x=true then F x else 0)+_;rw[X9 z,Ly F p l]
  ·rw[X8 z];show _=(if p x=true then F x else 0)+_;rw[X8 z,Ly F p l];omega
def R6(B:Nat->Nat->Int)(t k:Nat):∀cs:List Nat,mh B t cs k=sumZ (λc=>if t.testBit c=true then 0 else B (t ||| 2^c) k) cs
 |[]=>rfl
 |c::cs=>by show _+mh B t cs k=_+_;rw[R6 B t k cs]
def pL:∀{l:List α},(∀x∈l,F x=G x)->sumZ F l=sumZ G l
 |[],_=>rfl
 |x::l,h=>by show F x+_=G x+_;rw[h x<|.head _,pL λy hy=>h y<|.tail _ hy]
def QyJ(w6:w<=6)(hr:r<h)(hk:ks∈kF):Ph f h w r k ks=Ph f h w (r+1) k ks+Nx f r (Ph f h w (r+1) k) ks w:=by
 have eh:h - r=(h - (r+1))+1:=by omega
 have er:h - 1 - (h - (r+1))=r:=by omega
 have go:∀c∈Qv w,(if(f r c && !decide ((c:Int)∈ks))=true then Ph f h w (r+1) k (insI c ks) else 0)=if f r c=true then(if(lE ks).testBit c=true then 0 else if ks.length+1<=k then Wc (ae h w f) h (h - (r+1)) (lE ks ||| 2^c) (k - (ks.length+1)) else 0) else 0:=λc hc=>by
  have hc:=Jl.mp hc;have h6:=I_ (c:=c) (by omega) (by omega);have hb:=Qyc ks hk c h6;rw[Qx] at hb;rw[hb];by_cases z:f r c=true
  ·rw[z];by_cases y:(c:Int)∈ks
   ·rw[X_ y];rfl
   ·rw[X' y];obtain⟨_,e1,e2⟩:=Lg ks hk c h6 y;unfold Ph;rw[e1,e2];rfl
  ·have z:=Y4.mpr z;rw[z];rfl
 unfold Nx;rw[pL go];unfold Ph;by_cases l:ks.length<=k
 ·rw[X9 l,X9 l,eh];show nQ (Wc (ae h w f) h<|h - (r+1)) (kH (ae h w f)<|h - 1 - (h - (r+1))) (lE ks) (k - ks.length)=_;unfold nQ;rw[er,QBW f hr,R6,Ly]
  congr 1
  by_cases l2:k - ks.length=0
  ·rw[X9 l2];have l3:¬ks.length+1<=k:=by omega
   symm
   have:∀c∈Qv w,(if f r c=true then(if(lE ks).testBit c=true then 0 else if ks.length+1<=k then Wc (ae h w f) h (h - (r+1)) (lE ks ||| 2^c) (k - (ks.length+1)) else 0) else 0)=0:=λc _=>by
    rw[X8 l3];split
    ·split<;>rfl
    ·rfl
   rw[pL this];generalize Qv w=l;induction l with
   |nil=>rfl
   |cons x l ih=>show 0+_=0;rw[ih];rfl
  ·rw[X8 l2];refine pL λc _=>?_
   rw[X9 (by omega:ks.length+1<=k),show k - ks.length - 1=k - (ks.length+1) by omega]
 ·rw[X8 l,X8 l];have l3:¬ks.length+1<=k:=by omega
  have:∀c∈Qv w,(if f r c=true then(if(lE ks).testBit c=true then 0 else if ks.length+1<=k then Wc (ae h w f) h (h - (r+1)) (lE ks ||| 2^c) (k - (ks.length+1)) else 0) else 0)=0:=λc _=>by
   rw[X8 l3];split
   ·split<;>rfl
   ·rfl
  rw[pL this]
  symm
  rw[Ye];generalize Qv w=l;induction l with
  |nil=>rfl
  |cons x l ih=>show 0+_=0;rw[ih];rfl
def QEv(h:∀p∈L,φ p.1=ψ p.1):Tw φ L=Tw ψ L:=pL λp hp=>by rw[h p hp]
def RF(φ ψ:List Int->Int):∀L:Tb,Tw (λks=>φ ks+ψ ks) L=Tw φ L+Tw ψ L
 |[]=>rfl
 |p::L=>by
  show p.2*(φ p.1+ψ p.1)+Tw (λks=>φ ks+ψ ks) L=p.2*φ p.1+Tw φ L+(p.2*ψ p.1+Tw ψ L);rw[RF φ ψ L,Int.mul_add];omega
section
variable(K:Ws)(P:QB)(W:Jh)(u:Nat)
def o3(i:Int):TE:=cY (Ng K) (Yu 0)<|tC<|.int i
def Cv:TS:=Na (M_ (Am<|cY (Fn u false) (uL<|ZM (Yu 2)<|ZM (Yu 5) bD)<|o3 K 2)<|Am<|cY (yG K true) (Yu 5)<|Yu 4)
 (gY (fU (fZ (Dy K)<|ZM (fZ (Kh K)<|ZM (cY C3 (Yu 4)<|uL<|ZM (Yu 5) bD) bD) bD)<|Yj 6)<|Ij (Yu 3) (Yu 6)<|cY (dU λi j=>V.int<|i+j) (IX (Yu 3) (Yu 6)<|tC<|V.int 0)<|xg (Yu 1)<|Yu 4) Ip
def Cw:TS:=gp (CJ<|ZM (o3 K 1) bD) (Yj 5)<|Cv K u
def o1:TS:=gY (fU (fZ (Kg P W)<|ZM (Yu 1) bD)<|Yj 3)<|gY (gp (Ab<|Yu 1) (Yj 4)<|Cw K u)<|fU (Yu 3)<|Yj 1
def Fc:TE:=fZ (λxs H Q=>∃p ys,xs=[V.ref p]/\(aA K H p ys∨aM K H p ys)/\Q (V.int ys.length) H)<|ZM (Yu 4) bD
def l6:TS:=fU (cY (dU λi j=>V.int<|i+j) (cY (qZ K) (Yu 7)<|Fc K)<|xg (Yu 1)<|Yu 4)<|oR (Yu 7) (Fc K) An
def z4:TS:=gY (fU (IY (uL bD)<|tC<|V.int 1)<|Yj 1) (gY (gp (CJ<|ZM (o3 K 0) bD) (Yj 2)<|o1 K P W u)
 (gY (fU (cY Ih (Ak<|ZM (tC<|V.int 0) bD)<|cY (dU λi j=>V.int<|i+j) (fZ (λxs H Q=>∃i j,xs=[V.int i,V.int j]/\Q (V.int<|if j<i then j else i) H)<|ZM (o3 K 0)<|ZM (o3 K 1) bD)<|tC<|V.int 1)<|Yj 7)
  (gY (gp (Ab<|Yu 1) (Yj 4)<|l6 K)<|Nb<|Yu 7)))
end
def Kb(e:Xb)(H H':Hp):Prop:=∀a o,a≠e->H a=some o->H' a=some o
def nj(f:Nat->Nat->Bool)(r:Nat)(ks:List Int)(n:Int)(c:Nat)(L:Tb):Tb:=if(f r c && !decide ((c:Int)∈ks))=true then kM L (insI c ks) ((dZ L<|insI c ks).getD 0+n) else L
structure Bf (H:Hp) (b:Xb) (h w:Nat) (f:Nat->Nat->Bool):Prop where
 at_:∃c ps,H b=some (.tup [.int h,.int w,.ref c])/\H c=some (.tup ps)/\aP H ps ((ae h w f).map pairD)
def Bf.of{h w:Nat}(q:Dat H (.ref b)<|bQ h w<|ae h w f):Bf H b h w f:=by
 cases q with
 |tup e q=>cases q with
  |cons q1 q=>cases q with
   |cons q2 q=>cases q with
    |cons q3 q=>
     cases q;cases q1;cases q2;cases q3 with
     |tup e2 q2=>exact⟨_,_,e,e2,q2⟩
def Bf.same(x:Bf H b h w f)(s:ag H H'):Bf H' b h w f:=by
 obtain⟨c,ps,e1,e2,q⟩:=x.at_;exact⟨c,ps,s _ _ e1,s _ _ e2,q.same s⟩
def QzB(w6:w<=6)(hc:c<w)(t1:be r w L)(hk:(ks,n)∈L)(t2:be (r+1) w L'):be (r+1) w (nj f r ks n c L'):=by
 unfold nj;split
 ·rename_i z
  have z:=QH.mp z;have z2:(c:Int)∉ks:=by simpa using z.2
  obtain⟨hf,hl,hb⟩:=t1.mem _ hk;obtain⟨g1,g2,g3⟩:=Lg ks hf c (I_ (by omega)<|by omega) z2;refine t2.put ⟨g1,by rw[g3];exact PL hl,λx hx=>?_⟩ _;rcases QP.mp ((insI_perm c ks).mem_iff.mp hx) with y | y
  ·exact hb x y
  ·rw[Qo.mp y];omega
 ·exact t2
def Qv7(t2:be (r+1) w L')(φ:List Int->Int):Tw φ (nj f r ks n c L')=Tw φ L'+n*(if(f r c && !decide ((c:Int)∈ks))=true then φ (insI c ks) else 0):=by
 unfold nj;split
 ·exact Qwu φ (insI c ks) n t2.nd
 ·rw[DQ];omega
def Qv8(f:Nat->Nat->Bool)(r:Nat)(ks:List Int)(n:Int)(c:Nat)(L:Tb):L.length<=(nj f r ks n c L).length:=by
 unfold nj kM;split
 ·split
  ·rw[Qb];exact Qd _
  ·rw[Qj];exact EF _ _
 ·exact Qd _
def Kb.trans(a:Kb e H H1)(b:Kb e H1 H2):Kb e H H2:=λx o n h=>b x o n<|a x o n h
def Kb.base{e:Xb}{H0 H H':Hp}(s:ag H0 H)(n:H0 e=none)(k:Kb e H H'):ag H0 H':=λb o h=>k b o (λz=>by rw[z,n] at h;cases h)<|s b o h
def colS(f:Nat->Nat->Bool)(r:Nat)(φ:List Int->Int)(ks:List Int)(j:Nat):Int:=sumZ (λc:Nat=>if(f r c && !decide ((c:Int)∈ks))=true then φ (insI c ks) else 0)<|Qv j
def Vs{g:TG}{tb:TS}{D:Ends}(Pv:Nat->L2.St->Hp->Prop)(h0:Pv 0 σ H)(hl:∀i σ H,Pv i σ H->H d=some (.cE o<|.dT kvs))
  (hs:∀i p b σ H,kvs[i]? = some p->H b=some (.tup<|p.1.map kV)->Pv i σ H->g (.ref b) σ H λσ2 H2=>tb { D with nx:=Pv<|i+1,ct:=Pv<|i+1,bk:=D.nx } σ2 H2)(hd:∀σ H,Pv kvs.length σ H->D.nx σ H) :
  ∃W:Nat->Nat->L2.St->Hp->Prop,(∃m,W 0 m σ H)/\∀i m σ H,W i m σ H ->
   ((BG d o kvs).stop i H/\D.nx σ H)∨((BG d o kvs).go i H/\∃N:L2.St->Hp->Prop,(∀σ' H',N σ' H'->∃m',m'<m/\W (i+1) m' σ' H')/\∀x H',(BG d o kvs).ow i H x H'->g x σ H' λσ2 H2=>tb { D with nx:=N,ct:=N,bk:=D.nx } σ2 H2):=by
 refine⟨λi m σ H=>m=kvs.length - i/\i<=kvs.length/\Pv i σ H,⟨kvs.length,by simp,Q9 _,h0⟩,?_⟩;rintro i m σ H ⟨rfl,hi,p⟩;have q:=hl i σ H p;by_cases lt:i<kvs.length
 ·refine .inr ⟨⟨q,lt⟩,Pv<|i+1,λσ' H' p'=>⟨kvs.length - (i+1),by omega,rfl,lt,p'⟩,λx H' y=>?_⟩;obtain⟨rfl,kv,b,e1,rfl,e2⟩:=y;exact hs i kv b σ _ e1 e2 p
 ·obtain rfl:i=kvs.length:=by omega
  exact .inl ⟨⟨q,Qd _⟩,hd σ H p⟩
def P6{i:Nat}(h:(cf L)[i]? = some p):∃ks n,L[i]? = some (ks,n)/\p=(ks.map Ze,V.int n):=by
 unfold cf at h;rw[Qq] at h;cases z:L[i]? with
 |none=>rw[z] at h;cases h
 |some q=>rw[z] at h;cases h;exact⟨q.1,q.2,rfl,rfl⟩
def bM(f:Nat->Nat->Bool)(h w:Nat):List Int:=(Qv<|min h w+1).map λk=>Wc (ae h w f) h h 0 k
def l7(L:Tb)(k:Nat):Int:=sumZ (λp=>if p.1.length=k then p.2 else 0) L
def iK(m:Nat)(L:Tb):List Int:=(Qv<|m+1).map<|l7 L
def QCp(f:Nat->Nat->Bool)(h w k:Nat)(ks:List Int):Ph f h w h k ks=if ks.length=k then 1 else 0:=by
 unfold Ph;rw[Kr];by_cases z:ks.length<=k
 ·rw[X9 z];show(if k - ks.length=0 then 1 else 0)=_;by_cases y:ks.length=k
  ·rw[X9 y,X9<|by omega]
  ·rw[X8 y,X8<|by omega]
 ·rw[X8 z,X8<|by omega]
def QB2(f:Nat->Nat->Bool)(h w k:Nat)(L:Tb):Tw (Ph f h w h k) L=l7 L k:=by
 refine pL λp _=>?_
 rw[QCp];split
 ·rw[Int.mul_one]
 ·rw[DQ]
def DC(h:k<=m):(iK m L)[k]? = some (l7 L k):=by
 unfold iK;rw[Qq,JP<|by omega];rfl
def xU(m:Nat)(L:Tb):(iK m L).length=m+1:=by unfold iK;rw[Qb,Q5]
def V2:(iK m L).set p.1.length (l7 L p.1.length+p.2)=iK m (L++[p]):=by
 refine Rn (by rw[Zn,xU,xU]) λk h1 h2=>?_
 rw[Zn,xU] at h1;have a:(iK m<|L++[p])[k]? = some (l7 (L++[p]) k):=DC (by omega);have b:(iK m L)[k]? = some (l7 L k):=DC (by omega);have ea:l7 (L++[p]) k=l7 L k+(if p.1.length=k then p.2 else 0):=by
  unfold l7;rw[pH];show _+(_+0)=_;rw[Yf]
 rw[Qc h2] at a;rw[QL a,ea,List.getElem_set];rw[Qc (by rw[xU];omega)] at b;split
 ·rename_i z
  rw[<- z]
 ·rename_i z
  rw[QL b,Yf]
def jF{K:Ws}(hd:H d=some (.cE o<|.dT<|cf L))(hg:H g=some (.lst<|(iK m M).map V.int))(ht:H t=some (.tup<|ks.map V.int))(hk:(ks,n)∈L)(nd:(L.map (·.1)).Nodup)(hm:ks.length<=m)
  (hN:D.nx [some<|.ref b,some<|.ref d,x2,x3,some<|.ref t,x5,x6,some<|.ref g]<|upd H g<|.lst<|(iK m<|M++[(ks,n)]).map V.int) :
  l6 K D [some<|.ref b,some<|.ref d,x2,x3,some<|.ref t,x5,x6,some<|.ref g] H:=by
 have ek:(ks.map (Ze:Int->Key)).map kV=ks.map V.int:=by rw[QD];rfl
 have gd:cJ H d (.ref t) (some<|.int n):=.inr ⟨cf L,ks.map Ze,t,.inr ⟨o,hd⟩,rfl,by rw[ek];exact ht,by rw[AJ,Ep nd hk];rfl⟩;have lm:(ks.map V.int).length=ks.length:=Qb _;refine⟨_,rfl,_,rfl,t,_,rfl,.inr<|aM.of ht,g,_,_,_,rfl,rfl,aA.of hg,by rw[lm];exact QX (by rw[Qq,DC hm];rfl),_,rfl,_,rfl,d,_,rfl,gd,l7 M ks.length,n,rfl,rfl,?_⟩;refine⟨_,rfl,_,rfl,t,_,rfl,.inr<|aM.of ht,g,_,_,ks.length,rfl,rfl,hg,by rw[lm];exact AR (by rw[Qb,xU];omega),?_⟩;rw[<- QC9,V2 (p:=(ks,n))];exact hN
def Qr0(m:Nat):(Jc (m+1) [V.int 0]).flatten=(iK m []).map V.int:=by
 unfold iK;rw[QD];generalize m+1=n;induction n with
 |zero=>rfl
 |succ n ih=>rw[List.replicate_succ',Mq,ih,yh,Q3];rfl
end Rk
namespace Dl
open L2 _root_.Rd Rk
section
variable{X:Cx}{E:XK}{we:DE}{i:Nat}
def xm(we:DE)(i:Nat):DS:=λD δ=>match δ[i]? with
 |some (.own ds)=>we δ (λd=>D.rt<|.tuple [d,.list ds]) D.ex
 |_=>False
def Qox{x1}(he:PE X e<|tX .D X.K E we)(hf:PE X f<|Yu i)(h1:notStar e=true)(h2:notStar f=true):PS X (.Return (some<|.Tuple [e,f] x1 cM) pos) (tS X.K E<|xm we i):=by
 refine PS.imp (JZ<|YY<|Y6 he (Y6 hf Qu h2) h1) λD σ H ⟨F,δ,DD,rel,hw,en⟩=>?_
 unfold xm at hw;split at hw
 ·rename_i ds hd
  obtain⟨x,hx⟩:=rel.lt hd;refine⟨F,δ,_,DD.ex,rel,hw,λd dB v H1 aF kp vk=>?_,en.ex⟩;obtain⟨l,xs,rfl,e,q,f⟩:=aF.sl i _ _ hx hd;refine⟨_,hx,by show 2<=1000;decide,λa H2 s2 n2 e2=>?_⟩;have aN:=aF.same s2;refine en.rt _ dB _ H2 aN.ke<|.tup (λz=>?_) e2<|.cons (CU<|DA.same vk s2)<|.cons (.lst (λz=>?_) (s2 _ _ e)<|(q.same s2).mv (λ_ _ _ e=>e) λa z=>.inl<|.inl z) .nil
  ·obtain⟨ys,e'⟩:=aF.i_ a z;rw[n2] at e';cases e'
  ·obtain⟨ys,e'⟩:=rel.cz l z;rw[f] at e';cases e'
 ·exact hw.elim
def V0(i:Nat){x1}(he:QE .D X E e we)(hN:X.N[i]? = some x:=by rfl)(hv:gU X.env.scope x:=by first | exact QM rfl | exact QV (QM rfl) | exact QV<|QV rfl)(hd:(x == ("__debug__" : Str))=false:=by decide)(bG:(x == ("__classdict__" : Str))=false:=by decide)(h1:notStar e=true:=by rfl) :
  QS X E (.Return (some<|.Tuple [e,.Name x bo] x1 cM) pos) (xm we i):=⟨Qox he.h (pv i hN hv hd bG) h1 rfl⟩
def wY(k1 k2:Str)(p q r s:Xc)(x:Str)(y:Bool):Option Xc:=if x=k1 then some (if y then q else p) else if x=k2 then some (if y then s else r) else none
def M1(k1 k2:Str)(p q r s:Xc)(i j:Nat):DE:=λδ Q _=>match δ[i]?,δ[j]? with
 |some (.v<|.str x),some (.v<|.bool y)=>match wY k1 k2 p q r s x y with
  |some d=>Q d
  |none=>False
 |_,_=>False
def QAi(hp:∀A H,DA A H p dp)(hq:∀A H,DA A H q dq)(hr:∀A H,DA A H r dr)(hs:∀A H,DA A H s ds)(hk:k1≠k2)
  (h:PE X e<|cY (qZ X.K) (xg (OU [(tC<|.str k1,Ak<|ZM (tC p)<|ZM (tC q) bD),(tC<|.str k2,Ak<|ZM (tC r)<|ZM (tC s) bD)])<|Yu i)<|fZ Ig<|ZM (Yu j) bD):PE X e (tX .D X.K E<|M1 k1 k2 dp dq dr ds i j):=by
 refine PE.imp h λσ H Q ⟨F,δ,R,EX,rel,hw,k,o⟩=>?_
 unfold M1 at hw;split at hw
 ·rename_i x y hx hy
  split at hw
  ·rename_i d hd
   obtain⟨vx,Oj⟩:=rel.lt hx;obtain⟨vy,Oi⟩:=rel.lt hy;obtain⟨vx',rfl,qx⟩:=rel.sl i _ _ Oj hx;obtain⟨vy',rfl,qy⟩:=rel.sl j _ _ Oi hy;cases qx;cases qy;intro a na;refine⟨by show 2<=1000;decide,λl1 H1 s1 n1 e1=>⟨by show 2<=1000;decide,λl2 H2 s2 n2 e2=>?_⟩⟩;have eG:=s1.trans s2;have s0:ag H (upd H a<|.dK []):=λb u hb=>by rw[QY<|QN hb na];exact hb
   have ea:=eG _ _ (af);have kx:∀u,ag H (upd H2 a u):=λu b v hb=>by rw[QY<|QN hb na];exact eG _ _<|s0 _ _ hb
   have a1:=YB (s2 _ _ e1) ea nofun;have a2:=YB e2 ea nofun;have em:uW [] [(JM k1,.ref l1),(JM k2,.ref l2)]=[((JM k1:Key),V.ref l1),(JM k2,V.ref l2)]:=by
    show(if([((JM k1:Key),V.ref l1)].any λkv=>decide (kv.1=JM k2))=true then _ else _)=_;rw[X8<|by simp[hk]];rfl
   refine⟨ea,[(JM k1,.ref l1),(JM k2,.ref l2)],rfl,by show 2<=15;decide,_,Oj,a,?_⟩;rw[em];have g:=cJ.k (k:=JM x) (af:upd H2 a (.dK [((JM k1:Key),V.ref l1),(JM k2,V.ref l2)]) a=_);have fin:∀(l:Xb)(u v:V)(du dv:Xc),l≠a->H2 l=some (.lst [u,v])->(∀A H,DA A H u du)->(∀A H,DA A H v dv)->d=(if y=true then dv else du)->jc [((JM k1:Key),V.ref l1),(JM k2,V.ref l2)] (JM x)=some (.ref l) ->
     ∃w,V.ref a=.ref a/\cJ (upd H2 a<|.dK [((JM k1:Key),V.ref l1),(JM k2,V.ref l2)]) a (.str x) (some w)/\fZ Ig (ZM (Yu j) bD) σ (upd H2 a<|.dK [((JM k1:Key),V.ref l1),(JM k2,V.ref l2)]) λz H3=>qZ X.K w z H3 Q:=by
    intro l u v du dv nl el hu hv ed ev;refine⟨.ref l,rfl,by rw[<- ev];exact g,_,Oi,.inr ⟨y,rfl,?_⟩⟩;have OF:(upd H2 a<|.dK [((JM k1:Key),V.ref l1),(JM k2,V.ref l2)]) l=some (.lst [u,v]):=by rw[QY nl];exact el
    cases y with
    |true=>exact⟨l,_,_,v,rfl,rfl,aA.of OF,QX rfl,k d hw v _ (rel.same<|kx _) (Kp.same rel<|kx _) (by rw[ed];exact hv _ _)⟩
    |false=>exact⟨l,_,_,u,rfl,rfl,aA.of OF,QX rfl,k d hw u _ (rel.same<|kx _) (Kp.same rel<|kx _) (by rw[ed];exact hu _ _)⟩
   unfold wY at hd;split at hd
   ·rename_i z
    cases hd;refine fin l1 p q dp dq a1 (s2 _ _ e1) hp hq rfl ?_
    exact xW (by rw[z])
   ·rename_i z
    split at hd
    ·rename_i z2
     cases hd;refine fin l2 r s dr ds a2 e2 hr hs rfl ?_
     rw[A9 λy=>z (Kv (y)).symm];exact xW (by rw[z2])
    ·cases hd
  ·exact hw.elim
 ·exact hw.elim
def Qz5(i j:Nat){c1 c2}(hg:Gl X "int")(hm:X.mg "int" = none)(hp:∀A H,DA A H p dp)(hq:∀A H,DA A H q dq)(hr:∀A H,DA A H r dr)(hs:∀A H,DA A H s ds)(hk:k1≠k2)(hu:X.A.units+1<cLine)
  (ha1:PE X a1<|tC p)(zH:PE X a2<|tC q)(zG:PE X b1<|tC r)(hb2:PE X b2<|tC s)(n1:notStar a1=true:=by rfl)(n2:notStar a2=true:=by rfl)(n3:notStar b1=true:=by rfl)(n4:notStar b2=true:=by rfl)
  (hN:X.N[i]? = some x:=by rfl)(hv:gU X.env.scope x:=by first | exact QM rfl | exact QV (QM rfl) | exact QV<|QV rfl)(hd:(x == ("__debug__" : Str))=false:=by decide)(bG:(x == ("__classdict__" : Str))=false:=by decide)
  (hN':X.N[j]? = some y:=by rfl) (ze:gU X.env.scope y:=by first | exact QM rfl | exact QV (QM rfl) | exact QV<|QV rfl) (dB:(y == ("__debug__" : Str))=false:=by decide) (G1:(y == ("__classdict__" : Str))=false:=by decide) :
  QE .D X E (.Subscript (.Subscript (.Dict [some<|.Constant (.str k1) c1 p1,some<|.Constant (.str k2) c2 p2] [.List [a1,a2] q1,.List [b1,b2] q2] p3) (.Name x p4) p5) (.Call (.Name "int" p6) [.Name y p7] [] p8) p9) (M1 k1 k2 dp dq dr ds i j):=
 ⟨QAi hp hq hr hs hk<|Z8 Za (Dw hu (Uj (vn Zf (Yi<|Y6 ha1 (Y6 zH Qu n2) n1)<|vn Zf (Yi<|Y6 zG (Y6 hb2 Qu n4) n3) K7) rfl rfl (by simp) (by show 2<=15;decide)) (pv i hN hv hd bG) λ_ _=>rfl) (Zg D2 hg hm rN<|Ql (pv j hN' ze dB G1) Qu) λ_ _=>rfl⟩
end
end Dl


namespace Dl
open L2 _root_.Rd Rk
def N0:Xb->Prop:=λ_=>False
def wN(H:Hp)(o:Option V):Sl->Prop
 |.no=>True
 |.v d=>∃v,o=some v/\DA N0 H v d
 |_=>False
def As{l₁:List α}{l₂:List β}(h:Zw F l₁ l₂)(i:Nat)(x y)(e:l₁[i]? = some x)(e':l₂[i]? = some y):F x y:=by
 induction h generalizing i with
 |nil=>simp at e
 |cons r _ ih=>
  cases i with
  |zero=>simp at e e';subst e e';exact r
  |succ i=>exact ih i e e'
def SE:∀{l₁:List α}{l₂:List β},Zw F l₁ l₂->l₁.length=l₂.length
 |_,_,.nil=>rfl
 |_,_,.cons _ t=>by rw[Qz,Qz,SE t]
def K8(p:Zw (wN H) σ δ)(h:MQ σ δ i a):False:=by
 obtain⟨h1,h2⟩:=h;rcases h2 with h2 | ⟨ds,h2⟩
 ·exact As p i _ _ h1 h2
 ·exact As p i _ _ h1 h2
def SK{K:Ws}(p:Zw (wN H) σ δ):Rel K ⟨H,N0,N0⟩ σ H δ where
 len:=SE p
 i_:=λ_ z=>z.elim
 cz:=λ_ z=>z.elim
 iE:=λ_ z=>z.elim
 kx:=λ_ _ _ e=>e
 sl:=λi o x e1 e2=>by
  have h:=As p i o x e1 e2;cases x with
  |no=>exact Ju
  |v d=>
   obtain⟨v,rfl,q⟩:=h;exact⟨v,rfl,q.mv (λ_ _ _ e=>e) λa z=>z.elim (λz=>.inl z) λ⟨i,z⟩=>(K8 p z).elim⟩
  |own ds=>exact h.elim
  |pk ds=>exact h.elim
  |eJ=>exact h.elim
  |oB=>exact h.elim
 inj:=λi j a ds _ _ h=>(K8 p h).elim
def TR(p:Zw (wN H0) σ δ)(k:Kp σ δ H H'):ag H H':=λb o e=>k.1 b o (λ⟨i,h1,h2⟩=>K8 p ⟨h1,.inl h2⟩) e
def Gu{K:Ws}(δ:aS)(p:Zw (wN H) σ δ)(hw:w δ (λb=>∀H',ag H H'->Q b H') XF):tT K E w σ H Q:=
 ⟨⟨H,N0,N0⟩,δ,_,XF,SK p,hw,λb hb H' _ kp=>hb H'<|TR p kp,λ_ z=>z.elim⟩
def zb{K:Ws}(δ:aS)(p:Zw (wN H) σ δ)(hw:w δ (λd=>∀v H',ag H H'->DA N0 H' v d->Q v H') XF):tX .F K E w σ H Q:=
 ⟨⟨H,N0,N0⟩,δ,_,XF,SK p,hw,λd hd v H' _ kp vk=>hd v H' (TR p kp)<|DA.mv vk.1 (λ_ _ _ e=>e) λa z=>z.elim,λ_ z=>z.elim⟩
def g9(R:Xc->Prop)(EX:XP)(q:Zw (uG N0 N0 H) vs args)(h:f args R EX)(k:∀d,R d->∀v H',ag H H'->DA N0 H' v d->(fr=true->ki H H' v)->Q v H')(kx:∀C,EX C->∀H',ag H H'->Ex (.ref C) none H'):ZK fr f vs H Q Ex:=
 ⟨N0,N0,args,R,EX,λ_ z=>z.elim,λ_ z=>z.elim,q,h,λd hd v H' kq=>k d hd v H' λb o e=>kq.1 b o (λz=>z.elim) e,λC hC H' kq=>kx C hC H' λb o e=>kq.1 b o (λz=>z.elim) e⟩
mutual
def qP:Xc->Bool
 |.none=>true
 |.bool _=>true
 |.int _=>true
 |.str _=>true
 |.tuple ds=>nL ds
 |_=>false
def nL:List Xc->Bool
 |[]=>true
 |d::ds=>qP d&&nL ds
end
def QBI(k:∀a xs,H a=some (.tup xs)->H' a=some (.tup xs))(m:∀a,A' a->∃xs,H' a=some (.lst xs))(d:Xc)(x:V)(f:qP d=true)(q:DA A H x d):DA A' H' x d:=DA.rec (motive_1:=λx d _=>qP d=true->DA A' H' x d) (motive_2:=λxs ds _=>nL ds=true->aJ A' H' xs ds) (λ_=>.aH) (λb _=>.bl b) (λi _=>.int i) (λz c _=>.str z c) (λ_ e _ q n=>.tup (λz=>by obtain⟨ys,e'⟩:=m _ z;rw[k _ _ e] at e';cases e') (k _ _ e)<|q n) (λ_ _ _ _ n=>x_ n) (λ_ _ _ n=>x_ n) (λ_=>.nil) (λ_ _ q qs n=>.cons (q (QH.mp n).1)<|qs (QH.mp n).2) q f
def QBH(k:∀a xs,H a=some (.tup xs)->H' a=some (.tup xs))(m:∀a,A' a->∃xs,H' a=some (.lst xs))(ds:List Xc)(xs:List V)(f:nL ds=true)(q:aJ A H xs ds):aJ A' H' xs ds:=aJ.rec (motive_1:=λx d _=>qP d=true->DA A' H' x d) (motive_2:=λxs ds _=>nL ds=true->aJ A' H' xs ds) (λ_=>.aH) (λb _=>.bl b) (λi _=>.int i) (λz c _=>.str z c) (λ_ e _ q n=>.tup (λz=>by obtain⟨ys,e'⟩:=m _ z;rw[k _ _ e] at e';cases e') (k _ _ e)<|q n) (λ_ _ _ _ n=>x_ n) (λ_ _ _ n=>x_ n) (λ_=>.nil) (λ_ _ q qs n=>.cons (q (QH.mp n).1)<|qs (QH.mp n).2) q f
def Vq(h:∀d∈ds,qP d=true):nL ds=true:=by
 induction ds with
 |nil=>rfl
 |cons d ds ih=>
  show(qP d&&nL ds)=true;rw[h d<|.head _,ih λx hx=>h x<|.tail _ hx];rfl
def QtB(cs:List (Int×Int)):nL (cs.map Rk.pairD)=true:=Vq λd hd=>by
 obtain⟨p,_,rfl⟩:=Qh.mp hd;rfl
def QEf(h w:Int)(cs:List (Int×Int)):qP (bQ h w cs)=true:=by
 show(true&&(true&&(nL (cs.map Rk.pairD)&&true)))=true;rw[QtB];rfl
def uI(q:DA A H v<|bQ h w cs):∃a c ps,v=.ref a/\H a=some (.tup [.int h,.int w,.ref c])/\H c=some (.tup ps)/\DA A H (.ref c) (.tuple<|cs.map Rk.pairD):=by
 cases q with
 |tup n e q=>cases q with
  |cons q1 q=>cases q with
   |cons q2 q=>cases q with
    |cons q3 q=>
     cases q;cases q1;cases q2;cases q3 with
     |tup n2 e2 q2=>exact⟨_,_,_,rfl,e,e2,.tup n2 e2 q2⟩
end Dl
namespace L2
open PySem.Calls
section
variable(P:QB)(w:Jh)(K:Ws)(mg:Str->Option Xd)(base:ZF)
structure au (CX:iV) (k:Nat) (x:Str) (sp:Sp):Prop where
 ex:∃f fd ps,mg x=some (.ref f)/\aO P w K mg base CX k f fd ps sp/\Binds K fd ps []/\Wu K (.ref f)=true
structure aL (CX:iV) (k:Nat) (C:Xb) (m:Str) (sp:Sp):Prop where
 ex:∃f fd ps,jl K C m f/\aO P w K mg base CX k f fd ps sp/\Binds K fd ps []
structure pT (k:Nat) (C:Xb) (x:Str) (sp:Sp):Prop where
 ex:∃f fd ps,Mk K C f/\aO P w K mg base ax k f fd ps sp/\Binds K fd ps []/\mg x=some (.ref C)
end
structure aB (P:QB) (w:Jh) (K:Ws) (mg:Str->Option Xd) (base:ZF) (x:Str) (st:Zo):Prop where
 ex:∃f fd,mg x=some (.ref f)/\iw K x x st f fd
structure bR (P:QB) (w:Jh) (K:Ws) (mg:Str->Option Xd) (base:ZF) (C:Xb) (m qual:Str) (st:Zo):Prop where
 ex:∃f fd,jl K C m f/\iw K m qual st f fd
def yq(x qual:Str)(st:Zo)(ps:List Str):Prop:=∀(kV doc pm:Xd)(an:Option Xb)(ao ct:Xd)(us:List Xd),us.length=ps.length->bindArgs (WB x qual (u_ st) (Yk st) (Q4 st) .none kV doc pm an ao ct) ⟨us,[]⟩=pure (ps.zip us)
def qB{p:List Xd->Prop}(h:∀a,p [a])(us:List Xd)(e:us.length=1):p us:=by
 obtain _ | ⟨a,_ | _⟩:=us<;>first | exact h _ | cases e
def sJ{p:List Xd->Prop}(h:∀a b,p [a,b])(us:List Xd)(e:us.length=2):p us:=by
 obtain _ | ⟨a,us⟩:=us
 ·cases e
 ·exact qB (p:=λl=>p (a::l)) (λb=>h a b) us<|xZ e
def vX{p:List Xd->Prop}(h:∀a b c,p [a,b,c])(us:List Xd)(e:us.length=3):p us:=by
 obtain _ | ⟨a,us⟩:=us
 ·cases e
 ·exact sJ (p:=λl=>p (a::l)) (λb=>h a b) us<|xZ e
def us5{p:List Xd->Prop}(h:∀a b c d e,p [a,b,c,d,e])(us:List Xd)(e:us.length=5):p us:=by
 obtain _ | ⟨a,_ | ⟨b,us⟩⟩:=us
 ·cases e
 ·cases e
 ·exact vX (p:=λl=>p (a::b::l)) (λc=>h a b c) us<|xZ<|xZ e
section
variable{P:QB}{w:Jh}{K:Ws}{mg:Str->Option Xd}{base:ZF}{x:Str}{st:Zo}{k:Nat}{sp:Sp}{C:Xb}{m qual:Str}
def gs(N:List Str)(n:Nat)(F:aB P w K mg base x st)
  (XL:∀{f:Xb}(ao:Xd)(A:Jo)(outer:List Env)(s:Xe)(H:Hp)(vs:List V)(Q:VK)(E:XK),N.Nodup->az k (A.deeper<|envOfC x (Q4 st) s.heap.objs.size f ao)->sp vs H Q E ->
   ∃t,aV (bP ax P w K mg base N x (Q4 st) f ao A outer s H E).iF (Yk st) t/\t { nx:=λ_ H'=>Q .aH H',rt:=Q } (start N vs) H)
  (S:Yx N (N.take n) (Q4 st):=by exact⟨rfl,rfl,rfl,by decide,rfl,by decide,by decide⟩)
  (len:∀vs H Q E,sp vs H Q E->vs.length=(N.take n).length:=by
   intro _ _ _ _ h
   first | (obtain⟨rfl,_⟩:=h;rfl) | (obtain⟨_,rfl,_⟩:=h;rfl) | (obtain⟨_,_,rfl,_⟩:=h;rfl) | (obtain⟨_,_,_,rfl,_⟩:=h;rfl) | (obtain⟨_,_,_,_,rfl,_⟩:=h;rfl) | (obtain⟨_,_,_,_,_,rfl,_⟩:=h;rfl) | (obtain⟨_,_,_,_,_,_,rfl,_⟩:=h;rfl) | (obtain⟨_,_,_,_,_,_,_,rfl,_⟩:=h;rfl) | (obtain⟨_,_,_,_,_,_,_,_,rfl,_⟩:=h;rfl))
  (b:yq x x st (N.take n):=by exact λ_ _ _ _ _ _=>by first | exact qB λ_=>rfl | exact sJ λ_ _=>rfl | exact vX λ_ _ _=>rfl):au P w K mg base ax (k+1) x sp:=by
 obtain⟨f,fd,e,F⟩:=F.ex;exact⟨f,fd,_,e,F.ok S len λao A outer s H vs Q E hr h=>XL ao A outer s H vs Q E S.nd hr h,F.binds b,F.kp⟩
def oE(N:List Str)(n:Nat)(F:aB P w K mg base x st)
  (XL:∀{f:Xb}(ao:Xd)(A:Jo)(outer:List Env)(s:Xe)(H:Hp)(vs:List V)(Q:VK)(E:XK),N.Nodup->az k (A.deeper<|envOfC x (Q4 st) s.heap.objs.size f ao)->sp vs H Q E ->
   ∃t,aV (bP (Rx.aY P w) P w K mg base N x (Q4 st) f ao A outer s H E) (Yk st) t/\t { nx:=λ_ H'=>Q .aH H',rt:=Q } (start N vs) H)
  (S:Yx N (N.take n) (Q4 st):=by exact⟨rfl,rfl,rfl,by decide,rfl,by decide,by decide⟩)
  (len:∀vs H Q E,sp vs H Q E->vs.length=(N.take n).length:=by
   intro _ _ _ _ h
   first | (obtain⟨_,_,_,_,rfl,_⟩:=h;rfl) | (obtain⟨_,_,_,_,_,_,_,_,rfl,_⟩:=h;rfl))
  (b:yq x x st (N.take n):=by exact λ_ _ _ _ _ _=>by first | exact qB λ_=>rfl | exact vX λ_ _ _=>rfl):au P w K mg base (Rx.aY P w) (k+1) x sp:=by
 obtain⟨f,fd,e,F⟩:=F.ex;exact⟨f,fd,_,e,Rx.F9 F S len λao A outer s H vs Q E hr h=>XL ao A outer s H vs Q E S.nd hr h,F.binds b,F.kp⟩
def wj(N:List Str)(n:Nat)(F:bR P w K mg base C m qual st)
  (XL:∀{f:Xb}(ao:Xd)(A:Jo)(outer:List Env)(s:Xe)(H:Hp)(vs:List V)(Q:VK)(E:XK),N.Nodup->az k (A.deeper<|envOfC qual (Q4 st) s.heap.objs.size f ao)->sp vs H Q E ->
   ∃t,aV (bP ax P w K mg base N qual (Q4 st) f ao A outer s H E).iF (Yk st) t/\t { nx:=λ_ H'=>Q .aH H',rt:=Q } (start N vs) H)
  (S:Yx N (N.take n) (Q4 st):=by exact⟨rfl,rfl,rfl,by decide,rfl,by decide,by decide⟩)
  (len:∀vs H Q E,sp vs H Q E->vs.length=(N.take n).length:=by
   intro _ _ _ _ h
   first | (obtain⟨_,_,rfl,_⟩:=h;rfl) | (obtain⟨_,_,_,_,rfl,_⟩:=h;rfl) | (obtain⟨_,_,_,_,_,_,rfl,_⟩:=h;rfl))
  (b:yq m qual st (N.take n):=by exact λ_ _ _ _ _ _=>by first | exact qB λ_=>rfl | exact sJ λ_ _=>rfl):aL P w K mg base ax (k+1) C m sp:=by
 obtain⟨f,fd,e,F⟩:=F.ex;exact⟨f,fd,_,e,F.ok S len λao A outer s H vs Q E hr h=>XL ao A outer s H vs Q E S.nd hr h,F.binds b⟩
def qY(N:List Str)(n:Nat)(F:bR P w K mg base C m qual st)
  (XL:∀{f:Xb}(ao:Xd)(A:Jo)(outer:List Env)(s:Xe)(H:Hp)(vs:List V)(Q:VK)(E:XK),N.Nodup->az k (A.deeper<|envOfC qual (Q4 st) s.heap.objs.size f ao)->sp vs H Q E ->
   ∃t,aV (bP (Rx.aY P w) P w K mg base N qual (Q4 st) f ao A outer s H E) (Yk st) t/\t { nx:=λ_ H'=>Q .aH H',rt:=Q } (start N vs) H)
  (S:Yx N (N.take n) (Q4 st):=by exact⟨rfl,rfl,rfl,by decide,rfl,by decide,by decide⟩)
  (len:∀vs H Q E,sp vs H Q E->vs.length=(N.take n).length:=by
   intro _ _ _ _ h
   first | (obtain⟨_,_,_,_,rfl,_⟩:=h;rfl) | (obtain⟨_,_,_,_,_,_,_,_,rfl,_⟩:=h;rfl))
  (b:yq m qual st (N.take n):=by exact λ_ _ _ _ _ _=>by first | exact qB λ_=>rfl | exact sJ λ_ _=>rfl | exact vX λ_ _ _=>rfl):aL P w K mg base (Rx.aY P w) (k+1) C m sp:=by
 obtain⟨f,fd,e,F⟩:=F.ex;exact⟨f,fd,_,e,Rx.F9 F S len λao A outer s H vs Q E hr h=>XL ao A outer s H vs Q E S.nd hr h,F.binds b⟩
end
section
variable{X:Cx}{CX:iV}{E:XK}{k j:Nat}{C:Xb}{x m:Str}{sp:Sp}{p pos apos:Pos}{e o:Zm}{es:List Zm}{t:TA}{ta:TE}{pl:Sem Bool}
def xG(c:au X.prog X.w X.K X.mg X.base CX k x sp)(hr:az j X.A)(hx:g7 CX X E)(ha:PA X (e::es) t)(h:k<=j:=by decide)(hg:Gl X x:=by rfl)(bO:(x == ("__debug__" : Str))=false:=by decide)(he:Xh (e::es) X.env=(false,eval e X.env)::Xh es X.env:=by rfl)(hpl:(Xp pos<|Xh es X.env).any (·.1)=false:=by rfl) :
  PE X (.Call (.Name x p) (e::es) [] pos) (Ai sp [] E t):=by
 obtain⟨f,fd,ps,hm,F,hb,hk⟩:=c.ex;exact K6 F (hr.mono h) hg hm hk hb .nil hx ha bO he hpl
def Zr(c:au X.prog X.w X.K X.mg X.base ax k x sp)(hr:az j X.A)(ha:PA X (e::es) t)(h:k<=j:=by decide)(hg:Gl X x:=by rfl)(bO:(x == ("__debug__" : Str))=false:=by decide)(he:Xh (e::es) X.env=(false,eval e X.env)::Xh es X.env:=by rfl)(hpl:(Xp pos<|Xh es X.env).any (·.1)=false:=by rfl) :
  PE X (.Call (.Name x p) (e::es) [] pos) (Ai sp [] E0 t):=xG c hr jN ha h hg bO he hpl
def sj(he:PE X o ta)(cl:jn X.K C)(c:aL X.prog X.w X.K X.mg X.base CX k C m sp)(hr:az j X.A)(hx:g7 CX X E)(ha:PA X (e::es) t)(h:k<=j:=by decide)
  (fJ:Xh (e::es) X.env=(false,eval e X.env)::Xh es X.env:=by rfl)(hpl:(Xp pos<|Xh es X.env).any (·.1)=false:=by rfl)
  (ht:eval (.Call (.Attribute o m apos) (e::es) [] pos) X.env=(do
   let ov <- eval o X.env
   Xw apos.atName
   let (f,first) <- Xs [ov] (XC ov m pl)
   XH pos f first (Xp pos<|Xh (e::es) X.env) (Xz pos<|Xx [] X.env)):=by rfl) :
  PE X (.Call (.Attribute o m apos) (e::es) [] pos) (C1 C m sp [] E ta t):=by
 obtain⟨f,fd,ps,hm,F,hb⟩:=c.ex;exact QwD he cl hm F (hr.mono h) hb .nil hx ha fJ hpl ht
def YG(he:PE X o ta)(cl:jn X.K C)(c:aL X.prog X.w X.K X.mg X.base CX k C m sp)(hr:az j X.A)(hx:g7 CX X E)(h:k<=j:=by decide)
  (ht:eval (.Call (.Attribute o m apos) [] [] pos) X.env=(do
   let ov <- eval o X.env
   Xw apos.atName
   let (f,first) <- Xs [ov] (XC ov m pl)
   XH pos f first (Xp pos<|Xh [] X.env) (Xz pos<|Xx [] X.env)):=by rfl) :
  PE X (.Call (.Attribute o m apos) [] [] pos) (C1 C m sp [] E ta bD):=by
 obtain⟨f,fd,ps,hm,F,hb⟩:=c.ex;exact Qsi he cl hm F (hr.mono h) hb .nil hx ht
def eD(i:Nat)(hN:X.N.Nodup)(he:PE X e te)(hi:X.N[i]? = some x:=by rfl)(hx:Loc X.env.scope x:=by first | exact QM rfl | exact QV rfl)(hs:Xt e (some<|.Name x pos') pos.line X.env=pure false:=by rfl)(hf:X.fn x=true∨X.env.scope.names.lookup x=some .local:=by first | exact .inl rfl | exact .inr rfl | assumption) :
  PS X (.Assign [.Name x pos'] e pos) (fU te<|Yj i):=ir hN hi hx he hs hf
def gh(i:Nat)(hN:X.N.Nodup)(hi:X.N[i]? = some x:=by rfl)(hx:Loc X.env.scope x:=by first | exact QM rfl | exact QV rfl)(hf:X.fn x=true∨X.env.scope.names.lookup x=some .local:=by first | exact .inl rfl | exact .inr rfl | assumption):PG X (.Name x pos) (Yj i):=YF hN hi hx hf
def IS(c:pT X.prog X.w X.K X.mg X.base k C x sp)(hr:az j X.A)(h:k+1<=j:=by decide)(hg:Gl X x:=by rfl)(bO:(x == ("__debug__" : Str))=false:=by decide):PE X (.Call (.Name x p) [] [] pos) (OV C sp [] E0 bD):=by
 obtain⟨f,fd,ps,M,F,hb,hm⟩:=c.ex;exact Qsj M F (hr.mono h) hg hm hb .nil jN bO
end
end L2
namespace Dl
open L2 _root_.Rd Rk
section
variable{P:QB}{w:Jh}{K:Ws}{mg:Str->Option Xd}{base:ZF}{x:Str}{st:Zo}{k:Nat}{fD:DF}
def cZ(N:List Str)(n:Nat)(fr:Bool)(F:aB P w K mg base x st)
  (XL:∀{f:Xb}(ao:Xd)(A:Jo)(outer:List Env)(s:Xe)(H:Hp)(E:XK),N.Nodup->az k (A.deeper<|envOfC x (Q4 st) s.heap.objs.size f ao)->(A.deeper<|envOfC x (Q4 st) s.heap.objs.size f ao).units+60<cLine->(A.deeper<|envOfC x (Q4 st) s.heap.objs.size f ao).in1.units+60<cLine ->
   ∃wd,kh (bP ax P w K mg base N x (Q4 st) f ao A outer s H E).iF E0 (Yk st) wd/\∀args R EX,fD args R EX->wd (rE fr R XF) (ku N args))
  (S:Yx N (N.take n) (Q4 st):=by exact⟨rfl,rfl,rfl,by decide,rfl,by decide,by decide⟩)
  (len:∀args R EX,fD args R EX->args.length=(N.take n).length:=by
   intro _ _ _ h
   first | (obtain⟨rfl,_⟩:=h;rfl) | (obtain⟨_,rfl,_⟩:=h;rfl) | (obtain⟨_,_,rfl,_⟩:=h;rfl) | (obtain⟨_,_,_,rfl,_⟩:=h;rfl) | (obtain⟨_,_,_,_,rfl,_⟩:=h;rfl) | (obtain⟨_,_,_,_,_,rfl,_⟩:=h;rfl) | (obtain⟨_,_,_,_,_,_,rfl,_⟩:=h;rfl) | (obtain⟨_,_,_,_,_,_,_,rfl,_⟩:=h;rfl))
  (b:yq x x st (N.take n):=by exact λ_ _ _ _ _ _=>by first | exact qB λ_=>rfl | exact sJ λ_ _=>rfl | exact vX λ_ _ _=>rfl | exact us5 λ_ _ _ _ _=>rfl):au P w K mg base ax (k+1) x (ZK fr fD):=by
 obtain⟨f,fd,e,F⟩:=F.ex;exact⟨f,fd,_,e,okQ fr F S len λao A outer s H E hr=>XL ao A outer s H E S.nd hr (az.qD hr)<|az.tK hr,F.binds b,F.kp⟩
def Ff(N:List Str)(n:Nat)(fr:Bool)(F:aB P w K mg base x st)
  (XL:∀{f:Xb}(ao:Xd)(A:Jo)(outer:List Env)(s:Xe)(H:Hp)(E:XK),N.Nodup->az k (A.deeper<|envOfC x (Q4 st) s.heap.objs.size f ao)->(A.deeper<|envOfC x (Q4 st) s.heap.objs.size f ao).units+60<cLine->(A.deeper<|envOfC x (Q4 st) s.heap.objs.size f ao).in1.units+60<cLine ->
   ∃wd,kh (bP (Rx.aY P w) P w K mg base N x (Q4 st) f ao A outer s H E) E (Yk st) wd/\∀args R EX,fD args R EX->wd (rE fr R EX) (ku N args))
  (S:Yx N (N.take n) (Q4 st):=by exact⟨rfl,rfl,rfl,by decide,rfl,by decide,by decide⟩)
  (len:∀args R EX,fD args R EX->args.length=(N.take n).length:=by
   intro _ _ _ h
   first | (obtain⟨_,rfl,_⟩:=h;rfl) | (obtain⟨_,_,_,rfl,_⟩:=h;rfl))
  (b:yq x x st (N.take n):=by exact λ_ _ _ _ _ _=>by first | exact qB λ_=>rfl | exact sJ λ_ _=>rfl | exact vX λ_ _ _=>rfl):au P w K mg base (Rx.aY P w) (k+1) x (ZK fr fD):=by
 obtain⟨f,fd,e,F⟩:=F.ex;exact⟨f,fd,_,e,QFJ fr F S len λao A outer s H E hr=>XL ao A outer s H E S.nd hr (az.qD hr)<|az.tK hr,F.binds b,F.kp⟩
end
section
variable{X:Cx}{CX:iV}{E:XK}{k j:Nat}{x:Str}{p pos:Pos}{e:Zm}{es:List Zm}{fD:DF}{wa:lg}
def SF(c:au X.prog X.w X.K X.mg X.base CX k x<|ZK false fD)(hr:az j X.A)(hx:g7 CX X E)(ha:oq X E (e::es) wa)(h:k<=j:=by decide)(hg:Gl X x:=by rfl)(bO:(x == ("__debug__" : Str))=false:=by decide)(he:Xh (e::es) X.env=(false,eval e X.env)::Xh es X.env:=by rfl)(hpl:(Xp pos<|Xh es X.env).any (·.1)=false:=by rfl):QE .D X E (.Call (.Name x p) (e::es) [] pos) (pA fD wa):=by
 obtain⟨f,fd,ps,hm,F,hb,hk⟩:=c.ex;exact Qz8 F (hr.mono h) hg hm hk hb hx ha bO he hpl
def eZ(c:au X.prog X.w X.K X.mg X.base ax k x<|ZK false fD)(hr:az j X.A)(ha:oq X E (e::es) wa)(h:k<=j:=by decide)(hg:Gl X x:=by rfl)(bO:(x == ("__debug__" : Str))=false:=by decide)(he:Xh (e::es) X.env=(false,eval e X.env)::Xh es X.env:=by rfl)(hpl:(Xp pos<|Xh es X.env).any (·.1)=false:=by rfl):QE .D X E (.Call (.Name x p) (e::es) [] pos) (pA fD wa):=SF c hr QAx ha h hg bO he hpl
def kT(c:au X.prog X.w X.K X.mg X.base ax k x<|ZK true fD)(hr:az j X.A)(ha:oq X E (e::es) wa)(h:k<=j:=by decide)(hg:Gl X x:=by rfl)(bO:(x == ("__debug__" : Str))=false:=by decide)(he:Xh (e::es) X.env=(false,eval e X.env)::Xh es X.env:=by rfl)(hpl:(Xp pos<|Xh es X.env).any (·.1)=false:=by rfl):QE .F X E (.Call (.Name x p) (e::es) [] pos) (pA fD wa):=by
 obtain⟨f,fd,ps,hm,F,hb,hk⟩:=c.ex;exact Qwr F (hr.mono h) hg hm hk hb QAx ha bO he hpl
end
end Dl
namespace Rk
open L2 _root_.Rd Dl Rt
def fw(p q:Int×Int):Bool:=decide (p.1=q.1)||decide (p.2=q.2)
def A5(h:fw p q=true):fw q p=true:=by
 unfold fw at h ⊢;rw[yg,Z',Z'] at h ⊢;exact h.elim (λe=>.inl e.symm) λe=>.inr e.symm
inductive cB (cs:List (Int×Int)):(Int×Int)->(Int×Int)->Prop
 |refl {a:Int×Int}:a∈cs->cB cs a a
 |step {a b c:Int×Int}:cB cs a b->c∈cs->fw b c=true->cB cs a c
def cB.left(h:cB cs a b):a∈cs:=by
 induction h with
 |refl h=>exact h
 |step _ _ _ ih=>exact ih
def cB.right(h:cB cs a b):b∈cs:=by
 cases h with
 |refl h=>exact h
 |step _ h _=>exact h
def cB.trans(h:cB cs a b)(k:cB cs b c):cB cs a c:=by
 induction k with
 |refl _=>exact h
 |step _ h1 h2 ih=>exact .step ih h1 h2
def cB.symm(h:cB cs a b):cB cs b a:=by
 induction h with
 |refl h=>exact .refl h
 |step h1 h2 h3 ih=>exact cB.trans (.step (.refl h2) h1.right<|A5 h3) ih
def cB.mono(s:∀p∈cs,p∈ds)(h:cB cs a b):cB ds a b:=by
 induction h with
 |refl h=>exact .refl<|s _ h
 |step _ h2 h3 ih=>exact .step ih (s _ h2) h3
def Ar(h:a_ p q)(k:a_ q p):False:=by
 obtain⟨a,b⟩:=p;obtain⟨c,d⟩:=q;have h:a<c∨(a=c/\b<d):=h;have k:c<a∨(c=a/\d<b):=k;omega
def QwA{T:List (Int×Int)}(hs:S.Pairwise a_)(ht:T.Pairwise a_)(h:∀y,y∈S↔y∈T):S=T:=by
 have p:=(JN (hs.imp jO)<|ht.imp jO).mpr h;exact Yd (λa b _ _ h1 h2=>(Ar h1 h2).elim) hs ht p
structure mH (cs S:List (Int×Int)):Prop where
 kA:S.Pairwise a_
 has:∃x,x∈cs/\∀y,y∈S↔cB cs x y
def mH.same(hs:mH cs S)(ht:mH cs T)(h1:y∈S)(h2:y∈T):S=T:=by
 obtain⟨a,_,ha⟩:=hs.has;obtain⟨b,_,hb⟩:=ht.has;have ab:=((ha y).mp h1).trans ((hb y).mp h2).symm;exact QwA hs.kA ht.kA λz=>by
  rw[ha,hb];exact⟨λq=>ab.symm.trans q,λq=>ab.trans q⟩
def mH.ne{cs S:List (Int×Int)}(h:mH cs S):S≠[]:=λe=>by
 obtain⟨a,ha,hh⟩:=h.has;have:=(hh a).mpr<|.refl ha;rw[e] at this;cases this
def bT(c:Int×Int)(l:List (Int×Int)):Bool:=l.any λp=>fw p c
structure cD (ps:List (Int×Int)) (lots:List<|List (Int×Int)):Prop where
 ne:∀l∈lots,l≠[]
 nd:lots.flatten.Nodup
 mem:∀y,y∈lots.flatten↔y∈ps
 conn:∀l∈lots,∀y∈l,∀z∈l,cB ps y z
 apart:∀l∈lots,∀m∈lots,∀y∈l,∀z∈m,fw y z=true->l=m
def cD.nil:cD [] []:=⟨λl h=>(nomatch h),.nil,λy=>Iff.rfl,λl h=>(nomatch h),λl h=>(nomatch h)⟩
def QiT:∀{lots:List (List (Int×Int))},((lots.filter p).flatten++(lots.filter λl => !p l).flatten).Perm lots.flatten
 |[]=>.refl _
 |l::lots=>by
  have ih:=QiT (p:=p) (lots:=lots);by_cases z:p l=true
  ·rw[YA z,J7 (by rw[z];decide),Zy,LP];exact ih.append_left l
  ·rw[J7 z,YA<|by simpa using z];refine(List.perm_append_comm_assoc _ _ _).trans<|ih.append_left l
def cD.step(h:cD ps lots)(hc:c∉ps):cD (ps++[c]) ((lots.filter λl => !bT c l)++[c::(lots.filter<|bT c).flatten]):=by
 have sub:∀p∈ps,p∈ps++[c]:=λp hp=>Zb _ hp
 have flat:((lots.filter λl => !bT c l)++[c::(lots.filter<|bT c).flatten]).flatten=(lots.filter λl => !bT c l).flatten++(c::(lots.filter<|bT c).flatten):=by
  rw[Mq,Zy,List.flatten_nil,J4]
 have perm:((lots.filter λl => !bT c l).flatten++(c::(lots.filter<|bT c).flatten)).Perm (c::lots.flatten):=by
  exact List.perm_middle.trans<|List.Perm.cons c<|List.perm_append_comm.trans QiT
 have near:∀y∈(lots.filter<|bT c).flatten,cB (ps++[c]) c y:=λy hy=>by
  obtain⟨l,hl,hy⟩:=ye.mp hy;obtain⟨hl,ht⟩:=QF.mp hl;obtain⟨p,hp,ha⟩:=J5.mp ht;have r:=(h.conn l hl p hp y hy).mono sub;exact cB.trans (.step (.refl<|by simp) r.left<|A5 ha) r
 refine⟨λl hl=>?_,?_,λy=>?_,λl hl y hy z hz=>?_,λl hl m hm y hy z hz ha=>?_⟩
 ·rcases QP.mp hl with q | q
  ·exact h.ne l (QF.mp q).1
  ·rw[Qo.mp q];exact List.cons_ne_nil _ _
 ·rw[flat];refine perm.nodup_iff.mpr<|JI.mpr ⟨λq=>hc<|(h.mem c).mp q,h.nd⟩
 ·rw[flat,perm.mem_iff,Qt,h.mem,QP,Qo];exact⟨λq=>q.symm,λq=>q.symm⟩
 ·rcases QP.mp hl with q | q
  ·exact(h.conn l (QF.mp q).1 y hy z hz).mono sub
  ·rw[Qo.mp q] at hy hz;have cy:∀y∈c::(lots.filter<|bT c).flatten,cB (ps++[c]) c y:=λy hy=>by
    rcases Qt.mp hy with e | e
    ·rw[e];exact .refl (by simp)
    ·exact near y e
   exact(cy y hy).symm.trans<|cy z hz
 ·have key:∀{l:List (Int×Int)}{y z:Int×Int},l∈lots.filter (λl => !bT c l)->y∈l->z∈c::(lots.filter<|bT c).flatten->fw y z=true->False:=λ{l y z} ql hy hz ha=>by
   obtain⟨hl,ht⟩:=QF.mp ql;have ht:bT c l=false:=by simpa using ht
   rcases Qt.mp hz with e | e
   ·subst e;have:bT z l=true:=J5.mpr ⟨y,hy,ha⟩;rw[ht] at this;cases this
   ·obtain⟨m,hm,hz⟩:=ye.mp e;obtain⟨hm,tm⟩:=QF.mp hm;have:=h.apart l hl m hm y hy z hz ha;rw[this,tm] at ht;cases ht
  rcases QP.mp hl with q | q<;>rcases QP.mp hm with r | r
  ·exact h.apart l (QF.mp q).1 m (QF.mp r).1 y hy z hz ha
  ·rw[Qo.mp r] at hz;exact(key q hy hz ha).elim
  ·rw[Qo.mp q] at hy;exact(key r hz hy<|A5 ha).elim
  ·rw[Qo.mp q,Qo.mp r]
def cD.pce(h:cD cs lots)(hl:l∈lots)(p:S.Perm l)(s:S.Pairwise a_):mH cs S:=by
 obtain⟨x,hx⟩:∃x,x∈l:=by
  cases e:l with
  |nil=>exact Z_ e<|h.ne l hl
  |cons a b=>exact⟨a,.head _⟩
 have xc:=(h.mem x).mp<|ye.mpr ⟨l,hl,hx⟩;refine⟨s,x,xc,λy=>?_⟩;rw[p.mem_iff];constructor
 ·intro hy;exact h.conn l hl x hx y hy
 ·intro r;induction r with
  |refl _=>exact hx
  |step r1 h2 h3 ih=>
   obtain⟨m,hm,hc⟩:=ye.mp<|(h.mem _).mpr h2;have hb:=ih;have:=h.apart l hl m hm _ hb _ hc h3;rw[this];exact hc
def L9(dm:∀a,A a->∃xs,H a=some (.lst xs)):∀{ys:List V}{M:List (Int×Int)},aP H ys (M.map pairD)->aJ A H ys (M.map pairD)
 |[],[],_=>.nil
 |y::ys,p::M,.cons q qs=>by
  refine .cons ?_<|L9 dm qs
  cases q with
  |tup e q2=>
   refine .tup (λz=>?_) e ?_
   ·obtain⟨xs,e2⟩:=dm _ z;rw[e] at e2;cases e2
   ·cases q2 with
    |cons a b=>
     cases b with
     |cons b c=>cases c;cases a;cases b;exact .cons (.int _)<|.cons (.int _) .nil
@[irreducible] def bJ:List Xc->(Xc->Prop)->Prop:=λds Q=>∃L:List (Int×Int),ds=[.list<|L.map pairD]/\L.Nodup/\L.length<64/\(∀p∈L,0<=p.2/\p.2<64)/\∀M:List (Int×Int),M.Perm L->M.Pairwise a_->Q (.list<|M.map pairD)
def cP(h1:L.Nodup)(h2:L.length<64)(h3:∀p∈L,0<=p.2/\p.2<64)(k:∀M:List (Int×Int),M.Perm L->M.Pairwise a_->Q (.list<|M.map pairD)):bJ [.list<|L.map pairD] Q:=by
 unfold bJ;exact⟨L,rfl,h1,h2,h3,k⟩
def cV:iL Kj bJ:=λA P H vs ds R Q ln dm q h k=>by
 unfold bJ at h;obtain⟨L,rfl,h1,h2,h3,hR⟩:=h;obtain⟨v,rfl,hv⟩:=kC q;obtain⟨l,xs,rfl,e,qq⟩:=hv.list;refine⟨l,xs,L,rfl,e,xR _ _ (ZP L) qq,h1,h2,h3,λt ys M H2 s n e2 zS pm pw=>?_⟩;have zT:∀a,A a->∃xs,H2 a=some (.lst xs):=λa z=>by obtain⟨xs,e⟩:=dm a z;exact⟨xs,s _ _ e⟩
 have pl:M.Pairwise a_:=by
  have hb:=λp hp=>h3 p<|pm.mem_iff.mp hp
  refine YZ (λ{a b} ha fS hc=>?_) pw;have:=hb a ha;have:=hb b fS;have hc:64*a.1+a.2<64*b.1+b.2:=hc;show a.1<b.1∨(a.1=b.1/\a.2<b.2);omega
 refine k _ (hR M pm pl) _ H2 s (.lst (λz=>?_) e2<|L9 zT zS)<|oh n;obtain⟨xs,e⟩:=dm t z;rw[n] at e;cases e
end Rk
namespace Dl
open L2 _root_.Rd Rk
@[irreducible] def E_(t:DT)(wb:DS)(D:rg)(δ:aS):Prop:=∃Iv:Nat->aS->Prop,(∃m,Iv m δ)/\∀m δ,Iv m δ->t δ (λb=>if b=true then wb { D with nx:=λδ'=>∃m',m'<m/\Iv m' δ',ct:=λδ'=>∃m',m'<m/\Iv m' δ',bk:=D.nx } δ else D.nx δ) D.ex
def IJ(t:DT)(wb:DS):DS:=λD δ=>E_ t wb D δ
section
variable{X:Cx}{E:XK}
def Qow(hp:xC (Xg X.prog X.w) X.A X.env X.xe)(hc:PT X c<|tT X.K E t)(hb:aV X body<|tS X.K E wb):PS X (.While c body [] pos) (tS X.K E<|IJ t wb):=by
 refine PS.imp (Qsa hp hc hb) λD σ H ⟨F,δ,DD,rel,hw,en⟩=>?_
 unfold IJ E_ at hw;obtain⟨Iv,⟨m0,i0⟩,step⟩:=hw;refine⟨λm σ' H'=>∃δ',Iv m δ'/\Rel X.K F σ' H' δ'/\a8 F σ H δ σ' H' δ',⟨m0,δ,i0,rel,a8.refl⟩,?_⟩;rintro m σ' H' ⟨δ',iv,r',bH⟩;refine⟨F,δ',_,DD.ex,r',step m δ' iv,λb hb H1 aF bU=>?_,en.ex⟩;have B5:=bH.trans<|a8.kp bU;cases b with
 |true=>
  show if true=true then _ else _
  exact⟨λσ2 H2=>∃δ2,(∃m',m'<m/\Iv m' δ2)/\Rel X.K F σ2 H2 δ2/\a8 F σ H δ σ2 H2 δ2,λσ2 H2 ⟨δ2,⟨m',hm,h2⟩,r2,s2⟩=>⟨m',hm,δ2,h2,r2,s2⟩,F,δ',_,aF,hb,⟨⟨λδ6 h6 σ6 H6 r6 s6=>⟨δ6,h6,r6,B5.trans s6⟩⟩,en.rt,en.lB,(en.step B5).nx,⟨λδ6 h6 σ6 H6 r6 s6=>⟨δ6,h6,r6,B5.trans s6⟩⟩,en.ex⟩⟩
 |false=>
  show if false=true then _ else _
  exact(en.step B5).nx.go δ' hb σ' H1 aF a8.refl
def Lq(hp:xC (Xg X.prog X.w) X.A X.env X.xe)(hc:QT X E c t)(hb:kh X E body wb):QS X E (.While c body [] pos) (IJ t wb):=⟨Qow hp hc.h hb.h⟩
end
def I0(Iv:Nat->aS->Prop)(m0:Nat)(h0:Iv m0 δ)
  (hs:∀m δ,Iv m δ->t δ (λb=>if b=true then wb { D with nx:=λδ'=>∃m',m'<m/\Iv m' δ',ct:=λδ'=>∃m',m'<m/\Iv m' δ',bk:=D.nx } δ else D.nx δ) D.ex):E_ t wb D δ:=by
 unfold E_;exact⟨Iv,⟨m0,h0⟩,hs⟩
end Dl
namespace Rk
open L2 _root_.Rd Dl Rt
def U4{P cells:List (Int×Int)}(nd:P.Nodup)(nc:cells.Nodup)(h:∀p∈P,p∈cells):P.length<=cells.length:=by
 have p:(cells.filter λc=>decide (c∈P)).Perm P:=(JN (Zj _ nc) nd).mpr λy=>by
  rw[QF,Z'];exact⟨λq=>q.2,λq=>⟨h y q,q⟩⟩
 rw[<- p.length_eq];exact Zk _ _
structure ik (cells:List (Int×Int)) (x:Int×Int) (P N:List (Int×Int)):Prop where
 nd:P.Nodup
 reach:∀p∈P,cB cells x p
 has:x∈P
 sub:∀n∈N,n∈P
 fr:∀y∈P,y∉N->∀o∈cells,fw o y=true->o∈P
def rf(cells P N:List (Int×Int)):List (Int×Int):=cells.filter λo => !decide (o∈P)&&N.any λq=>fw o q
def ik.start(h:x∈cells):ik cells x [x] [x]:=⟨by simp,λp hp=>by rw[Qo.mp hp];exact .refl h,by simp,λn hn=>hn,λy hy hn=>Z_ hy hn⟩
def ik.step(h:ik cells x P N)(nc:cells.Nodup):ik cells x (P++rf cells P N) (rf cells P N):=by
 have zu:∀{o:Int×Int},o∈rf cells P N↔o∈cells/\o∉P/\∃n∈N,fw o n=true:=λ{o}=>by
  unfold rf;rw[QF,Js,J5];constructor
  ·rintro⟨a,b,c⟩;exact⟨a,by simpa using b,c⟩
  ·rintro⟨a,b,c⟩;exact⟨a,by simpa using b,c⟩
 refine⟨Zx.mpr ⟨h.nd,Zj _ nc,λa ha b hb e=>?_⟩,λp hp=>?_,Zb _ h.has,λn hn=>Jq _ hn,λy hy hn o ho ha=>?_⟩
 ·rw[e] at ha;exact(zu.mp hb).2.1 ha
 ·rcases QP.mp hp with q | q
  ·exact h.reach p q
  ·obtain⟨a,_,n,hn,G3⟩:=zu.mp q;exact .step (h.reach n<|h.sub n hn) a<|A5 G3
 ·rcases QP.mp hy with q | q
  ·by_cases z:y∈N
   ·by_cases w:o∈P
    ·exact Zb _ w
    ·exact Jq _<|zu.mpr ⟨ho,w,y,z,ha⟩
   ·exact Zb _<|h.fr y q z o ho ha
  ·exact Z_ q hn
def ik.done(h:ik cells x P [])(y:Int×Int):y∈P↔cB cells x y:=by
 constructor
 ·exact h.reach y
 ·intro r;induction r with
  |refl _=>exact h.has
  |step r1 h2 h3 ih=>exact h.fr _ ih (by simp) _ h2<|A5 h3
structure nH (cs:List (Int×Int)) (T:List<|List (Int×Int)) (left:List (Int×Int)):Prop where
 kA:left.Pairwise a_
 sub:∀p∈left,p∈cs
 cl:∀x∈left,∀y,cB cs x y->y∈left
 pc:∀L∈T,mH cs L
 OP:∀y∈cs,y∈left∨∃L∈T,y∈L
 ord:T.Pairwise kL
 hd:∀L∈T,∃p r,L=p::r/\∀y∈left,a_ p y
def nH.start(h:cs.Pairwise a_):nH cs [] cs:=⟨h,λp hp=>hp,λx _ y r=>r.right,λL hL=>(nomatch hL),λy hy=>.inl hy,.nil,λL hL=>(nomatch hL)⟩
def nH.NV(h:nH cs T left)(hx:x∈left)(r:cB cs x y):cB left x y:=by
 induction r with
 |refl _=>exact .refl hx
 |step r1 h2 h3 ih=>exact .step ih (h.cl x hx _<|.step r1 h2 h3) h3
def nH.step(h:nH cs T (x::left))(ms:M.Pairwise a_)(mm:∀y,y∈M↔cB (x::left) x y):nH cs (T++[M]) ((x::left).filter λc => !decide (c∈M)):=by
 have mc:∀y,y∈M↔cB cs x y:=λy=>by
  rw[mm];exact⟨λr=>r.mono h.sub,λr=>h.NV (.head _) r⟩
 have xl:=(EM.mp h.kA).1;have fin:∀{y:Int×Int},y∈(x::left).filter (λc => !decide (c∈M))↔y∈x::left/\y∉M:=λ{y}=>by
  rw[QF];constructor
  ·rintro⟨a,b⟩;exact⟨a,by simpa using b⟩
  ·rintro⟨a,b⟩;exact⟨a,by simpa using b⟩
 have xM:=(mm x).mpr<|.refl<|.head _;obtain⟨r,eM⟩:∃r,M=x::r:=by
  cases e:M with
  |nil=>rw[e] at xM;cases xM
  |cons p r=>
   rw[e] at ms xM;rcases Qt.mp xM with z | z
   ·exact⟨r,by rw[z]⟩
   ·have p1:=(EM.mp ms).1 x z;have pl:=((mm p).mp (by rw[e];exact .head _)).right;rcases Qt.mp pl with w | w
    ·rw[w] at p1;exact Z_ rfl<|jO p1
    ·exact(Ar p1<|xl p w).elim
 refine⟨Zj _ h.kA,λp hp=>h.sub p (fin.mp hp).1,λa ha y ry=>?_,λL hL=>?_,λy hy=>?_,?_,λL hL=>?_⟩
 ·obtain⟨a1,a2⟩:=fin.mp ha;exact fin.mpr ⟨h.cl a a1 y ry,λz=>a2<|(mc a).mpr<|((mc y).mp z).trans ry.symm⟩
 ·rcases QP.mp hL with z | z
  ·exact h.pc L z
  ·rw[Qo.mp z];exact⟨ms,x,h.sub x<|.head _,mc⟩
 ·rcases h.OP y hy with z | ⟨L,hL,z⟩
  ·by_cases w:y∈M
   ·exact .inr ⟨M,by simp,w⟩
   ·exact .inl<|fin.mpr ⟨z,w⟩
  ·exact .inr ⟨L,Zb _ hL,z⟩
 ·refine Bq.mpr ⟨h.ord,VX _ _,λL hL S hS=>?_⟩;rw[Qo.mp hS,eM];obtain⟨p,q,rfl,hp⟩:=h.hd L hL;exact .inl<|hp x<|.head _
 ·rcases QP.mp hL with z | z
  ·obtain⟨p,q,e,hp⟩:=h.hd L z;exact⟨p,q,e,λy hy=>hp y (fin.mp hy).1⟩
  ·rw[Qo.mp z];refine⟨x,r,eM,λy hy=>?_⟩;obtain⟨y1,y2⟩:=fin.mp hy;rcases Qt.mp y1 with w | w
   ·rw[w] at y2;exact Z_ xM y2
   ·exact xl y w
def nH.done(h:nH cs T []):∀y∈cs,∃L∈T,y∈L:=λy hy=>(h.OP y hy).elim nofun id
def CH(cs:List (Int×Int)):Prop:=cs.Pairwise a_/\cs.length<=36/\∀p∈cs,0<=p.2/\p.2<64
def SR:DF:=λargs R _=>∃(c:Int×Int)(L:List (Int×Int)),args=[.v<|pairD c,.v<|.list<|L.map pairD]/\R (.bool<|L.any λq=>fw c q)
def Um:DF:=λargs R _=>∃(x:Int×Int)(cells:List (Int×Int)),args=[.v<|pairD x,.v<|.list<|cells.map pairD]/\x∈cells/\CH cells/\∀M,M.Pairwise a_->(∀y,y∈M↔cB cells x y)->R (f6 M)
end Rk
namespace L2
end L2
namespace Dl
open L2 _root_.Rd Rk
section
variable{X:Cx}{E:XK}
def T':∀{a b:List (Int×Int)},Cr a=Cr b->a=b
 |[],[],_=>rfl
 |[],_::_,h=>by cases h
 |_::_,[],h=>by cases h
 |p::a,q::b,h=>by
  have h:=vq (h);have h1:=ZD h.1;rw[T' h.2,rV (Vg h1.1)<|Vg h1.2]
def DP.dict(h:DP A P H v<|.dict<|Cr kvs):∃l,v=.ref l/\H l=some (.dK<|zU kvs):=by
 rcases h with h | ⟨l,xs,i',rfl,e,_⟩
 ·cases h with
  |gH n e q=>rw[T' q];exact⟨_,rfl,e⟩
 ·cases e
end
end Dl
namespace Rk
open L2 _root_.Rd Dl Rt
def SM:DF:=λargs R _=>∃(h w:Nat)(f:Nat->Nat->Bool),args=[.v<|bQ h w<|ae h w f]/\h<=6/\w<=6/\R (bQ h w<|ae h w<|iH f)
def Vp(ns:List Int):Qy (.list<|ns.map Qp) (.list<|ns.map Qp)=true:=by
 show Yt (ns.map Qp) (ns.map Qp)=true;induction ns with
 |nil=>rfl
 |cons x ns ih=>
  show(Qy (.int x) (.int x)&&Yt (ns.map Qp) (ns.map Qp))=true;rw[ih,QCC];exact X_ rfl
end Rk
namespace HT
section
open PySem.SeqAt
open PySem.AutoSeq1 (wpAny_loadPart')
open PySem.MeetsSeq PySem.MeetsSeq2 PySem.MeetsSeq3
end
section
variable{prog:QB}{w:Jh}{A:Jo}{E:Xd->Xe->Prop}{s:Xe}
end
end HT
namespace L2
end L2
namespace Dl
open L2 _root_.Rd Rk Rt
end Dl
namespace Rk
open L2 _root_.Rd Dl Rt
def tF(f:Nat->Nat->Bool):Nat->Nat->Bool:=λr c=>f c r
end Rk
namespace Zt
def f5(M x:Nat):Nat:=(x*5+1) % M
def Od(M:Nat):Nat->Nat->Nat
 |0,x=>x
 |n+1,x=>Od M n<|f5 M x
def QFe(M:Nat):Nat->Nat->Nat->Nat
 |0,_,acc=>acc
 |n+1,x,acc=>QFe M n (f5 M x)<|acc ||| 2^x
def QEb(M:Nat):Bool:=decide (QFe M M 0 0=2^M - 1)&&decide (Od M M 0=0)
def jZ(t:kY):Nat->Ee->Ee
 |0,p=>p
 |n+1,p=>jZ t n<|t.advance p
structure Tab (t:kY):Prop where
 pw:t.place.toList.Pairwise (· < ·)
 le:∀x∈t.place.toList,x<=t.mask
 dm:t.dummies=#[]
 gd:QEb (t.mask+1)=true
 pl:t.plain=true
 od:t.mask % 2=1
structure pQ (t:kY) (p:Ee):Prop where
 a:p.j+p.more<=t.mask
 b:p.i<=t.mask
def Qik(h:i<=mask):i+(Tf mask i - i)<=mask:=by unfold Tf;split<;>omega
def pQ.adv(x:pQ t p):pQ t (t.advance p):=by
 unfold SetTable.advance;split
 ·exact⟨by show p.j+1+(p.more - 1)<=_;have:=x.a;omega,x.b⟩
 ·have:(SetTable.leap t.mask p.i p.perturb).1<=t.mask:=Rq<|Nat.mod_lt _<|Kt _;exact⟨Qik this,this⟩
def pQ.jZ:∀(n:Nat){p:Ee},pQ t p->pQ t (jZ t n p)
 |0,_,x=>x
 |n+1,_,x=>pQ.jZ n x.adv
def pQ.start(t:kY)(h:Int):pQ t (t.probeStart h):=by
 have:SetTable.bits h % (t.mask+1)<=t.mask:=Rq<|Nat.mod_lt _<|Kt _;exact⟨Qik this,this⟩
def cB(t:kY)(j:Nat)(h:Int):Prop:=∃n,(jZ t n<|t.probeStart h).j=j/\∀m,m<n->(jZ t m<|t.probeStart h).j∈t.place.toList
structure QEx (h:ZF) (a:Xb) (es:Array (Int×Xd)) (ep:Nat) (t:kY):Prop where
 at_:∃o,h.get? a=some o/\o.ExactSet/\o.data=.set es ep t
 ft:t.fits es.size=true
section
variable{prog:QB}{w:Jh}{A:Jo}{E:Xd->Xe->Prop}{s:Xe}
structure TS (prog:QB) (w:Jh) (h:ZF) (a:Xb) (es:Array (Int×Xd)) (ep:Nat) (t:kY) (ps:List<|List Int×Xb):Prop where
 at_:QEx h a es ep t
 tab:Tab t
 ent:es.toList=ps.map λp=>(Xy (intKind prog w) p.1,JT p.2)
 key:∀p∈ps,IsTupleKey (intKind prog w) h p.1 p.2
 nd:(ps.map (·.1)).Nodup
 NV:∀(i j:Nat)(e:Int×Xd),t.place[i]? = some j->es[i]? = some e->cB t j e.1
 mks:t.mask=7∨t.mask=31∨t.mask=127∨t.mask=511∨t.mask=2047
 wI:t.place.size*5<t.mask*3
variable{a:Xb}{es:Array (Int×Xd)}{ep:Nat}{t:kY}{ps:List (List Int×Xb)}
def TS.size(x:TS prog w s.heap a es ep t ps):es.size=ps.length:=by rw[<- Jd,x.ent,Qb]
end
def Sm(m:Nat):List Nat:=(Qv 6).filter m.testBit
def tb(m:Nat)(led:Bool):kY:={ mask:=if 5<=(Sm m).length then 31 else 7,place:=(Sm m).toArray,dummies:=#[],finger:=0,led:=led,moves:=if 5<=(Sm m).length then 1 else 0,plain:=true }
def tp(m v:Nat)(led:Bool):kY:={ tb m led with place:=(Sm<|m ||| 2^v).toArray }
def jm(es:Array (Int×Xd))(S:List Nat):Prop:=∃fF:List Tok,fF.length=S.length/\es.toList=Ko (λ(v:Nat)(tk:Tok)=>((v:Int),r_ (v:Int) tk)) S fF
def jm.size(h:jm es S):es.size=S.length:=by
 obtain⟨fF,hl,e⟩:=h;rw[<- Jd,e,List.length_zipWith,hl,Nat.min_self]
def jm.ins(h:jm es S)(p v:Nat)(tk:Tok):jm (SetTable.insertAt es p ((v:Int),.int v tk)) (S.take p++v::S.drop p):=by
 obtain⟨fF,hl,e⟩:=h;refine⟨fF.take p++tk::fF.drop p,by simp[hl],?_⟩;rw[SetTable.toList_insertAt,e,List.zipWith_append<|by simp[hl],List.take_zipWith,List.drop_zipWith];rfl
def QDk:∀{fF:List Tok},e∈Ko (λ(v:Nat)(tk:Tok)=>((v:Int),r_ (v:Int) tk)) S fF->∃v∈S,∃tk,e=((v:Int),.int v tk):=by
 induction S with
 |nil=>intro fF h;cases fF<;>cases h
 |cons x S ih=>
  intro fF h;cases fF with
  |nil=>cases h
  |cons t fF=>
   rcases Qt.mp h with z | z
   ·exact⟨x,.head _,t,z⟩
   ·obtain⟨v,hv,r⟩:=ih z;exact⟨v,.tail _ hv,r⟩
def QvW{v:Nat}(hv:v∈S):∀{fF:List Tok},fF.length=S.length->∃tk,((v:Int),r_ (v:Int) tk)∈Ko (λ(v:Nat)(tk:Tok)=>((v:Int),r_ (v:Int) tk)) S fF:=by
 induction S with
 |nil=>cases hv
 |cons x S ih=>
  intro fF hl;cases fF with
  |nil=>cases hl
  |cons t fF=>
   rcases Qt.mp hv with z | z
   ·subst z;exact⟨t,.head _⟩
   ·obtain⟨tk,h⟩:=ih z<|xZ hl;exact⟨tk,.tail _ h⟩
def jm.has(h:jm es S)(hv:v∈S):∃tk,((v:Int),r_ (v:Int) tk)∈es.toList:=by
 obtain⟨fF,hl,e⟩:=h;rw[e];exact QvW hv hl
section
variable{prog:QB}{w:Jh}{A:Jo}{E:Xd->Xe->Prop}{s:Xe}
end
section
variable{prog:QB}{w:Jh}{A:Jo}{R:Result->Xe->Prop}{I:Xb}{fp wr:List Xb}{n:Nat}{P:Nat->Xd->Prop}{St:Nat->ZF->Prop}
end
section
variable{prog:QB}{w:Jh}{A:Jo}{E:Xd->Xe->Prop}{s:Xe}{a:Xb}{es:Array (Int×Xd)}{ep:Nat}{t:kY}{ps:List (List Int×Xb)}
def TS.other(x:TS prog w s.heap a es ep t ps)(hk:IsTupleKey (intKind prog w) s.heap ks b):b≠a:=λe=>by
 subst e;obtain⟨o,ho,hex,hd⟩:=x.at_.at_;obtain⟨o',it,n,gw,hc,_⟩:=hk;rw[ho] at gw;cases gw;rw[hex.1] at hc;exact Z_ hc (by decide)
end
section
variable{prog:QB}{w:Jh}{A:Jo}{E:Xd->Xe->Prop}{s:Xe}
end
section
variable{prog:QB}{w:Jh}{s:Xe}{a:Xb}{es:Array (Int×Xd)}{ep:Nat}{t:kY}{ps:List (List Int×Xb)}
variable{A:Jo}{R:Result->Xe->Prop}{I:Xb}{fp wr:List Xb}{n:Nat}{P:Nat->Xd->Prop}{St:Nat->ZF->Prop}
end
section
variable{prog:QB}{w:Jh}{A:Jo}{E:Xd->Xe->Prop}{s:Xe}
end
end Zt
namespace Zt
open PySem.W PySem.Calls Rs
section
variable{prog:QB}{w:Jh}{A:Jo}{E:Xd->Xe->Prop}{s:Xe}
end
end Zt
namespace L2
open Zt
section
variable{X:Cx}
end
end L2
namespace Dl
open L2 _root_.Rd Rk Zt
section
variable{X:Cx}{E:XK}
end
end Dl
namespace L2
open PySem.Calls _root_.Rd _root_.Rk _root_.Rs Rt Dl
section
variable{X:Cx}
end
end L2
namespace Zt
section
variable{prog:QB}{w:Jh}{A:Jo}{E:Xd->Xe->Prop}{s:Xe}
end
end Zt
namespace Rk
open L2 _root_.Rd Dl Rt
def tN(ns:List Int):Xc:=.tuple<|ns.map Qp
end Rk
namespace L2
open Zt _root_.Rd _root_.Rk Dl Rt
section
variable{X:Cx}
end
end L2
namespace Dl
open L2 _root_.Rd Rk Zt Rt
section
variable{X:Cx}{E:XK}
end
end Dl
namespace Rk
open L2 _root_.Rd Dl Rt
end Rk
namespace L2
open _root_.Rd _root_.Rk _root_.Rs
section
variable{X:Cx}
def U8:List V->Hp->VK->Prop:=λxs H Q=>∃(l:Xb)(vs:List V)(L:List (Int×Int)),xs=[.ref l]/\H l=some (.tup vs)/\aP H vs (L.map Rk.pairD)/\L.Nodup/\L.length<64/\(∀ij∈L,0<=ij.2/\ij.2<64) /\
 ∀(t:Xb)(ys:List V)(M:List (Int×Int))(H2:Hp),ag H H2->H t=none->H2 t=some (.lst ys)->aP H2 ys (M.map Rk.pairD)->M.Perm L->M.Pairwise (λa b=>Rs.code a<Rs.code b)->Q (.ref t) H2
def QfY:aG X (.builtin "sorted") U8:=by
 intro XI s σ H xs us Q I r h;obtain⟨l,vs,L,rfl,hl,ds,nd,lO,hb,q⟩:=h;obtain⟨u,rfl,ru⟩:=vals1 r;cases ru;obtain⟨hz,ah,rv,o,ho,hc,_,n,hd⟩:=I.ar l _ hl;have pv:=Mb I.ar ds rv;have lv:=ds.length;have li:=rv.length;have lp:=pv.len;refine MB (.inr rfl) ho hc hd (by omega) λh' kp P E' hP=>?_
 refine QcB (Qs _ rfl) (by omega) (λh2 k2=>?_) nd hb λp g ad h2 e k2 e2=>hP _ ?_
 ·exact(pv.keep kp).keep λb x e=>k2 b x (QZ<|Qr e)<|Qf _ e
 ·have I1:=I.kept (t':=s.toks) kp;have hf:=I1.ar.fresh<|Qd _;have hp:∀i∈p.toList,i<vs.length:=λi hi=>by have:=Jl.mp<|g.perm.mem_iff.mp hi;omega
  have I2:=
   I1.laid (t':=s.toks) (λb x e'=>k2 b x (QZ<|Qr e')<|Qf _ e') (Qd _) (show aQ X.prog X.w _ _ _ (.lst _) from⟨by rw[Qb,Jd,g.size];exact JG<|Rk.ZY<|by omega,_,e,LX λi hi=>Lb rv i<|hp i hi,e2⟩)
  have g':Good L.length p:=by rw[<- lp];exact g
  have HB:gO (λi=>Rs.code<|L.getD i (0,0)) p L.length:=by rw[<- lp];exact ad
  refine⟨.ref h'.objs.size,_,I2,rfl,q _ _ (p.toList.map λi=>L.getD i (0,0)) _ (JA hf) hf af (Lm λi hi=>(Lf ds i<|hp i hi).same<|JA hf) (QiP g')<|QiO g' HB λi j hi hj e=>?_⟩;have bi:0<=(L.getD i (0,0)).2/\(L.getD i (0,0)).2<64:=by rw[Qi,Qc hi];exact hb _<|JQ _
  have bj:0<=(L.getD j (0,0)).2/\(L.getD j (0,0)).2<64:=by rw[Qi,Qc hj];exact hb _<|JQ _
  unfold Rs.code at e;have e':L.getD i (0,0)=L.getD j (0,0):=rV (by omega) (by omega);rw[Qi,Qi,Qc hi,Qc hj] at e';have pw:=Yl.mp nd;rcases Et i j with z | z | z
  ·exact Z_ e'<|pw i j hi hj z
  ·exact z
  ·exact Z_ e'.symm<|pw j i hj hi z
end
end L2


namespace Rk
open L2 _root_.Rd Dl Rt
@[irreducible] def xK:List Xc->(Xc->Prop)->Prop:=λds Q=>∃L:List (Int×Int),ds=[.tuple<|L.map pairD]/\L.Nodup/\L.length<64/\(∀p∈L,0<=p.2/\p.2<64)/\∀M:List (Int×Int),M.Perm L->M.Pairwise a_->Q (.list<|M.map pairD)
def Qii(h1:L.Nodup)(h2:L.length<64)(h3:∀p∈L,0<=p.2/\p.2<64)(k:∀M:List (Int×Int),M.Perm L->M.Pairwise a_->Q (.list<|M.map pairD)):xK [.tuple<|L.map pairD] Q:=by
 unfold xK;exact⟨L,rfl,h1,h2,h3,k⟩
def Qi2:iL U8 xK:=λA P H vs ds R Q ln dm q h k=>by
 unfold xK at h;obtain⟨L,rfl,h1,h2,h3,hR⟩:=h;obtain⟨v,rfl,hv⟩:=kC q;obtain⟨l,xs,rfl,e,qq⟩:=hv.tuple;refine⟨l,xs,L,rfl,e,xR _ _ (ZP L) qq,h1,h2,h3,λt ys M H2 s n e2 zS pm pw=>?_⟩;have zT:∀a,A a->∃xs,H2 a=some (.lst xs):=λa z=>by obtain⟨xs,e⟩:=dm a z;exact⟨xs,s _ _ e⟩
 have pl:M.Pairwise a_:=by
  have hb:=λp hp=>h3 p<|pm.mem_iff.mp hp
  refine YZ (λ{a b} ha fS hc=>?_) pw;have:=hb a ha;have:=hb b fS;have hc:64*a.1+a.2<64*b.1+b.2:=hc;show a.1<b.1∨(a.1=b.1/\a.2<b.2);omega
 refine k _ (hR M pm pl) _ H2 s (.lst (λz=>?_) e2<|L9 zT zS)<|oh n;obtain⟨xs,e⟩:=dm t z;rw[n] at e;cases e
end Rk
namespace Dl
open L2 _root_.Rd Rk
section
variable{X:Cx}{E:XK}{i:Nat}{st:Zo}{we wa wb:DE}
end
end Dl
namespace L2
section
variable{X:Cx}{XI:List (Xb×Xo)}{σ:St}{H H3:Hp}{s3:Xe}{M:List Str}{scope:jd}{cap:List (Option Nat)}{fp:List Xb}{h4:ZF}{t4:Nat}
end
section
variable{X:Cx}{XI:List (Xb×Xo)}{σ:St}{H:Hp}
end
end L2
namespace Rk
open L2 _root_.Rd Dl
end Rk
namespace Dl
open L2
section
variable{X:Cx}{E:XK}
end
end Dl
namespace L2
section
variable{X:Cx}{pos:Pos}
end
end L2
namespace Dl
open L2 _root_.Rd Rk
section
variable{X:Cx}{E:XK}{st:Zo}
end
end Dl
namespace Rk
open L2 _root_.Rd
def top(i:Nat):Zo:=PySem.Challenge.pw_rooklands_k92_desks_answer.main.body.getD i<|.Pass ⟨0,0,0,0⟩
abbrev RU:Zo:=top 22
abbrev UX:Zo:=top 23
abbrev RR:Zo:=top 26
abbrev Pf:Zo:=top 27
abbrev RT:Zo:=top 28
abbrev NQ:Zo:=top 31
abbrev Pd:Zo:=top 32
abbrev UW:Zo:=top 33
abbrev NR:Zo:=top 34
abbrev RQ:Zo:=top 35
abbrev UT:Zo:=top 37
abbrev Pc:Zo:=top 39
abbrev V5:Zo:=top 40
abbrev RS:Zo:=top 41
abbrev yB:Zo:=top 42
abbrev Pe:Zo:=top 43
abbrev US:Zo:=top 44
abbrev Pj:Zo:=top 45
abbrev Pl:Zo:=top 46
abbrev yy:Zo:=top 47
abbrev RP:Zo:=top 49
abbrev yz:Zo:=top 52
abbrev yx:Zo:=top 53
abbrev TU:Zo:=top 82
abbrev yZ:Zo:=top 83
abbrev QA4:Zo:=top 84
abbrev QA8:Zo:=top 85
abbrev Rm:Zo:=top 87
abbrev Ri:Zo:=top 88
abbrev yY:Zo:=top 89
abbrev y4:Zo:=top 90
abbrev QA7:Zo:=top 91
abbrev HR:Zo:=top 93
abbrev sQ:Zo:=top 102
section
variable{P:QB}{w:Jh}{K:Ws}{mg:Str->Option Xd}{base:ZF}
def QoX(F:aB P w K mg base "_law_cell_at" TU)(T:aC mg):au P w K mg base ax 1 "_law_cell_at" (V7 K):=by
 refine gs ["_law_script", "_law_k"] 2 F λao A outer s H vs Q E nD hr h=>?_
 obtain⟨a,ns,n,rfl,hs,hl,h0,k⟩:=h;refine⟨_,QC (gj (Yw xi (pv 1) (Z4 Yp rfl T.len kS<|Ql (pv 0) Qu)<|JL _) (Q6<|JZ<|Z8 Za (pv 0) (pv 1) λ_ _=>rfl) Yh)<|Q6<|JZ Je,?_⟩;refine⟨_,rfl,_,rfl,a,_,rfl,.inl hs,_,_,rfl,rfl,_,rfl,(QEY (λc_=>?_) λ_=>k 0)⟩;have GL:=Y' c_;rw[Qb] at GL;obtain⟨j,rfl⟩:=ZU h0;have hj:j<ns.length:=by omega
 refine⟨_,rfl,_,rfl,a,_,_,.int ns[j],rfl,rfl,hs,QX ?_,k _⟩;rw[Qq,Qc hj];rfl
def QAP(F:aB P w K mg base "_law_pot" yZ)(T:aC mg):au P w K mg base ax 1 "_law_pot" Pp:=by
 refine gs ["_law_cell", "_law_number", "_law_j", "_law_more"] 1 F λao A outer s H vs Q E nD hr h=>?_
 obtain⟨c,rfl,k⟩:=h;refine⟨_,QC (gj (Yw HP (pv 0) (YR IW Je Je)<|JL _) (Q6<|JZ<|Sw<|Ql (YR mn (pv 0)<|YR IW Je Je) Qu) Yh)
  (QC (ir (i:=1) nD rfl (QM rfl) Je)
  (QC (rR Jj rfl (pO (by rfl) T.range<|Ql Je Qu) (YF (i:=2) nD rfl<|QM rfl)
   (QC (ir (i:=3) nD rfl (QM rfl)<|YR Ap (YR xu (YR pF (YR pF (YR Ap (pv 0) Je)<|YR xu Je<|pv 2) Je) Je) Je)
   (QC (ir (i:=3) nD rfl (QM rfl)<|YR Ap (YR pF (YR pF (YR xu (pv 3)<|pv 3)<|YR xu Je<|pv 2) Je) Je)
   (Q6<|ir (i:=1) nD rfl (QM rfl)<|YR pF (YR xu (pv 1) Je)<|pv 3))))
  (Q6<|JZ<|Sw<|Ql (pv 1) Qu))),?_⟩
 refine⟨_,rfl,_,_,rfl,rfl,⟨by decide,by decide,by decide⟩,_,_,rfl,rfl,_,rfl,?_⟩;refine QEY (λ_=>?_) λ_=>?_
 ·exact⟨_,rfl,_,_,rfl,rfl,⟨by decide,by decide,by decide⟩,_,_,rfl,rfl,by show 1<=Xj;decide,λp hp=>k p _ hp⟩
 ·refine⟨64,rfl,by decide,by decide,Eo (n:=64) (λi σ H2=>∃n v u,σ=[some<|.int c,some<|.int n,v,u]/\H2=H) ⟨0,none,none,rfl,rfl⟩ ?_ ?_⟩
  ·rintro i σ H2 hi ⟨n,v,u,rfl,rfl⟩;have b1:=Vn ((c % 2147483629+7919*(0+(i:Int))+1)*48271) (m:=2147483647) (by decide);refine⟨_,rfl,_,_,rfl,rfl,by show(0:Int)<2147483629;decide,_,rfl,_,_,rfl,rfl,.inl ⟨by decide,by decide⟩,_,_,rfl,rfl,_,_,rfl,rfl,_,_,rfl,rfl,.inr ⟨by decide,by decide⟩,_,_,rfl,rfl,by show(0:Int)<2147483647;decide,?_⟩;refine⟨_,rfl,_,rfl,_,_,rfl,rfl,.inl ⟨by omega,by omega⟩,_,rfl,_,_,rfl,rfl,.inl ⟨by decide,by decide⟩,_,_,rfl,rfl,_,_,rfl,rfl,_,_,rfl,rfl,by show(0:Int)<2147483587;decide,?_⟩;exact⟨_,rfl,_,_,rfl,rfl,.inr ⟨by decide,by decide⟩,_,rfl,_,_,rfl,rfl,_,_,_,rfl,rfl⟩
  ·rintro σ H2 ⟨n,v,u,rfl,rfl⟩;exact⟨_,rfl,by show 1<=Xj;decide,λp hp=>k p _ hp⟩
def Qxl(F:aB P w K mg base "_law_take" QA4)(T:aC mg):au P w K mg base ax 1 "_law_take" Ec:=by
 refine gs ["_law_pot_here", "_law_far", "_law_found"] 2 F λao A outer s H vs Q E nD hr h=>?_
 obtain⟨p,n,m,rfl,hp,h0,h1,k⟩:=h;refine⟨_,QC (ir (i:=2) nD rfl (QM rfl)<|YR Ap (Z8 Za (pv 0) Je λ_ _=>rfl)<|pv 1)
  (QC (n8 (YR QsI (Z8 Za (pv 0) Je λ_ _=>rfl)<|pv 1)<|C9 (pv 0) Je A8)
  (Q6<|JZ<|pv 2)),?_⟩
 have b:=Vn n h0;exact⟨_,rfl,p,_,_,_,rfl,rfl,aA.of hp,rfl,_,rfl,_,_,rfl,rfl,h0,_,rfl,p,_,_,_,rfl,rfl,aA.of hp,rfl,_,rfl,_,_,rfl,rfl,⟨h0,h1⟩,_,rfl,p,_,_,_,rfl,rfl,hp,rfl,_,rfl,k _ _ b.1 b.2⟩
end
end Rk
namespace Rk
open L2 _root_.Rd
open Dl
open Rt
def OW:DF:=λargs R _=>∃(h w:Nat)(f:Nat->Nat->Bool),args=[.v<|bQ h w<|ae h w f]/\h<=6/\w<=6/\R (bQ w h<|ae w h<|tF f)
structure Bo where
 h:Nat
 w:Nat
 f:Nat->Nat->Bool
def Bo.d(b:Bo):Xc:=bQ b.h b.w<|ae b.h b.w b.f
structure Bo.ok (b:Bo):Prop where
 h1:1<=b.h
 h6:b.h<=6
 w1:1<=b.w
 w6:b.w<=6
inductive a9 where
 |put (x y:Xc) | take (x y:Xc) | row | col | turn | rest | bz
def a9.wd:a9->Str
 |.put _ _ => "put" | .take _ _ => "take" | .row => "row" | .col => "column" | .turn => "turn" | .rest => "rest" | .bz => "undo"
def a9.jY:a9->List Xc
 |.put x y=>[x,y] | .take x y=>[x,y] | _=>[]
def nI:Xc->Nat
 |.int i=>i.toNat
 |_=>0
def dX(b:Bo)(x y:Xc):Bool:=jJ b.h b.w<|.tuple [x,y]
def ka:a9->Bo->Option Str
 |.put x y,b=>if dX b x y=true then(if b.f (nI x) (nI y)=true then some "double" else none) else some "place"
 |.take x y,b=>if dX b x y=true then(if b.f (nI x) (nI y)=true then none else some "cell") else some "place"
 |.row,b=>if b.h=6 then some "many" else none
 |.col,b=>if b.w=6 then some "many" else none
 |_,_=>none
def il:a9->Bo->Bo
 |.put x y,b=>⟨b.h,b.w,wO b.f (nI x) (nI y) true⟩
 |.take x y,b=>⟨b.h,b.w,wO b.f (nI x) (nI y) false⟩
 |.row,b=>⟨b.h+1,b.w,λr c=>b.f r c&&decide (r<b.h)⟩
 |.col,b=>⟨b.h,b.w+1,λr c=>b.f r c&&decide (c<b.w)⟩
 |.turn,b=>⟨b.w,b.h,tF b.f⟩
 |.rest,b=>⟨b.h,b.w,iH b.f⟩
 |.bz,b=>b
def w5(h:dX b x y=true):∃r c:Nat,x=.int r/\y=.int c/\r<b.h/\c<b.w:=by
 obtain⟨p,e,h1,h2,h3,h4⟩:=QBh h;obtain⟨i,j⟩:=p;cases e;have h1:=h1;have h2:=h2;have h3:=h3;have h4:=h4;exact⟨i.toNat,j.toNat,by rw[Mn h1],by rw[Mn h3],by omega,by omega⟩
def QD7{r c:Nat}(hr:r<b.h)(hc:c<b.w):dX b (.int r) (.int c)=true:=QBg (p:=(r,c)) (by omega) (by omega) (by omega) (by omega)
def Ez(pw:M.Pairwise a_)(m:∀p,p∈M↔p∈ae h w g):M=ae h w g:=by
 have n1:=pw.imp jO;have n2:=(aE w g h).imp jO;exact Yd (λa b _ _ h1 h2=>by rcases h1 with x | x<;>rcases h2 with y | y<;>omega) pw (aE w g h)<|(JN n1 n2).mpr m
def QiZ(h w:Nat)(f:Nat->Nat->Bool):ae (h+1) w (λr c=>f r c&&decide (r<h))=ae h w f:=by
 refine(Ez (aE w _ _) λp=>?_);rw[JS,JS];constructor
 ·rintro⟨r,c,_,hc,e,rfl⟩;have e:=QH.mp e;exact⟨r,c,Y' e.2,hc,e.1,rfl⟩
 ·rintro⟨r,c,hr,hc,e,rfl⟩;exact⟨r,c,by omega,hc,by rw[e,X_ hr];rfl,rfl⟩
def Qi1(h w:Nat)(f:Nat->Nat->Bool):ae h (w+1) (λr c=>f r c&&decide (c<w))=ae h w f:=by
 refine(Ez (aE (w+1) _ _) λp=>?_);rw[JS,JS];constructor
 ·rintro⟨r,c,hr,_,e,rfl⟩;have e:=QH.mp e;exact⟨r,c,hr,Y' e.2,e.1,rfl⟩
 ·rintro⟨r,c,hr,hc,e,rfl⟩;exact⟨r,c,hr,by omega,by rw[e,X_ hc];rfl,rfl⟩
def Vk{r c:Nat}:(ae h w f).filter (λq => !decide (q=((r:Int),(c:Int))))=ae h w (wO f r c false):=by
 refine Ez ((aE w f h).filter _) λp=>?_
 rw[QF,JS,JS];constructor
 ·rintro⟨⟨r',c',hr,hc,e,rfl⟩,z⟩;refine⟨r',c',hr,hc,?_,rfl⟩;have z:=Y_ (by cases zz:decide (((r':Int),(c':Int))=((r:Int),(c:Int))) with | false=>rfl | true=>rw[zz] at z;cases z);show(if r'=r/\c'=c then false else f r' c')=true;rw[X8 λy=>z<|by rw[y.1,y.2]];exact e
 ·rintro⟨r',c',hr,hc,e,rfl⟩;have e:(if r'=r/\c'=c then false else f r' c')=true:=e;by_cases y:r'=r/\c'=c
  ·rw[X9 y] at e;cases e
  ·rw[X8 y] at e;refine⟨⟨r',c',hr,hc,e,rfl⟩,?_⟩;have:¬(((r':Int),(c':Int))=((r:Int),(c:Int))):=λz=>y ⟨by have:=(ZD z).1;omega,by have:=(ZD z).2;omega⟩
   rw[X' this];rfl
def Qi0(hr:r<h)(hc:c<w)(pm:M.Perm<|ae h w f++[((r:Int),(c:Int))])(pw:M.Pairwise a_):M=ae h w (wO f r c true):=by
 refine Ez pw λp=>?_
 rw[pm.mem_iff,QP,Qo,JS,JS];constructor
 ·rintro(⟨r',c',kD,j8,e,rfl⟩ | rfl)
  ·refine⟨r',c',kD,j8,?_,rfl⟩;show(if r'=r/\c'=c then true else f r' c')=true;split
   ·rfl
   ·exact e
  ·exact⟨r,c,hr,hc,X9 ⟨rfl,rfl⟩,rfl⟩
 ·rintro⟨r',c',kD,j8,e,rfl⟩;have e:(if r'=r/\c'=c then true else f r' c')=true:=e;by_cases y:r'=r/\c'=c
  ·exact .inr (by rw[y.1,y.2])
  ·rw[X8 y] at e;exact .inl ⟨r',c',kD,j8,e,rfl⟩
def Us{f:Nat->Nat->Bool}(hf:f r c=false):(ae h w f++[((r:Int),(c:Int))]).Nodup:=by
 refine Zx.mpr ⟨(aE w f h).imp jO,JI.mpr ⟨Jy,Bm⟩,λp hp q hq e=>?_⟩;rw[Qo] at hq;subst hq;subst e;obtain⟨r',c',_,_,e,z⟩:=JS.mp hp;have e1:=(ZD z).1;have e2:=(ZD z).2;rw[show r'=r by omega,show c'=c by omega,hf] at e;cases e
def Ah(hr:r<h)(hc:c<w):decide (((r:Int),(c:Int))∈ae h w f)=f r c:=by
 rw[Jt,Z',JS];constructor
 ·rintro⟨r',c',_,_,hf,e⟩;have e1:=(ZD e).1;have e2:=(ZD e).2;rw[show r=r' by omega,show c=c' by omega];exact hf
 ·intro hf;exact⟨r,c,hr,hc,hf,rfl⟩
def Qyi(h:ka (.put x y) b=none):∃r c:Nat,x=.int r/\y=.int c/\r<b.h/\c<b.w/\b.f r c=false:=by
 have h:(if dX b x y=true then(if b.f (nI x) (nI y)=true then some ("double" : Str) else none) else some "place")=none:=h;cases z:dX b x y with
 |false=>rw[z] at h;cases h
 |true=>
  rw[z] at h;obtain⟨r,c,rfl,rfl,hr,hc⟩:=w5 z;refine⟨r,c,rfl,rfl,hr,hc,?_⟩;cases z2:b.f r c with
  |false=>rfl
  |true=>
   have h:(if b.f r c=true then some ("double" : Str) else none)=none:=h;rw[z2] at h;cases h
def QtK(h:ka (.take x y) b=none):∃r c:Nat,x=.int r/\y=.int c/\r<b.h/\c<b.w/\b.f r c=true:=by
 have h:(if dX b x y=true then(if b.f (nI x) (nI y)=true then none else some ("cell" : Str)) else some "place")=none:=h;cases z:dX b x y with
 |false=>rw[z] at h;cases h
 |true=>
  rw[z] at h;obtain⟨r,c,rfl,rfl,hr,hc⟩:=w5 z;refine⟨r,c,rfl,rfl,hr,hc,?_⟩;cases z2:b.f r c with
  |true=>rfl
  |false=>
   have h:(if b.f r c=true then none else some ("cell" : Str))=none:=h;rw[z2] at h;cases h
def Bo.ja{b:Bo}(o:b.ok):ou b.h b.w (ae b.h b.w b.f):=⟨o.h6,o.w6,λp hp=>YI hp⟩
def M8(C:Xb):DF:=λargs R EX=>∃(b:Bo)(x y:Xc),args=[.v b.d,.v x,.v y]/\(dX b x y=true->R .none)/\(dX b x y=false->EX C)
def M9(C:Xb):DF:=λargs R EX=>∃n:Nat,args=[.v<|.int n]/\(n=6->EX C)/\(n≠6->R .none)
def SI(C:Xb):DF:=λargs R EX=>∃(b:Bo)(r c:Nat),args=[.v b.d,.v<|pairD ((r:Int),(c:Int))]/\r<b.h/\c<b.w/\(b.f r c=false->EX C)/\(b.f r c=true->R .none)
def QED(C:Xb):DF:=λargs R EX=>∃(b:Bo)(r c:Nat),args=[.v b.d,.v<|pairD ((r:Int),(c:Int))]/\r<b.h/\c<b.w/\(b.f r c=false->EX C)/\(b.f r c=true->R (il (.take (.int r)<|.int c) b).d)
def SJ:DF:=λargs R _=>∃(h w:Nat)(cs:List (Int×Int))(k:Nat),args=[.v<|bQ h w cs,.v<|.int k]/\k<=min h w/\R .none
def V_:DF:=λargs R _=>∃(h w:Nat)(cs:List (Int×Int))(k n:Nat)(L:List (Int×Int)),args=[.v<|bQ h w cs,.v<|.int k,.v<|.int n]/\GB h w cs/\k<=min h w/\(fL cs k)[n]? = some L/\R (f6 L)
section
variable{P:QB}{w:Jh}{K:Ws}{mg:Str->Option Xd}{base:ZF}
def QsJ(F:aB P w K mg base "is_whole" RU)(T:aC mg) :
  au P w K mg base ax 1 "is_whole" (ZK false C8):=by
 refine cZ ["thing"] 1 false F λao A outer s H E nD hr hU hI=>?_
 refine⟨_,Q7<|iP<|Af (Jf<|uN .int rfl T.isinstance (qp 0) rfl T.int rN)<|xk<|Pw<|Jf<|uN .bool rfl T.isinstance (qp 0) rfl T.bool Tv,λargs R EX h=>?_⟩;obtain⟨d,rfl,hR⟩:=h;cases d<;>exact hR
def QoP(F:aB P w K mg base "is_whole_within" UX)(T:aC mg)
  (c1:au P w K mg base ax 1 "is_whole"<|ZK false C8) :
  au P w K mg base ax 2 "is_whole_within" (ZK false AL):=by
 refine cZ ["thing", "least", "most"] 3 false F λao A outer s H E nD hr hU hI=>⟨_,Q7<|iP<|Af (QU<|eZ c1 hr<|YM (qv 0) Zq)<|xk<|JV<|Nd CW CW (qp 1) (qp 0)<|qp 2,λargs R EX h=>?_⟩
 obtain⟨d,a,b,rfl,hR⟩:=h;refine⟨d,rfl,?_⟩;cases d with
 |int i=>exact df<|QCh hR
 |_=>exact hR
def QsP(F:aB P w K mg base "is_place" RR)(T:aC mg)
  (c1:au P w K mg base ax 2 "is_whole_within"<|ZK false AL) :
  au P w K mg base ax 3 "is_place" (ZK false SA):=by
 refine cZ ["high", "wide", "thing"] 3 false F λao A outer s H E nD hr hU hI=>?_
 refine⟨_,QJ (dQ (kO<|uK (kU<|kW<|Jf<|uN .tuple rfl T.isinstance (qp 2) rfl T.tuple Yc)<|Ax<|J8 pG (pj hU) (Jf<|Y9 Bi AD rfl T.len kS<|cF (qp 2) Q8) (QU Jg)<|JL _) (Q7<|iP Fl) Zu)
  (Q7<|iP<|Af (QU<|eZ c1 hr<|YM (YX Jm J6 (qp 2) (QU Jg) λ_ _=>rfl)<|YM Jg<|YM (JV<|Yg mn nY (qp 0)<|QU Jg) Zq)<|xk<|eZ c1 hr<|YM (YX Jm J6 (qp 2) (QU Jg) λ_ _=>rfl)<|YM Jg<|YM (JV<|Yg mn nY (qp 1)<|QU Jg) Zq),λargs R EX h=>?_⟩
 obtain⟨h,w,d,rfl,hR⟩:=h;cases d with
 |tuple ds=>
  match ds,hR with
  |[a,b],hR=>
   refine⟨a,rfl,_,_,_,rfl,(QyF hR λ_ hR=>?_)⟩;exact⟨b,rfl,_,_,_,rfl,hR⟩
  |[],hR=>exact hR
  |[_],hR=>exact hR
  |a::b::c::r,hR=>
   exact hR
 |_=>exact hR
def Qxq(F:aB P w K mg base "most_size" Pc)(T:aC mg) :
  au P w K mg base ax 1 "most_size" (ZK false HX):=by
 refine cZ ["board"] 1 false F λao A outer s H E nD hr hU hI=>?_
 refine⟨_,Q7<|ZN<|Y9 (L8 rfl) QtV rfl T.min IM<|cF (QU<|YX Jm J6 (qp 0) (QU Jg) λ_ _=>rfl)<|cF (QU<|YX Jm J6 (qp 0) (QU Jg) λ_ _=>rfl) Q8,λargs R EX h=>?_⟩;obtain⟨h,w,cs,rfl,hR⟩:=h;exact⟨_,QX rfl,_,QX rfl,QxP (by split<;>omega) hR⟩
def Qxc(F:aB P w K mg base "ways_with_row" yy)(T:aC mg) :
  au P w K mg base ax 1 "ways_with_row" (ZK true OZ):=by
 refine cZ ["below", "columns", "taken", "ways", "column", "bit", "size", "many"] 3 true F λao A outer s H E nD hr hU hI=>?_
 refine⟨_,QJ (xJ 3 (Yb EL KA rfl T.list DN<|cF (QU<|YX Jm J6 (qp 0) (qp 2) λ_ _=>rfl) Q8) nD)
  (QJ (pE Jj rfl (rX<|qv 1) (ZX 4 nD rfl<|by first | exact QM rfl | exact QV rfl)
   (QJ (ZH 5 (JV<|Yg Dk w_ (QU Jg)<|qp 4) nD)
  (Q7<|dQ (kU<|xy<|Jf<|Yg QAI nY (qp 2)<|qp 5) (Q7<|pE Jj rfl (D9 rfl T.enumerate<|JV<|AF (QU<|YX Jm J6 (qp 0) (Jf<|Yg QDS nY (qp 2)<|qp 5) λ_ _=>rfl) AG<|AH<|Jf<|Ia<|QU Jg) (iO rfl<|JO 6 (JO 7 iN nD rfl<|by first | exact QM rfl | exact QV rfl) nD rfl<|by first | exact QM rfl | exact QV rfl)
   (Q7<|Qwo 3 Rg KW (Jf<|Yg ZO YH (qp 6)<|QU Jg)<|qp 7)) Zu)))
  (Q7<|K' 3)),λargs R EX h=>?_⟩
 obtain⟨h,w,B,cols,t,rfl,ht,hc,h6,w6,hR⟩:=h;refine⟨_,QX<|AI ht,(sy (λj δ=>∃ds x4 x5 x6 x7,δ=[.v<|.list<|jK h w B,.v<|.list<|uE cols,.v<|.int t,.own ds,x4,x5,x6,x7]/\ds=fu h (nQ B (cols.take j) t)) ⟨_,_,_,_,_,rfl,Bl λk _=>?_⟩ ?_ ?_)⟩
 ·show B t k=B t k+if k=0 then 0 else 0
  split<;>omega
 ·rintro j d δ hd ⟨ds,x4,x5,x6,x7,rfl,rfl⟩;unfold uE at hd;rw[Qq] at hd;obtain⟨c,ec,rfl⟩:∃c:Nat,cols[j]? = some c/\d=.int c:=by
   cases e:cols[j]? with
   |none=>rw[e] at hd;cases hd
   |some p=>rw[e] at hd;cases hd;exact⟨p,rfl,rfl⟩
  have GX:=hc c<|Jb ec;have et:cols.take (j+1)=cols.take j++[c]:=by rw[ZV,ec];rfl
  refine⟨⟨by omega,by omega,by decide⟩,trivial,?_⟩;show if(!BX (.int<|Ei t<|1*2^(c:Int).toNat))=true then _ else _
  rw[QyG ht GX w6];cases hb:t.testBit c with
  |true=>
   have np:(2:Int)^c≠0:=by
    have:(0:Int)<2^c:=Int.pow_pos (by decide);omega
   rw[X9 rfl];refine oI ?_ ⟨_,_,_,_,_,rfl,Bl λk _=>?_⟩
   ·show(!(2^c != 0))=false;simp[np]
   ·unfold nQ;rw[et,L1,X9 hb,Yf]
  |false=>
   refine tJ rfl ?_
   have olt:=QAy ht GX;refine⟨.list<|fu h<|B<|t ||| 2^c,?_,?_⟩
   ·rw[QAz ht GX w6];exact QX<|AI olt
   ·show uD (ph<|Dl.cutD (fu h<|B<|t ||| 2^c) none<|some<|-1) _ _ _ _;rw[Qr3];refine sy (λi δ=>∃ds x6 x7,δ=[.v<|.list<|jK h w B,.v<|.list<|uE cols,.v<|.int t,.own ds,.v<|.int c,.v<|.int<|1*2^(c:Int).toNat,x6,x7]/\ds=fu h (λk=>nQ B (cols.take j) t k+if 1<=k/\k<=i then B (t ||| 2^c) (k - 1) else 0)) ⟨_,_,_,rfl,Bl λk _=>?_⟩ ?_ ?_
    ·rw[X8<|by omega,Yf]
    ·rintro i d δ hd ⟨ds,x6,x7,rfl,rfl⟩;obtain⟨e,he,rfl⟩:=xS hd;rw[Qq] at he;have hi:i<h:=by
      by_cases z:i<h
      ·exact z
      ·rw[Jz (by rw[Q5];omega)] at he;cases he
     rw[JP hi] at he;cases he;refine⟨rfl,i+1,_,?_,rZ<|by omega,_,_,_,rfl,?_⟩
     ·rw[xT];exact AR (k:=i+1) (by omega)
     ·rw[Qr1<|by omega];refine Bl λk hk=>?_
      by_cases z:k=i+1
      ·subst z;rw[X9 rfl,X8<|by omega,X9<|by omega,L6,Yf]
      ·rw[X8 z];by_cases z2:1<=k/\k<=i
       ·rw[X9 z2,X9<|by omega]
       ·rw[X8 z2,X8<|by omega]
    ·rintro δ ⟨ds,x6,x7,rfl,rfl⟩;rw[vo,Qb,Q5];refine⟨_,_,_,_,_,rfl,Bl λk hk=>?_⟩;unfold nQ;rw[et];by_cases z:k=0
     ·subst z;rw[X9 rfl,X8<|by omega,X9 rfl];omega
     ·rw[X8 z,X8 z,X9<|by omega,L1,X8 (by rw[hb];decide)];omega
 ·rintro δ ⟨ds,x4,x5,x6,x7,rfl,rfl⟩;unfold uE;rw[Qb,Zh];exact hR
def Qte:(["taken", "high"]:List Str).Nodup:=by decide
def Wg:(["at", "column", "row"]:List Str).Nodup:=by decide
def Qtd:(["taken", "columns", "table"]:List Str).Nodup:=by decide
def Qxe(F:aB P w K mg base "ways_to_go_on" Pl)(T:aC mg)
  (c1:au P w K mg base ax 1 "ways_with_row"<|ZK true OZ) :
  au P w K mg base ax 2 "ways_to_go_on" (ZK true Ir):=by
 refine cZ ["board", "high", "wide", "cells", "table", "row", "columns"] 1 true F λao A outer s H E nD hr hU hI=>?_
 refine⟨_,QJ (uP (qv 0)<|iO rfl<|JO 1 (JO 2 (JO 3 iN nD rfl<|by first | exact QM rfl | exact QV rfl) nD rfl<|by first | exact QM rfl | exact QV rfl) nD rfl<|by first | exact QM rfl | exact QV rfl)
  (QJ (xJ 4 (g6<|Zv (JV<|iu ["taken", "high"] [none,some 1] (u5 (by rfl) T.range<|Jf<|Yg Dk w_ (QU Jg)<|qp 2) λcl ex s3 H3 C=>⟨(ZX 0 Qte rfl (QM rfl)<|QV rfl),rY,(JV<|Yg ZO YH (Jf<|g6<|Zv Jg Q8)<|Jf<|Yg Uy Sj (Jf<|g6<|Zv Jg Q8)<|qp 1)⟩) Q8) nD)
  (QJ (pE Jj rfl (Ut (by rfl) T.reversed (by rfl) T.range<|qp 1) (ZX 5 nD rfl<|by first | exact QM rfl | exact QV rfl)
   (QJ (ZH 6 (JV<|iu ["at", "column", "row"] [none,none,some 5] (mq<|qp 3) λcl ex s3 H3 C=>⟨(iO rfl<|JO 0 (JO 1 iN Wg rfl (QM rfl)<|QV rfl) Wg rfl (QM rfl)<|QV rfl),(jQ<|J8 jj (je hU) (qp 0) (qp 2)<|JL _),(qv 1)⟩) nD)
  (Q7<|Qz2 4 Jg<|JV<|iu ["taken", "columns", "table"] [none,some 6,some 4] (u5 (by rfl) T.range<|Jf<|Yg Dk w_ (QU Jg)<|qp 2) λcl ex s3 H3 C=>⟨(ZX 0 Qtd rfl (QM rfl)<|QV rfl),rY,(JV<|kT c1 hr<|YM (YX Jm J6 (qp 2) (QU Jg) λ_ _=>rfl)<|YM (qv 1)<|YM (qv 0) Zq)⟩)))
  (Q7<|K' 4))),λargs R EX h=>?_⟩
 obtain⟨h,w,cs,rfl,h6,w6,hb,hR⟩:=h;refine⟨rfl,⟨by omega,by omega,by decide⟩,?_,uT (λ_=>.list (Qp 1::Jc h (.int 0))) (λd hd k2 hk=>?_) ?_⟩
 ·exact SD w6
 ·refine⟨⟨by omega,by omega,by rw[Qx];show 1*h<=_;omega⟩,?_⟩;rw[Qx,Qwh];refine⟨by rw[EK];show 1+h<=_;omega,hk⟩
 ·have e0:(gX 0 (1*2^((w:Nat):Int).toNat:Int).toNat).map (λ_=>pP (Qp 1::Jc h (.int 0)))=jK h w (Wc cs h 0):=by
   rw[Dx,Qx];unfold gX jK;rw[QD];refine ZZ λt _=>?_
   show pP _=pP _;rw[Qr2]
  rw[e0];refine⟨⟨by omega,by omega⟩,sy (λi δ=>∃ds x5 x6,δ=[.v<|bQ h w cs,.v<|.int h,.v<|.int w,.v<|.tuple<|cs.map pairD,.own ds,x5,x6]/\ds=jL cs h w i) ⟨_,_,_,rfl,rfl⟩ ?_ ?_⟩
  ·rintro i d δ hd ⟨ds,x5,x6,rfl,rfl⟩;obtain⟨hi,rfl⟩:=Lr hd;rw[Qx] at hi;have er:((((h:Nat):Int).toNat:Nat):Int) - 1 - (i:Int)=((h - 1 - i:Nat):Int):=by omega
   rw[er];refine kg (λd=>if(cN d).1=((h - 1 - i:Nat):Int) then some (.int (cN d).2) else none) (λd hd k1 k2 h1 h2=>?_) ?_
   ·obtain⟨p,_,rfl⟩:=Qh.mp hd;have h1:(if p.1=((h - 1 - i:Nat):Int) then some (Qp p.2) else none)=none->k1:=h1;have h2:∀e,(if p.1=((h - 1 - i:Nat):Int) then some (Qp p.2) else none)=some e->k2 e:=h2
    refine⟨rfl,?_⟩;show if decide (p.1=((h - 1 - i:Nat):Int))=true then k2 (.int p.2) else k1
    by_cases z:p.1=((h - 1 - i:Nat):Int)
    ·rw[X9<|X_ z];exact h2 _<|X9 z
    ·rw[X8<|by simpa using z];exact h1<|X8 z
   ·rw[QBV cs (h - 1 - i) λp hp=>(hb p hp).1];refine⟨⟨by omega,by omega,by decide⟩,?_,uT (λd=>match d with | .int t=>.list (fu h<|Wc cs h (i+1) t.toNat) | _=>.none) (λd hd k2 hk=>?_) ?_⟩
    ·exact SD w6
    ·obtain⟨t,ht⟩:=J3.mp hd;obtain⟨Ol,rfl⟩:=u7 ht;rw[Dx,Qx] at Ol;have hk:k2 (.list<|fu h<|Wc cs h (i+1) (0+(t:Int)).toNat):=hk;rw[show(0+(t:Int)).toNat=t by omega] at hk;refine⟨_,QX (j:=0)<|La cs h w i,h,w,Wc cs h i,kH cs<|h - 1 - i,t,by rw[show(0:Int)+(t:Int)=(t:Int) by omega],Ol,λc hc=>Qyq hb hc,h6,w6,hk⟩
    ·refine⟨by rw[VQ];omega,_,_,_,rfl,?_⟩;show pP _::jL cs h w i=pP (jK h w<|Wc cs h<|i+1)::jL cs h w i
     congr 2
     rw[Dx,Qx];unfold gX jK;rw[QD];refine ZZ λt _=>?_
     show pP (fu h<|Wc cs h (i+1) (0+(t:Int)).toNat)=_;rw[show(0+(t:Int)).toNat=t by omega]
  ·rintro δ ⟨ds,x5,x6,rfl,rfl⟩;rw[Ea,Qx];exact hR
def QoV(F:aB P w K mg base "counts" UT)(T:aC mg)
  (c1:au P w K mg base ax 2 "ways_to_go_on"<|ZK true Ir)
  (c2:au P w K mg base ax 1 "most_size"<|ZK false HX) :
  au P w K mg base ax 3 "counts" (ZK true KJ):=by
 refine cZ ["board"] 1 true F λao A outer s H E nD hr hU hI=>⟨_,Q7<|ZN<|AF (QU<|YX Jm J6 (QU<|YX Jm J6 (Jf<|kT c1 hr<|YM (qv 0) Zq) (QU Jg) λ_ _=>rfl) (QU Jg) λ_ _=>rfl) AG<|AH<|Jf<|Yg ZO YH (QU<|eZ c2 hr<|YM (qv 0) Zq)<|QU Jg,λargs R EX h=>?_⟩
 obtain⟨h,w,cs,rfl,h6,w6,hb,hR⟩:=h;refine⟨_,_,_,rfl,h6,w6,hb,_,QX<|La cs h w h,_,QX<|AI<|LA w,_,_,_,rfl,?_⟩;have e:Dl.cutD (fu h<|Wc cs h h 0) none (some<|((min h w:Nat):Int)+1)=ma cs h w:=by
  rw[QtR _ _<|by omega];unfold fu ma;rw[<- QCx,PF,show min (((min h w:Nat):Int)+1).toNat (h+1)=min h w+1 by omega]
 have hR:=hR;rw[<- e] at hR;exact hR
def QiG:(["size", "many"]:List Str).Nodup:=by decide
def QsT(F:aB P w K mg base "greatest_size" RP)(T:aC mg)
  (c1:au P w K mg base ax 3 "counts_stands"<|ZK true KJ) :
  au P w K mg base ax 4 "greatest_size" (ZK false Rb):=by
 refine cZ ["board"] 1 false F λao A outer s H E nD hr hU hI=>?_
 refine⟨_,Q7<|ZN<|Y9 (Qi5 rfl) Ue rfl T.max IL<|cF (Jf<|iu ["size", "many"] [none,none] (D9 rfl T.enumerate<|Jf<|kT c1 hr<|YM (qv 0) Zq) λcl ex s3 H3 C=>⟨(iO rfl<|JO 0 (JO 1 iN QiG rfl (QM rfl)<|QV rfl) QiG rfl (QM rfl)<|QV rfl),(jQ<|J8 Il rQ (qp 1) (QU Jg)<|JL _),(qv 0)⟩) Q8,λargs R EX h=>?_⟩;obtain⟨h,w,cs,rfl,b,hR⟩:=h;refine⟨_,_,_,rfl,b.1,b.2.1,b.col,kg (λd=>match d with | .tuple [.int k,.int n]=>if 0<n then some (.int k) else none | _=>none) (λd hd k1 k2 h1 h2=>?_) ?_⟩
 ·obtain⟨k,hk⟩:=J3.mp hd;obtain⟨e,he,rfl⟩:=xS hk;obtain⟨n,rfl⟩:=QtU<|Jb he;have h1:=h1;have h2:=h2;refine⟨rfl,?_⟩;show if decide (0<n)=true then k2 (.int k) else k1
  by_cases z:0<n
  ·rw[X9<|X_ z];exact h2 _<|X9 z
  ·rw[X8<|by simpa using z];exact h1<|X8 z
 ·have e:(ph<|ma cs h w).filterMap (λd=>match d with | .tuple [.int k,.int n]=>if 0<n then some (Qp k) else none | _=>none)=(((Qv<|min h w+1).filter λk=>decide (0<Wc cs h h 0 k)).map λ(k:Nat)=>(k:Int)).map Qp:=by
   unfold ph;rw[Z9,QD,QtT];refine uM λk hk=>?_
   have hk:=Jl.mp hk;have e1:(ma cs h w).getD k .none=.int (Wc cs h h 0 k):=by
    unfold ma;rw[Qi,Qq,JP hk];rfl
   show(match sk [.int k,(ma cs h w).getD k .none] with | .tuple [.int k,.int n]=>if 0<n then some (Qp k) else none | _=>none)=_;rw[e1];show(if 0<Wc cs h h 0 k then some (Qp k) else none)=if decide (0<Wc cs h h 0 k)=true then _ else _
   by_cases z:0<Wc cs h h 0 k
   ·rw[X9 z,X9<|X_ z];rfl
   ·rw[X8 z,X8<|by simpa using z]
  rw[e];have mem:∀{k:Nat},k<=min h w->0<Wc cs h h 0 k->(k:Int)∈((Qv<|min h w+1).filter λk=>decide (0<Wc cs h h 0 k)).map λ(k:Nat)=>(k:Int):=λ{k} h1 h2=>Qh.mpr ⟨k,QF.mpr ⟨Jl.mpr<|by omega,X_ h2⟩,rfl⟩
  refine UB (MG<|mem (Q9 _) (by rw[Iz];decide)) λm hm GJ=>?_
  obtain⟨k,hk,rfl⟩:=Qh.mp hm;have hk:=QF.mp hk;refine hR k ⟨by have:=Jl.mp hk.1;omega,Y' hk.2,λj hj hp=>?_⟩;have:=GJ _<|mem hj hp;omega
def Wf:(["row", "column"]:List Str).Nodup:=by decide
def Qxg(F:aB P w K mg base "turned" Pf)(T:aC mg) :
  au P w K mg base ax 2 "turned" (ZK false OW):=by
 refine cZ ["board", "high", "wide", "cells"] 1 false F λao A outer s H E nD hr hU hI=>?_
 refine⟨_,QJ (uP (qv 0)<|iO rfl<|JO 1 (JO 2 (JO 3 iN nD rfl<|by first | exact QM rfl | exact QV rfl) nD rfl<|by first | exact QM rfl | exact QV rfl) nD rfl<|by first | exact QM rfl | exact QV rfl)
  (Q7<|ZN<|Ys<|Zv (qv 2)<|Zv (qv 1)<|Zv (JV<|Yb JH YT rfl T.tuple Yc<|cF (Jf<|Y9 Mg cV rfl T.sorted Bh<|cF (Jf<|iu ["row", "column"] [none,none] (mq<|qp 3) λcl ex s3 H3 C=>⟨(iO rfl<|JO 0 (JO 1 iN Wf rfl (QM rfl)<|QV rfl) Wf rfl (QM rfl)<|QV rfl),rY,(JV<|Ys<|Zv (qv 1)<|Zv (qv 0) Q8)⟩) Q8) Q8) Q8),λargs R EX h=>?_⟩
 obtain⟨h,w,f,rfl,h6,w6,hR⟩:=h;have hb:∀p∈ae h w f,0<=p.1/\p.1<h/\0<=p.2/\p.2<w:=λp hp=>YI hp
 have yR:=(aE w f h).imp jO;have yQ:=(aE h (tF f) w).imp jO;have ln:=QK (YS w f h)<|YJ h6 w6;have es:((ae h w f).map pairD).map (λd=>pairD ((cN d).2,(cN d).1))=((ae h w f).map λp=>(p.2,p.1)).map pairD:=by rw[QD,QD];rfl
 have yP:((ae h w f).map λp=>(p.2,p.1)).Nodup:=Bs.mpr<|yR.imp λ{a b} fi e=>fi<|rV (ZD e).2 (ZD e).1;refine⟨rfl,uT (λd=>pairD ((cN d).2,(cN d).1)) (λd hd k2 hk=>?_) ?_⟩
 ·obtain⟨p,_,rfl⟩:=Qh.mp hd;exact⟨rfl,hk⟩
 ·rw[es];refine cP yP (by rw[Qb];omega) (λp hp=>?_) λM pM pw=>?_
  ·obtain⟨q,hq,rfl⟩:=Qh.mp hp;have:=hb q hq;omega
  ·have pc:=pM.trans ((JN yP yQ).mpr λp=>by
    rw[Qh,JS];constructor
    ·rintro⟨q,hq,rfl⟩;obtain⟨r,c,hr,hc,hf,rfl⟩:=JS.mp hq;exact⟨c,r,hc,hr,hf,rfl⟩
    ·rintro⟨r,c,hr,hc,hf,rfl⟩;exact⟨(c,r),JS.mpr ⟨c,r,hc,hr,hf,rfl⟩,rfl⟩)
   have eM:=Yd (λa b _ _ h1 h2=>by rcases h1 with x | x<;>rcases h2 with y | y<;>omega) pw (aE h (tF f) w) pc;rw[eM];exact hR
def QiE:(["row", "column", "cells", "wide"]:List Str).Nodup:=by decide
def QsN(F:aB P w K mg base "rest" RT)(T:aC mg) :
  au P w K mg base ax 1 "rest" (ZK false SM):=by
 refine cZ ["board", "high", "wide", "cells", "left"] 1 false F λao A outer s H E nD hr hU hI=>?_
 refine⟨_,QJ (uP (qv 0)<|iO rfl<|JO 1 (JO 2 (JO 3 iN nD rfl<|by first | exact QM rfl | exact QV rfl) nD rfl<|by first | exact QM rfl | exact QV rfl) nD rfl<|by first | exact QM rfl | exact QV rfl)
  (QJ (Qr7 ["row", "column", "cells", "wide"] [none,none,some 3,some 2] 4 nD (Qty 0) (u5 (by rfl) T.range<|qp 1) λcl ex s3 H3 C=>⟨(ZX 0 QiE rfl (QM rfl)<|QV rfl),rY,(u5 (by rfl) T.range<|qp 3),(ZX 1 QiE rfl (QM rfl)<|QV rfl),(jQ<|J8 vh (jM hI) (Jf<|Ys<|Zv (qv 0)<|Zv (qv 1) Q8) (qp 2)<|by rfl),(JV<|Ys<|Zv (qv 0)<|Zv (qv 1) Q8)⟩)
  (Q7<|ZN<|Ys<|Zv (qv 1)<|Zv (qv 2)<|Zv (JV<|Yb JH YT (by rfl) T.tuple Yc<|cF (qp 4) Q8) Q8)),λargs R EX h=>?_⟩
 obtain⟨h,w,f,rfl,h6,w6,hR⟩:=h;have fl:=YS w<|iH f;have e0:∀n:Nat,(gX 0 n).flatMap (λd=>match d with | .int r=>(dP r.toNat w<|iH f).map pairD | _=>[])=(ae n w<|iH f).map pairD:=λn=>by
  unfold gX ae;rw[LL,List.map_flatMap]
  congr 1
  funext r
  show(dP (0+(r:Int)).toNat w<|iH f).map pairD=_;rw[show(0+(r:Int)).toNat=r by omega]
 refine⟨rfl,⟨by omega,by omega⟩,Qyt (λd=>match d with | .int r=>(dP r.toNat w<|iH f).map pairD | _=>[]) 36 ?_ (λd hd acc N hb hN=>?_) ?_⟩
 ·rw[Qx,e0,Qb];exact QK (fl h)<|YJ h6 w6
 ·obtain⟨i,hi⟩:=J3.mp hd;obtain⟨wD,rfl⟩:=u7 hi;rw[Qx] at wD;have hN:N (acc++(dP (0+(i:Int)).toNat w<|iH f).map pairD):=hN;have hb:acc.length+((dP (0+(i:Int)).toNat w<|iH f).map pairD).length<=36:=hb;rw[show(0+(i:Int)).toNat=i by omega] at hN hb;refine⟨⟨by omega,by omega⟩,QD6 (λd=>match d with | .int c=>if(!f i c.toNat)=true then some (pairD ((i:Int),c)) else none | _=>none) ?_ (λd hd k1 k2 h1 h2=>?_) ?_⟩
  ·rw[DB];exact JK (show acc.length+((w:Nat):Int).toNat<=42 by omega) (by decide)
  ·obtain⟨c,hc⟩:=J3.mp hd;obtain⟨i7,rfl⟩:=u7 hc;rw[Qx] at i7;have h1:(if(!f i (0+(c:Int)).toNat)=true then some (pairD ((i:Int),0+(c:Int))) else none)=none->k1:=h1;have h2:∀e,(if(!f i (0+(c:Int)).toNat)=true then some (pairD ((i:Int),0+(c:Int))) else none)=some e->k2 e:=h2
   rw[show(0+(c:Int)).toNat=c by omega] at h1 h2;refine⟨⟨ZP _,rfl,by have:=Z1 ((0+(i:Int)),(0+(c:Int)));exact QK (Y1 this)<|by decide⟩,?_⟩;show if(!((ae h w f).map pairD).any λe=>Qy e<|pairD (0+(i:Int),0+(c:Int)))=true then k2 (pairD (0+(i:Int),0+(c:Int))) else k1
   rw[Y2];have em:decide ((0+(i:Int),0+(c:Int))∈ae h w f)=f i c:=by
    rw[show(0:Int)+(i:Int)=(i:Int) by omega,show(0:Int)+(c:Int)=(c:Int) by omega,Jt,Z',JS];constructor
    ·rintro⟨r,d,_,_,hf,e⟩;have e1:=(ZD e).1;have e2:=(ZD e).2;rw[show i=r by omega,show c=d by omega];exact hf
    ·intro hf;exact⟨i,c,wD,i7,hf,rfl⟩
   rw[em,show(0:Int)+(i:Int)=(i:Int) by omega];by_cases z:(!f i c)=true
   ·rw[X9 z];exact h2 _<|X9 z
   ·rw[X8 z];exact h1<|X8 z
  ·have er:(gX 0 ((w:Nat):Int).toNat).filterMap (λd=>match d with | .int c=>if(!f i c.toNat)=true then some (pairD ((i:Int),c)) else none | _=>none)=(dP i w<|iH f).map pairD:=by
    unfold gX dP;rw[Qx,Z9,QD];refine uM (p:=iH f i) λc _=>?_
    show(if(!f i (0+(c:Int)).toNat)=true then some (pairD ((i:Int),0+(c:Int))) else none)=if(!f i c)=true then some (pairD ((i:Int),(c:Int))) else none
    rw[show(0+(c:Int)).toNat=c by omega,show(0:Int)+(c:Int)=(c:Int) by omega]
   rw[er];exact hN
 ·rw[Qx,e0];exact hR
def QAN(F:aB P w K mg base "refuse_no_place" yz)(T:aC mg)
  (c1:au P w K mg base ax 2 "is_whole_within"<|ZK false AL)
  (N8:mg "NoPlace" = some (.ref CP))(NY:Ww K CP Rx.cu "ValueError.__new__" = true) :
  au P w K mg base (Rx.aY P w) 3 "refuse_no_place" (ZK false<|M8 CP):=by
 refine Ff ["board", "row", "column"] 3 false F λao A outer s H E nD hr hU hI=>?_
 refine⟨_,QJ (dQ (kU<|kW<|QU<|eZ c1 hr<|YM (qv 1)<|YM Jg<|YM (JV<|Yg mn nY (QU<|YX Jm J6 (qp 0) (QU Jg) λ_ _=>rfl)<|QU Jg) Zq) (Q7<|D_ (λ_ _ h=>h) N8 NY<|QU fb) Zu)
  (Q7<|dQ (kU<|kW<|QU<|eZ c1 hr<|YM (qv 2)<|YM Jg<|YM (JV<|Yg mn nY (QU<|YX Jm J6 (qp 0) (QU Jg) λ_ _=>rfl)<|QU Jg) Zq) (Q7<|D_ (λ_ _ h=>h) N8 NY<|QU fb) Zu),λargs R EX h=>?_⟩
 obtain⟨b,x,y,rfl,hR,hX⟩:=h;have e:dX b x y=(jy x 0 (b.h - 1)&&jy y 0 (b.w - 1)):=rfl;rw[e] at hR hX;refine⟨_,QX rfl,_,_,_,rfl,?_⟩;cases h1:jy x 0 (b.h - 1) with
 |false=>exact hX (by rw[h1];rfl)
 |true=>
  refine⟨_,QX rfl,_,_,_,rfl,?_⟩;cases h2:jy y 0 (b.w - 1) with
  |false=>exact hX (by rw[h1,h2];rfl)
  |true=>exact hR (by rw[h1,h2];rfl)
def QAM(hA:∃t,mg "MOST_LINES" = some (.int 6 t))(F:aB P w K mg base "refuse_too_many" yx)(T:aC mg)
  (mCM:mg "TooMany" = some (.ref CM))(qCM:Ww K CM Rx.cu "ValueError.__new__" = true) :
  au P w K mg base (Rx.aY P w) 1 "refuse_too_many" (ZK false<|M9 CM):=by
 refine Ff ["lines"] 1 false F λao A outer s H E nD hr hU hI=>?_
 obtain⟨tA,mA⟩:=hA;refine⟨_,Q7<|dQ (J8 jj (je hU) (qp 0) (QU<|Qz7 6 rfl mA ⟨_,rfl⟩)<|JL _) (Q7<|D_ (λ_ _ h=>h) mCM qCM<|QU fb) Zu,λargs R EX h=>?_⟩;obtain⟨n,rfl,hX,hR⟩:=h;refine gQ (λz=>hX ?_) λz=>hR ?_
 ·have z:=Y' z;omega
 ·have z:=Y_ z;omega
def Qxo(F:aB P w K mg base "refuse_no_cell" Pd)(T:aC mg)
  (c1:au P w K mg base ax 3 "is_place"<|ZK false SA)
  (mCN:mg "NoCell" = some (.ref CN))(qCN:Ww K CN Rx.cu "ValueError.__new__" = true) :
  au P w K mg base (Rx.aY P w) 4 "refuse_no_cell" (ZK false<|SI CN):=by
 refine Ff ["board", "cell"] 2 false F λao A outer s H E nD hr hU hI=>?_
 refine⟨_,Q7<|dQ (kO<|uK (kU<|kW<|QU<|eZ c1 hr<|YM (YX Jm J6 (qp 0) (QU Jg) λ_ _=>rfl)<|YM (YX Jm J6 (qp 0) (QU Jg) λ_ _=>rfl)<|YM (qv 1) Zq)<|Ax<|J8 vh (jM hI) (qp 1) (QU<|YX Jm J6 (qp 0) (QU Jg) λ_ _=>rfl) rfl) (Q7<|D_ (λ_ _ h=>h) mCN qCN<|QU fb) Zu,λargs R EX h=>?_⟩;obtain⟨b,r,c,rfl,hr,hc,hX,hR⟩:=h;refine⟨_,QX rfl,_,QX rfl,_,_,_,rfl,?_⟩;rw[show jJ b.h b.w (pairD (r,c))=true from QD7 hr hc];refine⟨_,QX rfl,⟨ZP _,rfl,by have:=Z1 (r,c);omega⟩,?_⟩;have e:(((ae b.h b.w b.f).map pairD).any λe=>Qy e<|pairD (r,c))=b.f r c:=by rw[Y2,Ah hr hc]
 rw[e];cases z:b.f r c with
 |false=>exact hX z
 |true=>exact hR z
def QxI:(["other", "cell"]:List Str).Nodup:=by decide
def QDT(F:aB P w K mg base "without" NQ)(T:aC mg)
  (c1:au P w K mg base (Rx.aY P w) 4 "refuse_no_cell"<|ZK false<|SI CN) :
  au P w K mg base (Rx.aY P w) 5 "without" (ZK false<|QED CN):=by
 refine Ff ["board", "cell", "high", "wide", "cells"] 2 false F λao A outer s H E nD hr hU hI=>?_
 refine⟨_,QJ (Uu<|QU<|SF c1 hr (Rx.jf (λ_ _ h=>h) rfl rfl rfl)<|YM (qv 0)<|YM (qv 1) Zq)
  (QJ (uP (qv 0)<|iO rfl<|JO 2 (JO 3 (JO 4 iN nD rfl<|by first | exact QM rfl | exact QV rfl) nD rfl<|by first | exact QM rfl | exact QV rfl) nD rfl<|by first | exact QM rfl | exact QV rfl)
  (Q7<|ZN<|Ys<|Zv (qv 2)<|Zv (qv 3)<|Zv (JV<|Yb JH YT rfl T.tuple Yc<|cF (Jf<|iu ["other", "cell"] [none,some 1] (mq<|qp 4) λcl ex s3 H3 C=>⟨(ZX 0 QxI rfl (QM rfl)<|QV rfl),(jQ<|J8 pG (pj hU) (qp 0) (qp 1)<|JL _),(qv 0)⟩) Q8) Q8)),λargs R EX h=>?_⟩
 obtain⟨b,r,c,rfl,hr,hc,hX,hR⟩:=h;refine⟨b,r,c,rfl,hr,hc,hX,λhf=>?_⟩;have hR:=hR hf;refine⟨rfl,kg (λd=>if(λq:Int×Int => !decide (q=((r:Int),(c:Int)))) (cN d)=true then some d else none) (λd hd k1 k2 h1 h2=>?_) ?_⟩
 ·obtain⟨q,_,rfl⟩:=Qh.mp hd;have h1:=h1;have h2:=h2;refine⟨⟨rfl,rfl,.inl (by have:=Z1 q;omega)⟩,?_⟩;show if(!Qy (pairD q) (pairD (r,c)))=true then k2 (pairD q) else k1
  rw[Em];by_cases z:(!decide (q=((r:Int),(c:Int))))=true
  ·rw[X9 z];exact h2 _<|X9 z
  ·rw[X8 z];exact h1<|X8 z
 ·rw[vp λq:Int×Int => !decide (q=((r:Int),(c:Int))),Vk];exact hR
def Qxn(F:aB P w K mg base "row_behind" Pe)(T:aC mg) :
  au P w K mg base ax 1 "row_behind" (ZK false Ii):=by
 refine cZ ["start"] 1 false F λao A outer s H E nD hr hU hI=>⟨_,Q7<|iP<|QDF (xy<|qp 0) (JV<|Yg ZO YH (QU<|YX Jm J6 (QU<|YX Jm J6 (qp 0) (Jf<|Ia<|QU Jg) λ_ _=>rfl) (QU Jg) λ_ _=>rfl)<|QU Jg) Jg,λargs R EX h=>?_⟩
 obtain⟨S,rfl,hR⟩:=h;refine⟨trivial,?_⟩;unfold fG at hR;cases e:S.getLast? with
 |none=>
  rw[List.getLast?_eq_none_iff] at e;subst e;exact hR
 |some c=>
  rw[e] at hR;refine tJ ?_ ⟨_,QxW e,_,QX rfl,hR⟩
  cases S with
  |nil=>cases e
  |cons a b=>rfl
def QxL:(["cell"]:List Str).Nodup:=by decide
def QxK:(["cell", "row", "taken"]:List Str).Nodup:=by decide
def QAR(F:aB P w K mg base "followers" yB)(T:aC mg)
  (c1:au P w K mg base ax 1 "row_behind"<|ZK false Ii) :
  au P w K mg base ax 2 "followers" (ZK false QE1):=by
 refine cZ ["board", "start", "row", "taken"] 2 false F λao A outer s H E nD hr hU hI=>?_
 refine⟨_,QJ (ZH 2 (eZ c1 hr<|YM (qv 1) Zq) nD)
  (QJ (ZH 3 (JV<|iu ["cell"] [none] (mq<|qp 1) λcl ex s3 H3 C=>⟨(ZX 0 QxL rfl (QM rfl)<|QV rfl),rY,(YX Jm J6 (qp 0) (QU Jg) λ_ _=>rfl)⟩) nD)
  (Q7<|ZN<|iu ["cell", "row", "taken"] [none,some 2,some 3] (mq<|QU<|YX Jm J6 (qp 0) (QU Jg) λ_ _=>rfl) λcl ex s3 H3 C=>⟨(ZX 0 QxK rfl (QM rfl)<|QV rfl),(jQ<|kO<|uR (J8 HP rQ (QU<|YX Jm J6 (qp 0) (QU Jg) λ_ _=>rfl) (qp 1)<|JL _)<|u6<|J8 vh (jM hI) (QU<|YX Jm J6 (qp 0) (QU Jg) λ_ _=>rfl) (qp 2) rfl),(qv 0)⟩)),λargs R EX h=>?_⟩
 obtain⟨h,w,cs,S,rfl,hR⟩:=h;refine⟨_,rfl,uT (λd=>.int (cN d).2) (λd hd k2 hk=>?_) ?_⟩
 ·obtain⟨p,_,rfl⟩:=Qh.mp hd;exact⟨_,QX rfl,hk⟩
 ·rw[show(S.map pairD).map (λd=>Qp (cN d).2)=(S.map (·.2)).map Qp by rw[QD,QD];rfl];refine⟨_,QX rfl,kg (λd=>if(λc:Int×Int=>decide (fG S<=c.1) && !decide (c.2∈S.map (·.2))) (cN d)=true then some d else none) (λd hd k1 k2 h1 h2=>?_) ?_⟩
  ·obtain⟨c,_,rfl⟩:=Qh.mp hd;have h1:(if(decide (fG S<=c.1) && !decide (c.2∈S.map (·.2)))=true then some (pairD c) else none)=none->k1:=h1;have h2:∀e,(if(decide (fG S<=c.1) && !decide (c.2∈S.map (·.2)))=true then some (pairD c) else none)=some e->k2 e:=h2
   refine⟨_,QX rfl,?_⟩;refine gQ (λz1=>?_) λz1=>?_
   ·have z1:=z1;rw[z1] at h1 h2;refine⟨_,QX rfl,⟨vm _,rfl,by unfold YU;decide⟩,?_⟩;show if(!((S.map (·.2)).map Qp).any λe=>Qy e<|.int c.2)=true then _ else k1
    rw[Ky];by_cases z:(!decide (c.2∈S.map (·.2)))=true
    ·rw[X9 z];exact h2 _<|X9 z
    ·rw[X8 z];exact h1<|X8 z
   ·have z1:=z1;rw[z1] at h1;exact h1 rfl
  ·rw[vp (λc:Int×Int=>decide (fG S<=c.1) && !decide (c.2∈S.map (·.2)))];exact hR
def QsO(F:aB P w K mg base "refuse_no_size" RS)(T:aC mg)
  (c1:au P w K mg base ax 2 "is_whole_within"<|ZK false AL)
  (c2:au P w K mg base ax 1 "most_size"<|ZK false HX) :
  au P w K mg base ax 3 "refuse_no_size" (ZK false SJ):=by
 refine cZ ["board", "size"] 2 false F λao A outer s H E nD hr hU hI=>⟨_,Q7<|dQ (kU<|kW<|QU<|eZ c1 hr<|YM (qv 1)<|YM Jg<|YM (eZ c2 hr<|YM (qv 0) Zq) Zq) Qio Zu,λargs R EX h=>?_⟩
 obtain⟨h,w,cs,k,rfl,hk,hR⟩:=h;refine⟨_,_,_,rfl,_,_,_,rfl,?_⟩;rw[CK (by omega)<|by omega];exact hR
def Wh:(["row", "column"]:List Str).Nodup:=by decide
def Qxd(F:aB P w K mg base "ways_behind" Pj)(T:aC mg)
  (c1:au P w K mg base ax 1 "row_behind"<|ZK false Ii) :
  au P w K mg base ax 2 "ways_behind" (ZK false OX):=by
 refine cZ ["table", "start", "more", "taken"] 3 false F λao A outer s H E nD hr hU hI=>?_
 refine⟨_,QJ (ZH 3 (JV<|Y9 (Qp4 rfl) QBY rfl T.sum QB3<|cF (Jf<|iu ["row", "column"] [none,none] (mq<|qp 1) λcl ex s3 H3 C=>⟨(iO rfl<|JO 0 (JO 1 iN Wh rfl (QM rfl)<|QV rfl) Wh rfl (QM rfl)<|QV rfl),rY,(JV<|Yg Dk w_ (QU Jg)<|qp 1)⟩) Q8) nD)
  (Q7<|iP<|YX Jm J6 (QU<|YX Jm J6 (QU<|YX Jm J6 (qp 0) (QU<|eZ c1 hr<|YM (qv 1) Zq) λ_ _=>rfl) (qp 3) λ_ _=>rfl) (qp 2) λ_ _=>rfl),λargs R EX h=>?_⟩
 obtain⟨h,w,cs,S,k,rfl,g,st,hk,hR⟩:=h;have rb:=O_ g st;have hw:=g.ja.2.1;have hb:=λp hp=>g.ja.col p<|st.sub p hp
 have ms:=SS hw (T:=[]) hb st.cols<|LA w;refine uT (λd=>.int<|1*2^(cN d).2.toNat) (λd hd k2 hk=>?_) ?_
 ·obtain⟨p,hp,rfl⟩:=Qh.mp hd;have:=hb p hp;exact⟨rfl,⟨by omega,by omega,by decide⟩,hk⟩
 ·have es:(S.map pairD).map (λd=>Qp<|1*2^(cN d).2.toNat)=(S.map λp=>(1*2^p.2.toNat:Int)).map Qp:=by rw[QD,QD];rfl
  rw[es];refine Qv5 _ rfl ?_
  have e2:(S.map λp=>(1*2^p.2.toNat:Int)).sum=((dG S:Nat):Int):=by
   have:=ms.1;rw[show((dG []:Nat):Int)=0 from rfl,Ye] at this;exact this
  rw[e2];obtain⟨r,er⟩:∃r:Nat,fG S=r:=⟨(fG S).toNat,by omega⟩
  have xl:=UM g k S st;rw[er,Qx] at xl;rw[xl] at hR;refine⟨_,rfl,.list<|jK h w<|Wc cs h<|h - r,?_,_,QX<|AI ms.2,_,QX<|rZ hk,hR⟩;rw[er];exact QX (VP cs h w h r<|by omega)
def QoW(F:aB P w K mg base "cell_at" US)(T:aC mg)
  (c1:au P w K mg base ax 2 "followers"<|ZK false QE1)
  (c2:au P w K mg base ax 2 "ways_behind"<|ZK false OX) :
  au P w K mg base ax 3 "cell_at" (ZK false Uh):=by
 refine cZ ["board", "table", "start", "more", "number", "cells", "at", "ways"] 5 false F λao A outer s H E nD hr hU hI=>?_
 refine⟨_,QJ (ZH 5 (eZ c1 hr<|YM (qv 0)<|YM (qv 2) Zq) nD)
  (QJ (ZH 6 Jg nD)
  (QJ (ZH 7 (eZ c2 hr<|YM (qv 1)<|YM (JV<|Yg ZO YH (qp 2)<|Jf<|Ys<|Zv (YX Jm J6 (qp 5) (qp 6) λ_ _=>rfl) Q8)<|YM (qv 3) Zq) nD)
  (QJ (Lq Jj (J8 HP rQ (qp 4) (qp 7)<|JL _)
   (QJ (SG 4 QBj KW (qp 7) nD)
  (QJ (SG 6 Rg KW (QU Jg) nD)
  (Q7<|ZH 7 (eZ c2 hr<|YM (qv 1)<|YM (JV<|Yg ZO YH (qp 2)<|Jf<|Ys<|Zv (YX Jm J6 (qp 5) (qp 6) λ_ _=>rfl) Q8)<|YM (qv 3) Zq) nD))))
  (Q7<|ZN<|Ys<|Zv (YX Jm J6 (qp 5) (qp 6) λ_ _=>rfl)<|Zv (qv 4) Q8)))),λargs R EX h=>?_⟩
 obtain⟨h,w,cs,S,m,n,rfl,g,st,hm,hn,hR⟩:=h;have en:dh cs (m+1) S=(aX cs S).flatMap λc=>dh cs m (S++[c]):=rfl
 rw[en] at hn hR;have lS:(S.map pairD).length=S.length:=Qb _;have sl:=Qv9 g st;have h6:=g.ja.1;refine⟨_,_,_,_,rfl,?_⟩;have get:∀a,a<(aX cs S).length->((aX cs S).map pairD)[a]? = some (pairD<|(aX cs S).getD a (0,0))/\(aX cs S).getD a (0,0)∈aX cs S/\(aX cs S).drop a=(aX cs S).getD a (0,0)::(aX cs S).drop (a+1):=λa ha=>by
  have e:(aX cs S).getD a (0,0)=(aX cs S)[a]:=by rw[Qi,Qc ha];rfl
  refine⟨by rw[Qq,Qc ha,e];rfl,by rw[e];exact JQ ha,by rw[e];exact List.drop_eq_getElem_cons ha⟩
 have l0:0<(aX cs S).length:=by
  cases e:aX cs S with
  |nil=>rw[e] at hn;exact Z_ hn<|Lz _
  |cons a b=>rw[Qz];omega
 have wy:∀(a:Nat)(ha:a<(aX cs S).length),sk (S.map pairD++[pairD<|(aX cs S).getD a (0,0)])=f6 (S++[(aX cs S).getD a (0,0)]):=λa _=>by
  show _=sk ((S++[(aX cs S).getD a (0,0)]).map pairD);rw[Q3];rfl
 refine⟨_,QX (get 0 l0).1,by rw[lS];show _+1<=_;omega,?_⟩;refine⟨h,w,cs,S++[(aX cs S).getD 0 (0,0)],m,by rw[wy 0 l0],g,Dt st (get 0 l0).2.1,by omega,?_⟩;refine I0 (λz δ=>∃a n2:Nat,z=(aX cs S).length - a/\a<(aX cs S).length/\δ=[.v<|bQ h w cs,.v<|.list<|jL cs h w h,.v<|f6 S,.v<|.int m,.v<|.int n2,.v<|.list<|(aX cs S).map pairD,.v<|.int a,.v<|.int ((dh cs m<|S++[(aX cs S).getD a (0,0)]).length:Nat)]/\n2<(((aX cs S).drop a).flatMap λc=>dh cs m<|S++[c]).length/\((aX cs S).flatMap λc=>dh cs m<|S++[c])[n]? = (((aX cs S).drop a).flatMap λc=>dh cs m<|S++[c])[n2]?) _ ⟨0,n,rfl,l0,rfl,hn,rfl⟩ ?_
 rintro z δ ⟨a,n2,rfl,ha,rfl,i5,he⟩;obtain⟨g1,g2,g3⟩:=get a ha;rw[g3,Zl,Qj] at i5;rw[g3,Zl] at he;refine gQ (λy=>?_) λy=>?_
 ·have y:=Y' y;have zH:a+1<(aX cs S).length:=by
   by_cases q:a+1<(aX cs S).length
   ·exact q
   ·rw[List.drop_eq_nil_of_le<|by omega] at i5;exact Z_ i5 (by show ¬n2<_+0;omega)
  obtain⟨f1,f2,f3⟩:=get (a+1) zH;refine⟨pairD<|(aX cs S).getD (a+1) (0,0),by rw[show a+1=((a+1:Nat):Int) by omega];exact QX f1,by rw[lS];show _+1<=_;omega,?_⟩;refine⟨h,w,cs,S++[(aX cs S).getD (a+1) (0,0)],m,by rw[<- wy (a+1) zH],g,Dt st f2,by omega,?_⟩;refine⟨(aX cs S).length - (a+1),by omega,a+1,n2 - (dh cs m<|S++[(aX cs S).getD a (0,0)]).length,rfl,zH,?_,by omega,?_⟩
  ·rw[show((n2 - (dh cs m<|S++[(aX cs S).getD a (0,0)]).length:Nat):Int)=n2 - ((dh cs m<|S++[(aX cs S).getD a (0,0)]).length:Int) by omega,show((a+1:Nat):Int)=a+1 by omega];rfl
  ·rw[he,MM<|by omega]
 ·have y:n2<((dh cs m<|S++[(aX cs S).getD a (0,0)]).length:Int):=by have:=Y_ y;omega
  refine⟨_,QX g1,hR _ n2 g2 (by omega) ?_⟩;rw[he,ET<|by omega]
def Qma(F:aB P w K mg base "stand_at" V5)(T:aC mg)
  (c1:au P w K mg base ax 3 "refuse_no_size"<|ZK false SJ)
  (c2:au P w K mg base ax 2 "ways_to_go_on"<|ZK true Ir)
  (c3:au P w K mg base ax 2 "is_whole_within"<|ZK false AL)
  (c4:au P w K mg base ax 3 "cell_at"<|ZK false Uh) :
  au P w K mg base ax 4 "stand_at" (ZK false V_):=by
 refine cZ ["board", "size", "number", "table", "stand", "left", "more", "cell"] 3 false F λao A outer s H E nD hr hU hI=>?_
 refine⟨_,QJ (Uu<|QU<|eZ c1 hr<|YM (qv 0)<|YM (qv 1) Zq)
  (QJ (ZH 3 (JV<|kT c2 hr<|YM (qv 0) Zq) nD)
  (QJ (dQ (kU<|kW<|QU<|eZ c3 hr<|YM (qv 2)<|YM Jg<|YM (JV<|Yg mn nY (QU<|YX Jm J6 (QU<|YX Jm J6 (QU<|YX Jm J6 (qp 3) (QU Jg) λ_ _=>rfl) (QU Jg) λ_ _=>rfl) (qp 1) λ_ _=>rfl)<|QU Jg) Zq) Qio Zu)
  (QJ (ZH 4 (JV<|Ys Q8) nD)
  (QJ (ZH 5 (qv 2) nD)
  (QJ (pE Jj rfl (Ut rfl T.reversed rfl T.range<|qp 1) (ZX 6 nD rfl<|by first | exact QM rfl | exact QV rfl)
   (QJ (uP (eZ c4 hr<|YM (qv 0)<|YM (qv 3)<|YM (qv 4)<|YM (qv 6)<|YM (qv 5) Zq)<|iO rfl<|JO 7 (JO 5 iN nD rfl<|by first | exact QM rfl | exact QV rfl) nD rfl<|by first | exact QM rfl | exact QV rfl)
  (Q7<|ZH 4 (JV<|Yg ZO YH (qp 4)<|Jf<|Ys<|Zv (qv 7) Q8) nD)))
  (Q7<|iP<|qv 4)))))),λargs R EX h=>?_⟩
 obtain⟨h,w,cs,k,n,L,rfl,g,hk,eL,hR⟩:=h;refine⟨_,_,_,_,rfl,hk,?_⟩;have h6:=g.ja.1;have w6:=g.ja.2.1;refine⟨_,_,_,rfl,h6,w6,g.ja.col,?_⟩;refine⟨_,QX<|La cs h w h,_,QX<|AI<|LA w,_,QX<|rZ<|by omega,?_⟩;refine⟨_,_,_,rfl,?_⟩;rw[Qyf g];have hn:=(QR.mp eL).1;rw[CK (by omega)<|by omega];refine oI rfl ?_
 ·rw[<- Uc] at eL hn;refine⟨⟨by omega,by omega⟩,sy (λi δ=>∃(S:List (Int×Int))(n2:Nat)(x6 x7:Sl),δ=[.v<|bQ h w cs,.v<|.int k,.v<|.int n,.v<|.list<|jL cs h w h,.v<|f6 S,.v<|.int n2,x6,x7]/\Std cs S/\S.length=i/\n2<(dh cs (k - i) S).length/\(dh cs (k - i) S)[n2]? = some L) ⟨[],n,_,_,rfl,.nil,rfl,hn,eL⟩ ?_ ?_⟩
  ·rintro i d δ hd ⟨S,n2,x6,x7,rfl,st,lS,i5,e2⟩;obtain⟨hi,rfl⟩:=Lr hd;rw[Qx] at hi;have er:(((k:Int).toNat:Nat):Int) - 1 - i=((k - i - 1:Nat):Int):=by omega
   rw[er];have ek:k - i=(k - i - 1)+1:=by omega
   rw[ek] at i5 e2;refine⟨_,_,_,_,_,_,rfl,g,st,by omega,i5,λc n3 hc hc3 ee3=>⟨rfl,?_⟩⟩;have es:f6 (S++[c])=.tuple (S.map pairD++[pairD c]):=by unfold f6;rw[Q3];rfl
   refine⟨by rw[Qb];show _+1<=_;omega,S++[c],n3,.v<|.int ((k - i - 1:Nat):Int),.v<|pairD c,by rw[es];rfl,Dt st hc,by rw[Qj,lS];rfl,?_,?_⟩
   ·rw[show k - (i+1)=k - i - 1 by omega];exact hc3
   ·rw[show k - (i+1)=k - i - 1 by omega,<- ee3];exact e2
  ·rintro δ ⟨S,n2,x6,x7,rfl,st,lS,i5,e2⟩;rw[Ea,Qx,Kr] at i5 e2;have i5:n2<1:=i5;obtain rfl:n2=0:=by omega
   have e2:=QL e2;rw[e2];exact hR
end
end Rk


namespace Rk
open L2 _root_.Rd
open Dl
open Rt
def Bt:Option Str->Xc
 |none=>.none
 |some s=>.str s
def Pb:DF:=λargs R _=>∃(b:Bo)(d:a9),args=[.v b.d,.v<|.str d.wd,.v<|.list d.jY]/\R (Bt<|ka d b)
def QFg:DF:=λargs R _=>∃(b:Bo)(d:a9),args=[.v b.d,.v<|.str d.wd,.v<|.list d.jY]/\b.ok/\ka d b=none/\d.wd ≠ "undo" /\ R (il d b).d
def SQ:DF:=λargs R _=>∃b:Bo,args=[.v b.d]/\b.ok/\∀m,mi (ae b.h b.w b.f) b.h b.w m->R (.int (m:Int))
def HS:DF:=λargs R _=>∃(h w:Nat)(f:Nat->Nat->Bool),args=[.v<|bQ h w<|ae h w f]/\h<=6/\w<=6/\R (.list<|(bM f h w).map Qp)
section
variable{P:QB}{w:Jh}{K:Ws}{mg:Str->Option Xd}{base:ZF}
def QoS(F:aB P w K mg base "_law_whole" Rm)(T:aC mg) :
  au P w K mg base ax 1 "_law_whole" (ZK false C8):=by
 refine cZ ["_law_thing"] 1 false F λao A outer s H E nD hr hU hI=>?_
 refine⟨_,Q7<|iP<|Af (Jf<|uN .int rfl T.isinstance (qp 0) rfl T.int rN)<|xk<|Pw<|Jf<|uN .bool rfl T.isinstance (qp 0) rfl T.bool Tv,λargs R EX h=>?_⟩;obtain⟨d,rfl,hR⟩:=h;cases d<;>exact hR
def QoT(F:aB P w K mg base "_law_is_place" Ri)(T:aC mg)
  (c1:au P w K mg base ax 1 "_law_whole"<|ZK false C8) :
  au P w K mg base ax 2 "_law_is_place" (ZK false UA):=by
 refine cZ ["_law_thing", "_law_high", "_law_wide"] 3 false F λao A outer s H E nD hr hU hI=>?_
 refine⟨_,QJ (dQ (kO<|uK (kU<|kW<|Jf<|uN .tuple rfl T.isinstance (qp 0) rfl T.tuple Yc)<|uK (J8 pG (pj hU) (Jf<|Y9 Bi AD rfl T.len kS<|cF (qp 0) Q8) (QU Jg)<|JL _)<|uK (kU<|kW<|QU<|eZ c1 hr<|YM (YX Jm J6 (qp 0) (QU Jg) λ_ _=>rfl) Zq)<|Ax<|kU<|kW<|QU<|eZ c1 hr<|YM (YX Jm J6 (qp 0) (QU Jg) λ_ _=>rfl) Zq) (Q7<|iP Fl) Zu)
  (Q7<|iP<|Af (Jf<|Nd CW xi (QU Jg) (QU<|YX Jm J6 (qp 0) (QU Jg) λ_ _=>rfl)<|qp 1)<|xk<|JV<|Nd CW xi (QU Jg) (QU<|YX Jm J6 (qp 0) (QU Jg) λ_ _=>rfl)<|qp 2),λargs R EX h=>?_⟩
 obtain⟨d,h,w,rfl,hR⟩:=h;cases d with
 |tuple ds=>
  match ds,hR with
  |[a,b],hR=>
   have hR:R (.bool<|jy a 0 (h - 1)&&jy b 0 (w - 1)):=hR;rw[<- TM,<- TM] at hR;refine⟨a,rfl,a,rfl,?_⟩;cases a with
   |int i=>
    refine⟨b,rfl,b,rfl,?_⟩;cases b with
    |int j=>
     refine⟨.int i,rfl,?_⟩;have hR:R (.bool<|(decide (0<=i)&&decide (i<h))&&(decide (0<=j)&&decide (j<w))):=hR;refine gQ (λz1=>?_) λz1=>?_
     ·rw[show decide (0<=i)=true from z1,Be] at hR;refine gQ (λz2=>?_) λz2=>?_
      ·rw[show decide (i<h)=true from z2] at hR;refine⟨.int j,rfl,gQ (λz3=>?_) λz3=>?_⟩
       ·rw[show decide (0<=j)=true from z3] at hR;exact hR
       ·rw[show decide (0<=j)=false from z3] at hR;exact hR
      ·rw[show decide (i<h)=false from z2] at hR;exact hR
     ·rw[show decide (0<=i)=false from z1,O0,O0] at hR;exact hR
    |_=>simp only[Og,KO] at hR;exact hR
   |_=>exact hR
  |[],hR=>exact hR
  |[_],hR=>exact hR
  |a::b::c::r,hR=>
   exact hR
 |_=>exact hR
def Qxp(F:aB P w K mg base "_law_refused_as" yY)(T:aC mg)
  (c1:au P w K mg base ax 2 "_law_is_place"<|ZK false UA) :
  au P w K mg base ax 3 "_law_refused_as" (ZK false Pb):=by
 refine cZ ["_law_board", "_law_word", "_law_told", "_law_there"] 3 false F λao A outer s H E nD hr hU hI=>?_
 refine⟨_,QJ (dQ (J8 uY (jM hI) (qp 1) (Jf<|Ys<|Zv fb<|Zv fb Q8)<|by rfl) (QJ (dQ (kU<|kW<|QU<|eZ c1 hr<|YM (JV<|Yb JH YT (by rfl) T.tuple Yc<|cF (qp 2) Q8)<|YM (YX Jm J6 (qp 0) (QU Jg) λ_ _=>rfl)<|YM (YX Jm J6 (qp 0) (QU Jg) λ_ _=>rfl) Zq) (Q7<|iP fb) Zu)
  (QJ (ZH 3 (JV<|Ag uY (jM hI) (Jf<|Yb JH YT (by rfl) T.tuple Yc<|cF (qp 2) Q8) (QU<|YX Jm J6 (qp 0) (QU Jg) λ_ _=>rfl)<|by rfl) nD)
  (Q7<|iP<|Qz5 1 3 (by rfl) T.int (λ_ _=>.aH) (λ_ _=>.str _<|by decide) (λ_ _=>.str _<|by decide) (λ_ _=>.aH) (by decide) (rH hr) xw Zf Zf xw))) Zu)
  (QJ (dQ (kO<|uK (kO<|uR (J8 jj (je hU) (qp 1) (QU fb)<|JL _)<|u6<|J8 jj (je hU) (QU<|YX Jm J6 (qp 0) (QU Jg) λ_ _=>rfl) (QU Jg)<|JL _)<|Ax<|kO<|uR (J8 jj (je hU) (qp 1) (QU fb)<|JL _)<|u6<|J8 jj (je hU) (QU<|YX Jm J6 (qp 0) (QU Jg) λ_ _=>rfl) (QU Jg)<|JL _) (Q7<|iP fb) Zu)
  (Q7<|iP xj)),λargs R EX h=>?_⟩
 obtain⟨b,d,rfl,hR⟩:=h;cases d with
 |put x y=>
  refine⟨⟨rfl,rfl,by show(Jk "put").depth<=50;decide⟩,?_⟩;refine tJ (by show([Jk "put",Jk "take"].any λe=>e.eqv<|.str "put")=true;decide) ?_
  refine⟨_,QX (j:=0) rfl,_,QX (j:=1) rfl,_,_,_,rfl,?_⟩;have e:ka (.put x y) b=if dX b x y=true then(if b.f (nI x) (nI y)=true then some ("double" : Str) else none) else some ("place" : Str):=rfl
  cases z:dX b x y with
  |false=>
   rw[e,z] at hR;have z:jJ (b.h:Int) (b.w:Int) (.tuple [x,y])=false:=z;refine tJ ?_ hR
   show(!jJ (b.h:Int) (b.w:Int) (.tuple [x,y]))=true;rw[z];rfl
  |true=>
   rw[e,z,X9 rfl] at hR;obtain⟨r,c,rfl,rfl,kD,hc⟩:=w5 z;have z:jJ (b.h:Int) (b.w:Int) (.tuple [.int r,.int c])=true:=z;refine oI ?_ ?_
   ·show(!jJ (b.h:Int) (b.w:Int) (.tuple [.int r,.int c]))=false;rw[z];rfl
   refine⟨_,QX (j:=2) rfl,⟨ZP _,rfl,by have:=Z1 ((r:Int),(c:Int));exact QK (Y1 this)<|by decide⟩,?_⟩;have ea:(((ae b.h b.w b.f).map pairD).any λe=>Qy e<|.tuple [.int r,.int c])=b.f r c:=(Y2 _ ((r:Int),(c:Int))).trans<|Ah kD hc;have hR:R (Bt<|if b.f r c=true then some ("double" : Str) else none):=hR;show(match wY "put" "take" .none (.str "double") (.str "cell") .none "put" (if false=true then _ else(((ae b.h b.w b.f).map pairD).any λe=>Qy e<|.tuple [.int r,.int c])) with | some d=>R d | none=>False);rw[X8<|by decide,ea];unfold wY;rw[X9 rfl];cases zf:b.f r c with
   |false=>rw[zf] at hR;exact hR
   |true=>rw[zf] at hR;exact hR
 |take x y=>
  refine⟨⟨rfl,rfl,by show(Jk "take").depth<=50;decide⟩,?_⟩;refine tJ (by show([Jk "put",Jk "take"].any λe=>e.eqv<|.str "take")=true;decide) ?_
  refine⟨_,QX (j:=0) rfl,_,QX (j:=1) rfl,_,_,_,rfl,?_⟩;have e:ka (.take x y) b=if dX b x y=true then(if b.f (nI x) (nI y)=true then none else some ("cell" : Str)) else some ("place" : Str):=rfl
  cases z:dX b x y with
  |false=>
   rw[e,z] at hR;have z:jJ (b.h:Int) (b.w:Int) (.tuple [x,y])=false:=z;refine tJ ?_ hR
   show(!jJ (b.h:Int) (b.w:Int) (.tuple [x,y]))=true;rw[z];rfl
  |true=>
   rw[e,z,X9 rfl] at hR;obtain⟨r,c,rfl,rfl,kD,hc⟩:=w5 z;have z:jJ (b.h:Int) (b.w:Int) (.tuple [.int r,.int c])=true:=z;refine oI ?_ ?_
   ·show(!jJ (b.h:Int) (b.w:Int) (.tuple [.int r,.int c]))=false;rw[z];rfl
   refine⟨_,QX (j:=2) rfl,⟨ZP _,rfl,by have:=Z1 ((r:Int),(c:Int));exact QK (Y1 this)<|by decide⟩,?_⟩;have ea:(((ae b.h b.w b.f).map pairD).any λe=>Qy e<|.tuple [.int r,.int c])=b.f r c:=(Y2 _ ((r:Int),(c:Int))).trans<|Ah kD hc;have hR:R (Bt<|if b.f r c=true then none else some ("cell" : Str)):=hR;show(match wY "put" "take" .none (.str "double") (.str "cell") .none "take" (if false=true then _ else(((ae b.h b.w b.f).map pairD).any λe=>Qy e<|.tuple [.int r,.int c])) with | some d=>R d | none=>False);rw[X8<|by decide,ea];unfold wY;rw[X8<|show ¬("take" : Str) = "put" by decide,X9 rfl];cases zf:b.f r c with
   |false=>rw[zf] at hR;exact hR
   |true=>rw[zf] at hR;exact hR
 |row=>
  have e:ka .row b=if b.h=6 then some ("many" : Str) else none:=rfl
  rw[e] at hR;refine⟨⟨rfl,rfl,by show(Jk "row").depth<=50;decide⟩,?_⟩;refine oI (by show([Jk "put",Jk "take"].any λe=>e.eqv<|.str "row")=false;decide) ?_
  refine⟨_,QX (j:=0) rfl,gQ (λz=>?_) λz=>?_⟩
  ·have z:decide ((b.h:Int)=6)=true:=z;rw[X9 (show b.h=6 by have:=Y' z;omega)] at hR;exact hR
  ·have z:decide ((b.h:Int)=6)=false:=z;rw[X8 (show ¬b.h=6 by have:=Y_ z;omega)] at hR;exact hR
 |col=>
  have e:ka .col b=if b.w=6 then some ("many" : Str) else none:=rfl
  rw[e] at hR;refine⟨⟨rfl,rfl,by show(Jk "column").depth<=50;decide⟩,?_⟩;refine oI (by show([Jk "put",Jk "take"].any λe=>e.eqv<|.str "column")=false;decide) ?_
  refine⟨_,QX (j:=1) rfl,gQ (λz=>?_) λz=>?_⟩
  ·have z:decide ((b.w:Int)=6)=true:=z;rw[X9 (show b.w=6 by have:=Y' z;omega)] at hR;exact hR
  ·have z:decide ((b.w:Int)=6)=false:=z;rw[X8 (show ¬b.w=6 by have:=Y_ z;omega)] at hR;exact hR
 |turn=>
  refine⟨⟨rfl,rfl,by show(Jk "turn").depth<=50;decide⟩,?_⟩;exact oI (by show([Jk "put",Jk "take"].any λe=>e.eqv<|.str "turn")=false;decide) hR
 |rest=>
  refine⟨⟨rfl,rfl,by show(Jk "rest").depth<=50;decide⟩,?_⟩;exact oI (by show([Jk "put",Jk "take"].any λe=>e.eqv<|.str "rest")=false;decide) hR
 |bz=>
  refine⟨⟨rfl,rfl,by show(Jk "undo").depth<=50;decide⟩,?_⟩;exact oI (by show([Jk "put",Jk "take"].any λe=>e.eqv<|.str "undo")=false;decide) hR
def QxN:(["_law_cell", "_law_told"]:List Str).Nodup:=by decide
def UC:(["_law_row", "_law_column"]:List Str).Nodup:=by decide
def QxM:(["_law_column", "_law_cells", "_law_row"]:List Str).Nodup:=by decide
def QAS(F:aB P w K mg base "_law_behind" y4)(T:aC mg) :
  au P w K mg base ax 2 "_law_behind" (ZK false QFg):=by
 refine cZ ["_law_board", "_law_word", "_law_told", "_law_high", "_law_wide", "_law_cells", "_law_places", "_law_row"] 3 false F λao A outer s H E nD hr hU hI=>?_
 refine⟨_,QJ (uP (qv 0)<|iO rfl<|JO 3 (JO 4 (JO 5 iN nD rfl<|by first | exact QM rfl | exact QV rfl) nD rfl<|by first | exact QM rfl | exact QV rfl) nD rfl<|by first | exact QM rfl | exact QV rfl)
  (QJ (dQ (J8 jj (je hU) (qp 1) (QU fb)<|JL _) (Q7<|ZN<|Ys<|Zv (qv 3)<|Zv (qv 4)<|Zv (JV<|Yb JH YT (by rfl) T.tuple Yc<|cF (Jf<|Y9 QfY Qi2 (by rfl) T.sorted Bh<|cF (Jf<|Yg ZO YH (qp 5)<|Jf<|Ys<|Zv (JV<|Yb JH YT (by rfl) T.tuple Yc<|cF (qp 2) Q8) Q8) Q8) Q8) Q8) Zu)
  (QJ (dQ (J8 jj (je hU) (qp 1) (QU fb)<|JL _) (Q7<|ZN<|Ys<|Zv (qv 3)<|Zv (qv 4)<|Zv (JV<|Yb JH YT (by rfl) T.tuple Yc<|cF (Jf<|iu ["_law_cell", "_law_told"] [none,some 2] (mq<|qp 5) λcl ex s3 H3 C=>⟨(ZX 0 QxN rfl (QM rfl)<|QV rfl),(jQ<|J8 pG (pj hU) (qp 0) (Jf<|Yb JH YT (by rfl) T.tuple Yc<|cF (qp 1) Q8)<|JL _),(qv 0)⟩) Q8) Q8) Zu)
  (QJ (dQ (J8 jj (je hU) (qp 1) (QU fb)<|JL _) (Q7<|ZN<|Ys<|Zv (JV<|Yg ZO YH (qp 3)<|QU Jg)<|Zv (qv 4)<|Zv (qv 5) Q8) Zu)
  (QJ (dQ (J8 jj (je hU) (qp 1) (QU fb)<|JL _) (Q7<|ZN<|Ys<|Zv (qv 3)<|Zv (JV<|Yg ZO YH (qp 4)<|QU Jg)<|Zv (qv 5) Q8) Zu)
  (QJ (dQ (J8 jj (je hU) (qp 1) (QU fb)<|JL _) (Q7<|ZN<|Ys<|Zv (qv 4)<|Zv (qv 3)<|Zv (JV<|Yb JH YT (by rfl) T.tuple Yc<|cF (Jf<|Y9 Mg cV (by rfl) T.sorted Bh<|cF (Jf<|iu ["_law_row", "_law_column"] [none,none] (mq<|qp 5) λcl ex s3 H3 C=>⟨(iO rfl<|JO 0 (JO 1 iN UC rfl (QM rfl)<|QV rfl) UC rfl (QM rfl)<|QV rfl),rY,(JV<|Ys<|Zv (qv 1)<|Zv (qv 0) Q8)⟩) Q8) Q8) Q8) Zu)
  (QJ (xJ 6 (g6 Q8) nD)
  (QJ (pE Jj rfl (u5 (by rfl) T.range<|qp 3) (ZX 7 nD rfl<|by first | exact QM rfl | exact QV rfl)
   (Q7<|Qz3 6<|Jf<|iu ["_law_column", "_law_cells", "_law_row"] [none,some 5,some 7] (u5 (by rfl) T.range<|qp 4) λcl ex s3 H3 C=>⟨(ZX 0 QxM rfl (QM rfl)<|QV rfl),(jQ<|J8 vh (jM hI) (Jf<|Ys<|Zv (qv 2)<|Zv (qv 0) Q8) (qp 1)<|by rfl),(JV<|Ys<|Zv (qv 2)<|Zv (qv 0) Q8)⟩))
  (Q7<|ZN<|Ys<|Zv (qv 3)<|Zv (qv 4)<|Zv (JV<|Yb JH YT (by rfl) T.tuple Yc<|cF (qp 6) Q8) Q8)))))))),λargs R EX h=>?_⟩
 obtain⟨b,d,rfl,o,hd,hu,hR⟩:=h;obtain⟨bh,bw,bf⟩:=b;obtain⟨h1,h6,w1,w6⟩:=o;have h1:=h1;have h6:bh<=6:=h6;have w1:=w1;have w6:bw<=6:=w6;have ln:=QK (YS bw bf bh)<|YJ h6 w6;have hb:∀p∈ae bh bw bf,0<=p.1/\p.1<bh/\0<=p.2/\p.2<bw:=λp hp=>YI hp
 cases d with
 |put x y=>
  obtain⟨r,c,rfl,rfl,hr,hc,hf⟩:=Qyi hd;have hr:r<bh:=hr;have hc:c<bw:=hc;have hf:bf r c=false:=hf;have hR:R (bQ bh bw<|ae bh bw<|wO bf r c true):=hR;refine⟨rfl,?_⟩;refine⟨by show((ae bh bw bf).map pairD).length+1<=1000000;rw[Qb];omega,?_⟩;have es:(ae bh bw bf).map pairD++[sk [.int (r:Int),.int (c:Int)]]=(ae bh bw bf++[((r:Int),(c:Int))]).map pairD:=by rw[Q3];rfl
  show xK [.tuple<|(ae bh bw bf).map pairD++[sk [.int (r:Int),.int (c:Int)]]] _;rw[es];refine Qii (Us hf) (by rw[Qj];show _+1<64;omega) (λp hp=>?_) λM pM pw=>?_
  ·rcases QP.mp hp with hp | hp
   ·have:=hb p hp;omega
   ·rw[Qo.mp hp];show 0<=(c:Int)/\(c:Int)<64;omega
  ·rw[Qi0 hr hc pM pw];exact hR
 |take x y=>
  obtain⟨r,c,rfl,rfl,hr,hc,hf⟩:=QtK hd;have hR:R (bQ bh bw<|ae bh bw<|wO bf r c false):=hR;refine⟨rfl,?_⟩;refine kg (λd=>if(λq:Int×Int => !decide (q=((r:Int),(c:Int)))) (cN d)=true then some d else none) (λd hd k1 k2 h1 h2=>?_) ?_
  ·obtain⟨q,_,rfl⟩:=Qh.mp hd;have h1:(if(!decide (q=((r:Int),(c:Int))))=true then some (pairD q) else none)=none->k1:=h1;have h2:∀e,(if(!decide (q=((r:Int),(c:Int))))=true then some (pairD q) else none)=some e->k2 e:=h2
   refine⟨⟨rfl,rfl,.inl (by have:=Z1 q;omega)⟩,?_⟩;show if(!Qy (pairD q) (pairD ((r:Int),(c:Int))))=true then k2 (pairD q) else k1
   rw[Em];by_cases z:(!decide (q=((r:Int),(c:Int))))=true
   ·rw[X9 z];exact h2 _<|X9 z
   ·rw[X8 z];exact h1<|X8 z
  ·rw[vp λq:Int×Int => !decide (q=((r:Int),(c:Int))),Vk];exact hR
 |row=>
  have hR:R (bQ (bh+1:Nat) bw<|ae (bh+1) bw λr c=>bf r c&&decide (r<bh)):=hR;rw[QiZ] at hR;exact⟨rfl,hR⟩
 |col=>
  have hR:R (bQ bh (bw+1:Nat)<|ae bh (bw+1) λr c=>bf r c&&decide (c<bw)):=hR;rw[Qi1] at hR;exact⟨rfl,hR⟩
 |turn=>
  have hR:R (bQ bw bh<|ae bw bh<|tF bf):=hR;refine⟨rfl,?_⟩;have hb:∀p∈ae bh bw bf,0<=p.1/\p.1<bh/\0<=p.2/\p.2<bw:=λp hp=>YI hp
  have yR:(ae bh bw bf).Nodup:=(aE bw bf bh).imp jO;have yQ:(ae bw bh<|tF bf).Nodup:=(aE bh (tF bf) bw).imp jO;have ln:(ae bh bw bf).length<=36:=QK (YS bw bf bh)<|YJ h6 w6;have es:((ae bh bw bf).map pairD).map (λd=>pairD ((cN d).2,(cN d).1))=((ae bh bw bf).map λp=>(p.2,p.1)).map pairD:=by rw[QD,QD];rfl
  have yP:((ae bh bw bf).map λp=>(p.2,p.1)).Nodup:=Bs.mpr<|yR.imp λ{a b} fi e=>fi<|rV (ZD e).2 (ZD e).1;refine uT (λd=>pairD ((cN d).2,(cN d).1)) (λd hd k2 hk=>?_) ?_
  ·obtain⟨p,_,rfl⟩:=Qh.mp hd;exact⟨rfl,hk⟩
  ·rw[es];refine cP yP (by rw[Qb];omega) (λp hp=>?_) λM pM pw=>?_
   ·obtain⟨q,hq,rfl⟩:=Qh.mp hp;have:=hb q hq;show 0<=q.1/\q.1<64;omega
   ·have pc:M.Perm (ae bw bh<|tF bf):=pM.trans ((JN yP yQ).mpr λp=>by
     rw[Qh,JS];constructor
     ·rintro⟨q,hq,rfl⟩;obtain⟨r,c,hr,hc,hf,rfl⟩:=JS.mp hq;exact⟨c,r,hc,hr,hf,rfl⟩
     ·rintro⟨r,c,hr,hc,hf,rfl⟩;exact⟨((c:Int),(r:Int)),JS.mpr ⟨c,r,hc,hr,hf,rfl⟩,rfl⟩)
    have eM:M=ae bw bh (tF bf):=Yd (le:=a_) (λa b _ _ h1 h2=>by rcases h1 with x | x<;>rcases h2 with y | y<;>omega) pw (aE bh (tF bf) bw) pc;rw[eM];exact hR
 |rest=>
  have hR:R (bQ bh bw<|ae bh bw<|iH bf):=hR;refine⟨rfl,⟨by omega,by omega⟩,Qya (λi δ=>∃x7,δ=[.v (Bo.mk bh bw bf).d,.v<|.str "rest",.v<|.list [],.v<|.int bh,.v<|.int bw,.v<|.tuple<|(ae bh bw bf).map pairD,.own<|(ae i bw<|iH bf).map pairD,x7]) ⟨_,rfl⟩ ?_ ?_⟩
  ·rintro i δ hi ⟨x7,rfl⟩;rw[Qx] at hi;have fl:=YS bw (iH bf) i;have fr:=Lu i bw<|iH bf;have fm:i*bw<=5*6:=YJ (by omega) w6;refine⟨⟨by omega,by omega⟩,kg (λd=>match d with | .int c=>if(!bf i c.toNat)=true then some (pairD ((i:Int),c)) else none | _=>none) (λd hd k1 k2 h1 h2=>?_) ?_⟩
   ·obtain⟨c,hc⟩:=J3.mp hd;obtain⟨i7,rfl⟩:=u7 hc;rw[Qx] at i7;have h1:(if(!bf i (0+(c:Int)).toNat)=true then some (pairD ((i:Int),0+(c:Int))) else none)=none->k1:=h1;have h2:∀e,(if(!bf i (0+(c:Int)).toNat)=true then some (pairD ((i:Int),0+(c:Int))) else none)=some e->k2 e:=h2
    rw[show(0+(c:Int)).toNat=c by omega] at h1 h2;refine⟨⟨ZP _,rfl,by have:=Z1 ((0+(i:Int)),(0+(c:Int)));exact QK (Y1 this)<|by decide⟩,?_⟩;show if(!((ae bh bw bf).map pairD).any λe=>Qy e<|pairD (0+(i:Int),0+(c:Int)))=true then k2 (pairD (0+(i:Int),0+(c:Int))) else k1
    rw[Y2,show(0:Int)+(i:Int)=(i:Int) by omega,show(0:Int)+(c:Int)=(c:Int) by omega,Ah hi i7];rw[show(0:Int)+(c:Int)=(c:Int) by omega] at h1 h2;by_cases z:(!bf i c)=true
    ·rw[X9 z];exact h2 _<|X9 z
    ·rw[X8 z];exact h1<|X8 z
   ·have e:(gX 0 (bw:Int).toNat).filterMap (λd=>match d with | .int c=>if(!bf i c.toNat)=true then some (pairD ((i:Int),c)) else none | _=>none)=(dP i bw<|iH bf).map pairD:=by
     unfold gX dP;rw[Z9,QD,Qx];refine uM λc _=>?_
     show(if(!bf i (0+(c:Int)).toNat)=true then some (pairD ((i:Int),0+(c:Int))) else none)=if(!bf i c)=true then some (pairD ((i:Int),(c:Int))) else none
     rw[show(0+(c:Int)).toNat=c by omega,show(0:Int)+(c:Int)=(c:Int) by omega]
    rw[e];refine⟨by rw[Qb,Qb];omega,.v<|.int<|0+(i:Int),?_⟩;rw[vv,Q3];rfl
  ·rintro δ ⟨x7,rfl⟩;rw[Qx];exact hR
 |bz=>exact Z_ rfl hu
end
end Rk
namespace Rk
open L2 _root_.Rd
abbrev zZ:Str:=⟨#[35]⟩
abbrev zY:Str:=⟨#[46]⟩
abbrev qT:Str:=⟨#[47]⟩
abbrev fM:Str:=⟨#[]⟩
def Pu:(Qe "/")=qT:=by decide
def CZ:(Qe "")=fM:=by decide
def kR(L:List (Int×Int))(r c:Nat):Str:=if((r:Int),(c:Int))∈L then zZ else zY
def q0(L:List (Int×Int))(w r:Nat):Str:=jR fM<|(Qv w).map<|kR L r
def nX(h w:Nat)(L:List (Int×Int)):List Str:=(Qv h).map<|q0 L w
def nR(h w:Nat)(L:List (Int×Int)):Str:=jR qT<|nX h w L
def LV(sep:Str)(ts:List Str):jR sep ts=mw sep ts:=MC sep ts
def sh(sep:Str):∀(t:Str)(ts:List Str),(mw sep (t::ts)).cps.toList=t.cps.toList++ts.flatMap λu=>sep.cps.toList++u.cps.toList
 |t,[]=>by simp[mw]
 |t,u::ts=>by
  show(t++sep++mw sep (u::ts)).cps.toList=_;rw[Bd,Bd,UN,sh sep u ts];simp
def Qmo:∀ts:List Str,(mw fM ts).cps.toList=ts.flatMap λu=>u.cps.toList
 |[]=>rfl
 |t::ts=>by rw[sh];simp
def QnQ(L:List (Int×Int))(r c:Nat):(kR L r c).cps.toList=[if((r:Int),(c:Int))∈L then 35 else 46]:=by
 unfold kR;split<;>rfl
def V3(L:List (Int×Int))(w r:Nat):(q0 L w r).cps.toList=(Qv w).map λ(c:Nat)=>if((r:Int),(c:Int))∈L then 35 else 46:=by
 unfold q0;rw[LV,Qmo,LL];simp only[QnQ];rw[MD]
where
 MD {α β:Type} {f:α->β} {l:List α}:(l.flatMap λx=>[f x])=l.map f:=by
  induction l with
  |nil=>rfl
  |cons a l ih=>rw[Zl,ih];rfl
def QrZ(L:List (Int×Int))(w r:Nat):(q0 L w r).length=w:=by
 have h:=congrArg List.length<|V3 L w r
 simpa [Str.length] using h
def T5:∀{a b:List Nat}{x y:List Nat},c∉a->c∉b->a++c::x=b++c::y->a=b/\x=y
 |[],[],_,_,_,_,h=>⟨rfl,(vq h).2⟩
 |[],b::bs,_,_,_,hb,h=>Z_ (vq h).1 λz=>hb<|z ▸ Q1
 |a::as,[],_,_,ha,_,h=>Z_ (vq h).1 λz=>ha<|z ▸ Q1
 |a::as,b::bs,_,_,ha,hb,h=>by
  obtain⟨e1,e2⟩:=vq h;obtain⟨r1,r2⟩:=T5 (λz=>ha<|QQ _ z) (λz=>hb<|QQ _ z) e2;exact⟨by rw[e1,r1],r2⟩
def U1{b:Str}(h:a.cps.toList=b.cps.toList):a=b:=Str.ext'<|Sg.mp h
def Vy:∀{ts us:List Str}{t u:Str},(∀p∈t::ts,c∉p.cps.toList)->(∀p∈u::us,c∉p.cps.toList)->(mw ⟨#[c]⟩ (t::ts)).cps.toList=(mw ⟨#[c]⟩ (u::us)).cps.toList->t::ts=u::us
 |[],[],t,u,_,_,h=>by
  have e:t.cps.toList=u.cps.toList:=h;rw[U1 e]
 |[],v::us,t,u,ht,_,h=>by
  rw[sh,sh] at h;simp at h;exact Z_ (by rw[h];simp)<|ht t Q1
 |s::ts,[],t,u,_,hu,h=>by
  rw[sh,sh] at h;simp at h;exact Z_ (by rw[<- h];simp)<|hu u Q1
 |s::ts,v::us,t,u,ht,hu,h=>by
  have e:t.cps.toList++c::(mw ⟨#[c]⟩ (s::ts)).cps.toList=u.cps.toList++c::(mw ⟨#[c]⟩ (v::us)).cps.toList:=by
   simpa [sh] using h
  obtain⟨e1,e2⟩:=T5 (ht t Q1) (hu u Q1) e;rw[U1 e1,Vy (λp hp=>ht p<|QQ _ hp) (λp hp=>hu p<|QQ _ hp) e2]
def V'(x y:Str):∃t ts,YE x y=t::ts:=by
 unfold YE;split
 ·exact⟨_,_,rfl⟩
 ·split
  ·exact⟨_,_,rfl⟩
  ·rw[QhV];exact StrLaws.partsFrom_ne x y.length 0 _
def QlY(h:∀p∈t::ts,c∉p.cps.toList):YE (jR ⟨#[c]⟩ (t::ts)) ⟨#[c]⟩=t::ts:=by
 obtain⟨u,us,e⟩:=V' (jR ⟨#[c]⟩ (t::ts)) ⟨#[c]⟩;have h1:=StrLaws.split_free (jR ⟨#[c]⟩ (t::ts)) c;have h2:=StrLaws.join_split (jR ⟨#[c]⟩ (t::ts)) ⟨#[c]⟩;rw[e] at h1 h2 ⊢;exact Vy h1 h (by rw[h2,LV])
def Qpb(h w:Nat)(L:List (Int×Int)):(nX h w L).length=h:=by
 unfold nX;rw[Qb,Q5]
def vc(h:∀y∈ts,y.length<=B)(hz:ts.length*B+ts.length*sep.length<=16777216):JoinOk sep ts=true:=by
 unfold JoinOk;rw[StrLaws.joinFits h hz];rfl
def Qfr(L:List (Int×Int))(hw:w<=6)(r:Nat):JoinOk fM ((Qv w).map<|kR L r)=true:=by
 refine vc (B:=1) (λy hy=>?_) ?_
 ·obtain⟨c,_,rfl⟩:=Qh.mp hy;unfold kR;split<;>exact Qd _
 ·rw[Qb,Q5];show w*1+w*0<=_;omega
def Qd6(L:List (Int×Int))(hh:h<=6)(hw:w<=6):JoinOk qT (nX h w L)=true:=by
 refine vc (B:=6) (λy hy=>?_) ?_
 ·obtain⟨c,_,rfl⟩:=Qh.mp hy;rw[QrZ];exact hw
 ·rw[Qpb];show h*6+h*1<=_;omega
def UL(L:List (Int×Int))(h1:1<=h):Ji (.str<|nR h w L)=true:=by
 show O3 (nR h w L)=true;have e:(nR h w L).cps.toList.all (λc=>decide (c<0x110000))=true:=by
  rw[ZG];intro c hc;unfold nR at hc;rw[LV] at hc;cases q:nX h w L with
  |nil=>rw[q] at hc;simp[mw,r8] at hc
  |cons t ts=>
   have f:∀p∈nX h w L,∀c∈p.cps.toList,c<0x110000:=λp hp c hc=>by
    obtain⟨r,_,rfl⟩:=Qh.mp hp;rw[V3] at hc;obtain⟨k,_,e⟩:=Qh.mp hc;split at e<;>omega
   rw[q] at hc f;rw[sh] at hc;refine X_ ?_
   rcases QP.mp hc with z | z
   ·exact f t Q1 c z
   ·obtain⟨u,hu,hz⟩:=Z7.mp z;rcases QP.mp hz with y | y
    ·have:=y;simp at this;omega
    ·exact f u (QQ _ hu) c y
 unfold O3;rw[<- Sf];exact e
end Rk
namespace L2
def gc(z:Str):Bool:=z.cps.toList.all λc=>decide (c<128)
def A2:gc z=true↔∀c∈z.cps.toList,c<128:=by
 unfold gc;rw[ZG];exact⟨λh c hc=>Y'<|h c hc,λh c hc=>X_<|h c hc⟩
def A3(h:gc z=true):Ji (.str z)=true:=by
 show z.cps.all (λc=>decide (c<0x110000))=true;rw[<- Sf,ZG];intro c hc;have:=A2.mp h c hc;exact X_ (by omega)
def DJ(hx:gc x=true)(hy:gc y=true):gc (x++y)=true:=by
 have e:(x++y).cps.toList=x.cps.toList++y.cps.toList:=UN;rw[A2,e];intro c hc;rcases QP.mp hc with h | h
 ·exact A2.mp hx c h
 ·exact A2.mp hy c h
def VJ(hs:gc sep=true):∀{ts:List Str},(∀t∈ts,gc t=true)->gc (mw sep ts)=true
 |[],_=>rfl
 |[x],h=>h x<|Qo.mpr rfl
 |x::y::r,h=>DJ (DJ (h x<|Q1 ..) hs)<|VJ hs λt ht=>h t<|QQ _ ht
def Kz(hs:gc sep=true)(h:∀t∈ts,gc t=true):gc (jR sep ts)=true:=by
 show gc (QjA sep ts)=true;rw[MC];exact VJ hs h
section
variable{X:Cx}
end
end L2
namespace Rk
open L2 _root_.Rd
open Dl
open Rt
def oQ(wd:Str)(ns:List Int):Prop:=(ns=[]/\wd∈(["row", "column", "turn", "rest", "undo"]:List Str))∨∃x y,ns=[x,y]/\(wd = "put" ∨ wd = "take")
def P1:DF:=λargs R _=>∃b:Bo,args=[.eJ,.v b.d,.v<|.int 0]/\b.ok/\∀(wd:Str)(ns:List Int),oQ wd ns->(∀n∈ns,0<=n/\n<6)->R (.tuple [.str wd,.list<|ns.map Qp])
def Cg{x y:Int}(x0:0<=x)(x6:x<6)(y0:0<=y)(y6:y<6):∀n∈[x,y],0<=n/\n<6:=λn hn=>by
 rcases Qt.mp hn with rfl | hn
 ·exact⟨x0,x6⟩
 ·rw[Qo.mp hn];exact⟨y0,y6⟩
def Eh{D:rg}{wd:Str}{x0 x1 x2 x3 x4 x5 x6 x7 x8:Sl}{odd x y:Xc}{wh:Int}{bad:Bool}(hb:bad=false)(hR:D.rt<|.tuple [.str wd,.list [x,y]]) :
  (o9 (qS (lX<|f_ 11) (By 12 (f_ 10)<|kI 9) rC)<|xm (dC<|Jk wd) 12) D [x0,x1,x2,x3,x4,x5,x6,x7,x8,.v odd,.v<|.int wh,.v<|.bool bad,.own [x,y]]:=by
 refine⟨Ju,gQ (λz=>?_) λ_=>hR⟩;have z:=z;rw[hb] at z;cases z
def QpK{R:Xc->Prop}{x2:Sl}{bd odd:Xc}{bh bw:Nat}{bf:Nat->Nat->Bool}{way r c wh:Int}{bad:Bool}(hb:bad=false)(h6:bh<=6)(w6:bw<=6)(y0:0<=way)(y1:way<16)(r0:0<=r)(r1:r<6)(c0:0<=c)(c1:c<6)(hR:∀(wd:Str)(ns:List Int),oQ wd ns->(∀n∈ns,0<=n/\n<6)->R (.tuple [.str wd,.list<|ns.map Qp])) :
  (o9 (CT 12<|Bw<|fV (kI 7)<|fV (kI 8) md)
   (o9 (qS (gI<|eX (tH λi j=>su<|decide (i<j)) (f_ 6)<|dC<|Qp 8) (o9 (qS (lX<|f_ 11) (By 12 (f_ 10)<|kI 9) rC)<|xm (dC<|Jk "put") 12) rC)
   (o9 (qS (gI<|eX (tH λi j=>su<|decide (i<j)) (f_ 6)<|dC<|Qp 10)
    (o9 (qS (MV (gI<|eX Gd (f_ 5)<|wV md)<|gI<|eX (tH λi j=>su<|decide (j<i)) (pA Iq<|Fo 0<|sV (dC<|Qp 4) M')<|dC<|Qp 0)
     (CT 12<|ui HV<|fV (eX za (f_ 5)<|eX (Oh (λ_ j=>0<j) λi j=>Qp<|i % j) (eX QFi (eX QEW (f_ 7)<|f_ 4)<|f_ 8)<|ui Nc<|fV (f_ 5) md) md) rC)
     (o9 (qS (lX<|f_ 11) (By 12 (f_ 10)<|kI 9) rC)<|xm (dC<|Jk "take") 12)) rC)
   (HH<|wV<|fV (eX za (Bw<|fV (dC<|Jk "row")<|fV (dC<|Jk "column")<|fV (dC<|Jk "turn")<|fV (dC<|Jk "rest")<|fV (dC<|Jk "undo")<|fV (dC<|Jk "row") md)<|eX (tH λi j=>Qp<|i - j) (f_ 6)<|dC<|Qp 10)<|fV (Bw md) md))))
  (rE false R XF) [.eJ,.v bd,x2,.v<|.int bh,.v<|.int bw,.v<|.tuple<|(ae bh bw bf).map pairD,.v<|.int way,.v<|.int r,.v<|.int c,.v odd,.v<|.int wh,.v<|.bool bad,.no]:=by
 have ln:(ae bh bw bf).length<=36:=QK (YS bw bf bh)<|YJ h6 w6;refine gQ (λz=>?_) λz=>?_
 ·exact Eh hb (hR _ [r,c] (.inr ⟨_,_,rfl,by first | exact .inl rfl | exact .inr rfl⟩)<|Cg r0 r1 c0 c1)
 ·refine gQ (λz2=>?_) λz2=>?_
  ·refine⟨⟨ZP _,rfl,.inr<|by decide⟩,?_⟩;refine gQ (λne=>⟨_,rfl,by decide,by decide,λq _ _=>gQ (λ_=>?_) λ_=>Eh hb<|hR _ [r,c] (.inr ⟨_,_,rfl,by first | exact .inl rfl | exact .inr rfl⟩)<|Cg r0 r1 c0 c1⟩) λ_=>Eh hb (hR _ [r,c] (.inr ⟨_,_,rfl,by first | exact .inl rfl | exact .inr rfl⟩)<|Cg r0 r1 c0 c1)
   have lp:0<((ae bh bw bf).map pairD).length:=by
    cases e:(ae bh bw bf).map pairD with
    |nil=>
     have ne:(!Qy (.tuple<|(ae bh bw bf).map pairD) (.tuple []))=true:=ne;rw[e] at ne;cases ne
    |cons a l=>exact Kt _
   refine⟨.inl<|.inl ⟨by omega,by omega⟩,by show(0:Int)<(((ae bh bw bf).map pairD).length:Int);omega,HZ (O1 _<|by omega) (S1 _<|by omega) λd hd=>?_⟩;obtain⟨p,hp,rfl⟩:=Qh.mp hd;have bp:=YI hp;exact Eh hb (hR _ [p.1,p.2] (.inr ⟨_,_,rfl,.inr rfl⟩)<|Cg bp.1 (by omega) bp.2.2.1<|by omega)
  ·have z:=Y_ z2;refine HZ (by omega) (by show _<(6:Int);omega) λwd hw=>?_
   obtain⟨d,rfl,e⟩:=xP (p:=λwd=>∃d:Str,wd=Jk d/\oQ d []) ⟨_,rfl,.inl ⟨rfl,by decide⟩⟩ (xP ⟨_,rfl,.inl ⟨rfl,by decide⟩⟩<|xP ⟨_,rfl,.inl ⟨rfl,by decide⟩⟩<|xP ⟨_,rfl,.inl ⟨rfl,by decide⟩⟩<|xP ⟨_,rfl,.inl ⟨rfl,by decide⟩⟩<|xP ⟨_,rfl,.inl ⟨rfl,by decide⟩⟩ QCj) wd hw;exact hR _ [] e λn hn=>nomatch hn
section
variable{P:QB}{w:Jh}{K:Ws}{mg:Str->Option Xd}{base:ZF}
def Qs0(F:aB P w K mg base "_law_deed" QA8)(T:aC mg)
  (c1:au P w K mg base ax 1 "_law_take"<|ZK true Iq) :
  au P w K mg base ax 2 "_law_deed" (ZK false P1):=by
 refine cZ ["_law_pot_here", "_law_board", "_law_odds", "_law_high", "_law_wide", "_law_cells", "_law_way", "_law_row", "_law_column", "_law_odd", "_law_which", "_law_bad", "_law_told"] 3 false F λao A outer s H E nD hr hU hI=>?_
 refine⟨_,QJ (uP (qv 1)<|iO rfl<|JO 3 (JO 4 (JO 5 iN nD rfl<|by first | exact QM rfl | exact QV rfl) nD rfl<|by first | exact QM rfl | exact QV rfl) nD rfl<|by first | exact QM rfl | exact QV rfl)
  (QJ (ZH 6 (JV<|kT c1 hr<|uQ 0<|YM Jg Zq) nD)
  (QJ (Qz1 7 8 (Zv (JV<|kT c1 hr<|uQ 0<|YM (qv 3) Zq)<|Zv (JV<|kT c1 hr<|uQ 0<|YM (qv 4) Zq) Q8) nD)
  (QJ (ZH 9 (YX Jm J6 (Jf<|g6<|Zv (qv 3)<|Zv (qv 4)<|Zv (JV<|Ia<|QU Jg)<|Zv (JV<|Yg IW w_ (QU Jg)<|QU Jg)<|Zv Fl<|Zv Fl<|Zv xj<|Zv fb<|Zv (JV<|Ys<|Zv Jg Q8)<|Zv (JV<|g6<|Zv Jg Q8)<|Zv QDG<|Zv Jg Q8) (Jf<|kT c1 hr<|uQ 0<|YM Jg Zq) λ_ _=>rfl) nD)
  (QJ (ZH 10 (JV<|kT c1 hr<|uQ 0<|YM Jg Zq) nD)
  (QJ (ZH 11 (JV<|Ag xi rQ (Jf<|kT c1 hr<|uQ 0<|YM Jg Zq) (qp 2)<|JL _) nD)
  (QJ (xJ 12 (g6<|Zv (qv 7)<|Zv (qv 8) Q8) nD)
  (QJ (dQ (J8 xi rQ (qp 6) (QU Jg)<|JL _) (QJ (dQ (xy<|qp 11) (Q7<|SH 12 (qv 9)<|qp 10) Zu)
  (Q7<|V0 12 fb)) Zu)
  (QJ (dQ (J8 xi rQ (qp 6) (QU Jg)<|JL _) (QJ (dQ (kO<|uR (J8 pG (pj hU) (qp 5) (Jf<|Ys Q8)<|JL _)<|u6<|J8 Il rQ (Jf<|kT c1 hr<|uQ 0<|YM Jg Zq) (QU Jg)<|JL _) (Q7<|xJ 12 (Yb EL KA (by rfl) T.list DN<|cF (QU<|YX Jm J6 (qp 5) (Jf<|Yg Ap w_ (Jf<|Yg ZO YH (Jf<|Yg Uy Sj (qp 7)<|qp 4)<|qp 8)<|Jf<|Y9 Bi AD (by rfl) T.len kS<|cF (qp 5) Q8) λ_ _=>rfl) Q8) nD) Zu)
  (QJ (dQ (xy<|qp 11) (Q7<|SH 12 (qv 9)<|qp 10) Zu)
  (Q7<|V0 12 fb))) Zu)
  (Q7<|ZN<|Ys<|Zv (YX Jm J6 (Jf<|g6<|Zv fb<|Zv fb<|Zv fb<|Zv fb<|Zv fb<|Zv fb Q8) (Jf<|Yg mn nY (qp 6)<|QU Jg) λ_ _=>rfl)<|Zv (JV<|g6 Q8) Q8))))))))),λargs R EX h=>?_⟩
 obtain⟨b,rfl,o,hR⟩:=h;obtain⟨bh,bw,bf⟩:=b;obtain⟨h1,h6,w1,w6⟩:=o;have h1:1<=bh:=h1;have h6:bh<=6:=h6;have w1:1<=bw:=w1;have w6:bw<=6:=w6;refine⟨rfl,_,rfl,by decide,by decide,λway y0 y1=>?_⟩;refine⟨_,rfl,by show(0:Int)<(bh:Int);omega,by show(bh:Int)<=10^40;omega,λr r0 r1=>⟨_,rfl,by show(0:Int)<(bw:Int);omega,by show(bw:Int)<=10^40;omega,λc c0 c1=>?_⟩⟩;refine⟨⟨by decide,by decide⟩,_,rfl,by decide,by decide,λk k0 k1=>HZ k0 k1 λodd _=>?_⟩;refine⟨_,rfl,by decide,by decide,λwh v0 v1=>⟨_,rfl,by decide,by decide,λbad b0 _=>?_⟩⟩;exact QpK (X'<|by omega) h6 w6 y0 y1 r0 (by omega) c0 (by omega) hR
end
abbrev QCe:Zo:=jP (top 51) 0
abbrev z6:Zo:=jP (top 51) 1
abbrev QB9:Zo:=jP (top 51) 2
abbrev z5:Zo:=jP (top 51) 3
abbrev z7:Zo:=jP (top 51) 4
abbrev QB8:Zo:=jP (top 51) 5
abbrev QCa:Zo:=jP (top 51) 6
abbrev QB7:Zo:=jP (top 51) 7
abbrev QCd:Zo:=jP (top 51) 8
abbrev RI:Zo:=jP (top 51) 9
abbrev To:Zo:=jP (top 51) 10
abbrev QCc:Zo:=jP (top 51) 11
def B0:Bo:=⟨1,1,λ_ _=>false⟩
def HL:B0.ok:=⟨by decide,by decide,by decide,by decide⟩
def ke:¬(("kept" : Str) = "earlier"):=by decide
def ek:¬(("earlier" : Str) = "kept"):=by decide
def j_(v:V)(l:Xb):List (Str×V):=dF "earlier" (.ref l)<|dF "kept" v []
def QB5(v:V)(l:Xb):j_ v l=([("kept",v),("earlier",V.ref l)]:List (Str×V)):=by
 show(if("kept" : Str) = "earlier" then[(("kept" : Str),V.ref l)] else(("kept" : Str),v)::dF "earlier" (V.ref l) [])=([("kept",v),("earlier",V.ref l)]:List (Str×V))
 all_goals rfl
def Y7(v:V)(l:Xb):(j_ v l).lookup ("kept" : Str)=some v:=by
 unfold j_;rw[Yr,X8 ke,Yr,X9 rfl]
def Me(v:V)(l:Xb):(j_ v l).lookup ("earlier" : Str)=some (.ref l):=by
 unfold j_;rw[Yr,X9 rfl]
def gJ(v:V)(l:Xb){m:Str}(h1:¬m = "earlier")(h2:¬m = "kept"):(j_ v l).lookup m=none:=by
 unfold j_;rw[Yr,X8 h1,Yr,X8 h2]
 all_goals rfl
def Tq(v y:V)(l:Xb):dF "kept" y (j_ v l)=j_ y l:=by
 show(if("kept" : Str) = "kept" then(("kept" : Str),y)::[(("earlier" : Str),V.ref l)] else _)=([("kept",y),("earlier",V.ref l)]:List (Str×V));rw[X9 rfl]
def Tp(v:V)(l:Xb):(j_ v l).length<1000:=by rw[QB5];show 2<1000;decide
structure bE (C:Xb) (H:Hp) (b l:Xb) (es:List Bo) (k:Bo):Prop where
 at_:∃dx v xs,H b=some (.ins C dx<|j_ v l)/\H l=some (.lst xs)/\DA N0 H v k.d/\aJ N0 H xs (es.map Bo.d)
def K2(b l:Xb)(H H':Hp):Prop:=∀a o,a≠b->a≠l->H a=some o->H' a=some o
def K2.of(s:ag H H'):K2 b l H H':=λa o _ _ e=>s a o e
def K2.trans(x:K2 b l H H1)(y:K2 b l H1 H2):K2 b l H H2:=λa o h1 h2 e=>y a o h1 h2<|x a o h1 h2 e
def bE.same(x:bE C H b l es k)(s:ag H H'):bE C H' b l es k:=by
 obtain⟨dx,v,xs,e1,e2,d1,d2⟩:=x.at_;exact⟨dx,v,xs,s _ _ e1,s _ _ e2,d1.same s,d2.same s⟩
def HK(k:Bo):qP k.d=true:=QEf _ _ _
def QBt(es:List Bo):nL (es.map Bo.d)=true:=Vq λd hd=>by
 obtain⟨k,_,rfl⟩:=Qh.mp hd;exact HK k
def K2.cH(k:K2 b l H H')(e1:H b=some (.ins C dx fs))(e2:H l=some (.lst xs)):∀a ys,H a=some (.tup ys)->H' a=some (.tup ys):=λa ys e=>k a _ (YB e e1 nofun) (YB e e2 nofun) e
def pe{k:Bo}(t:∀a ys,H a=some (.tup ys)->H' a=some (.tup ys))(q:DA N0 H v k.d):DA N0 H' v k.d:=QBI t (λ_ z=>z.elim) _ _ (HK k) q
def uU{es:List Bo}(t:∀a ys,H a=some (.tup ys)->H' a=some (.tup ys))(q:aJ N0 H xs<|es.map Bo.d):aJ N0 H' xs (es.map Bo.d):=QBH t (λ_ z=>z.elim) _ _ (QBt es) q
structure eF (K:Ws) (C:Xb):Prop where
 cl:jn K C
 nK:bN K C "kept"
 nE:bN K C "earlier"
def ez(d:a9)(es:List Bo)(k:Bo):Option Str:=match d with
 |.bz=>if es.isEmpty=true then some ("deed" : Str) else none
 |d=>ka d k
def mj(d:a9)(es:List Bo)(k:Bo):List Bo×Bo:=match d with
 |.bz=>(es.dropLast,es.getLastD k)
 |d=>(es++[k],il d k)
def QFk(C:Xb)(xc:Str->Xb)(H:Hp)(Q:VK)(E:XK)(b l:Xb)(es:List Bo)(k:Bo)(d:a9):Prop:=
 (∀wd,ez d es k=some wd->∀H',ag H H'->E (.ref<|xc wd) none H')/\(ez d es k=none->∀H',K2 b l H H'->bE C H' b l (mj d es k).1 (mj d es k).2->Q .aH H')
def RX(C:Xb):Sp:=λvs H Q _=>∃(p dx:Xb),vs=[.ref p]/\H p=some (.ins C dx [])/\∀(l:Xb)(H':Hp),H l=none->(∀a o,a≠p->H a=some o->H' a=some o)->bE C H' p l [] B0->Q .aH H'
def uS(C:Xb):Sp:=λvs H Q _=>∃(b l:Xb)(es:List Bo)(k:Bo)(v:V)(k':Bo),vs=[.ref b,v]/\bE C H b l es k/\es.length<=1000/\DA N0 H v k'.d/\∀H',K2 b l H H'->bE C H' b l (es++[k]) k'->Q .aH H'
def CY(C:Xb)(xc:Str->Xb)(mk:Xc->Xc->a9):Sp:=λvs H Q E=>∃(b l:Xb)(es:List Bo)(k:Bo)(x y:V)(dx dy:Xc),vs=[.ref b,x,y]/\bE C H b l es k/\k.ok/\es.length<=1000/\DA N0 H x dx/\DA N0 H y dy/\QFk C xc H Q E b l es k (mk dx dy)
def nP(C:Xb)(xc:Str->Xb)(d:a9):Sp:=λvs H Q E=>∃(b l:Xb)(es:List Bo)(k:Bo),vs=[.ref b]/\bE C H b l es k/\k.ok/\es.length<=1000/\QFk C xc H Q E b l es k d
def DH(C:Xb):Sp:=λvs H Q _=>∃(b l:Xb)(es:List Bo)(k:Bo),vs=[.ref b]/\bE C H b l es k/\∀v,DA N0 H v k.d->Q v H
def V8(C:Xb):Sp:=λvs H Q _=>∃(b l:Xb)(es:List Bo)(k:Bo),vs=[.ref b]/\bE C H b l es k/\k.ok/\∀t H',ag H H'->H t=none->H' t=some (.lst<|(bM k.f k.h k.w).map V.int)->Q (.ref t) H'
def J_(C:Xb):Sp:=λvs H Q _=>∃(b l:Xb)(es:List Bo)(k:Bo),vs=[.ref b]/\bE C H b l es k/\k.ok/\∀(m:Nat) H',mi (ae k.h k.w k.f) k.h k.w m->ag H H'->Q (.int m) H'
section
variable{P:QB}{w:Jh}{K:Ws}{mg:Str->Option Xd}{base:ZF}
def Qxw{C:Xb}(F:bR P w K mg base C "__init__" "Bench.__init__" QCe)(T:eF K C) :
  aL P w K mg base ax 1 C "__init__" (RX C):=by
 refine wj ["self"] 1 F λao A outer s H vs Q E nD hr h=>?_
 obtain⟨p,dx,rfl,hp,k⟩:=h;have hU:=az.qD hr;have hI:=az.tK hr;refine⟨_,QC (Au (pv 0) (YY<|Y6 Je<|Y6 Je<|Y6 (YY Qu) Qu) rfl)<|Q6<|Au (pv 0) (Yi Qu) rfl,?_⟩;refine⟨by decide,λt1 H1 s1 n1 a1=>⟨by show 3<=1000;decide,λt2 H2 s2 n2 a2=>?_⟩⟩;have p2:=s2 _ _<|s1 _ _ hp;refine⟨_,rfl,p,C,dx,[],rfl,p2,T.cl,T.nK,by decide,by decide,λl H3 s3 n3 e3=>?_⟩;have np:∀a o,a≠p->H a=some o->H3 a=some o:=λa o h e=>s3 _ _ (by rw[QY h];exact s2 _ _<|s1 _ _ e)
 have p3:=s3 _ _ af;have lp:=YB e3 p3 nofun;refine⟨_,rfl,p,C,dx,_,rfl,p3,T.cl,T.nE,by show 1<1000;decide,?_⟩;have nl:H l=none:=by
  cases z:H l with
  |none=>rfl
  |some o=>rw[QY lp,s2 _ _<|s1 _ _ z] at n3;cases n3
 refine k l _ nl (λa o h e=>by rw[QY h];exact np a o h e) ⟨dx,.ref t2,[],af,by rw[QY lp];exact e3,?_,.nil⟩;have NN:=YB a2 p2 nofun;have NO:=YB (s2 _ _ a1) p2 nofun;have b1:(upd H3 p<|.ins C dx<|dF "earlier" (.ref l)<|dF "kept" (.ref t2) []) t1=some (.tup []):=by rw[QY NO];exact s3 _ _ (by rw[QY NO];exact s2 _ _ a1)
 have b2:(upd H3 p<|.ins C dx<|dF "earlier" (.ref l)<|dF "kept" (.ref t2) []) t2=some (.tup [.int 1,.int 1,.ref t1]):=by rw[QY NN];exact s3 _ _ (by rw[QY NN];exact a2)
 exact .tup (λz=>z) b2<|.cons (.int _)<|.cons (.int _)<|.cons (.tup (λz=>z) b1 .nil) .nil
def Qxv(F:bR P w K mg base C "keep" "Bench.keep" QCd)(T:eF K C) :
  aL P w K mg base ax 1 C "keep" (uS C):=by
 refine wj ["self", "board"] 2 F λao A outer s H vs Q E nD hr h=>?_
 obtain⟨b,l,es,k,v,k',rfl,B,hl,hv,q⟩:=h;refine⟨_,QC (ZB<|gZ Wz WU WV Bj (iq (pv 0) rfl)<|Ql (iq (pv 0) rfl) Qu)<|Q6<|Au (pv 0) (pv 1) rfl,?_⟩;obtain⟨dx,kv,xs,e1,e2,d1,d2⟩:=B.at_;have lx:xs.length=es.length:=by rw[d2.length,Qb]
 have bl:=YB e1 e2 nofun;refine⟨_,rfl,b,C,dx,_,_,rfl,e1,T.cl,T.nE,Me _ _,.inl ⟨rfl,_,aA.of e2⟩,_,rfl,b,C,dx,_,_,rfl,e1,T.cl,T.nK,Y7 _ _,l,xs,kv,rfl,rfl,e2,Eg<|by omega,?_⟩;refine⟨_,rfl,_,rfl,b,C,dx,_,rfl,by rw[QY bl];exact e1,T.cl,T.nK,Tp _ _,?_⟩;have kx:K2 b l H (upd (upd H l<|.lst<|xs++[kv]) b<|.ins C dx<|dF "kept" v<|j_ kv l):=λa o h1 h2 e=>by rw[QY h1,QY h2];exact e
 have tp:=kx.cH e1 e2;refine q _ kx ⟨dx,v,xs++[kv],by rw[af,Tq],by rw[QY bl.symm,af],pe tp hv,?_⟩;rw[Q3];exact(uU tp d2).app<|.cons (pe tp d1) .nil
def QAO{C:Xb}(F:bR P w K mg base C "put" "Bench.put" z6)(T:eF K C){xc:Str->Xb}(Tg:aC mg)
   (c1:au P w K mg base (Rx.aY P w) 3 "refuse_no_place"<|ZK false<|M8<|xc "place")
  (Gk:aL P w K mg base ax 1 C "keep"<|uS C)
  (mC:mg "Double" = some (.ref<|xc "double"))(qC:Ww K (xc "double") Rx.cu "ValueError.__new__" = true) :
  aL P w K mg base (Rx.aY P w) 5 C "put" (CY C xc .put):=by
 refine qY ["self", "row", "column", "high", "wide", "cells"] 3 F λao A outer s H vs Q E nD hr h=>?_
 obtain⟨b,l,es,k,x,y,x',y',rfl,B,o,hl,hx,hy,po⟩:=h;have hU:=az.qD hr;have hI:=az.tK hr;refine⟨_,QC (ZB<|xG c1 hr (Rx.jf (E:=E) (λ_ _ h=>h) rfl rfl rfl)<|Ql (iq (pv 0) rfl)<|Ql (pv 1)<|Ql (pv 2) Qu)
  (QC (n8 (iq (pv 0) rfl)<|pC rfl<|Zz (gh 3 nD)<|Zz (gh 4 nD)<|Zz (gh 5 nD) pK)
  (QC (gj (QT.h (E:=E0)<|J8 uY (jM hI) (Jf<|Ys<|Zv (qv 1)<|Zv (qv 2) Q8) (qp 5) rfl) (Q6<|Rx.A7 (C:=xc "double") (E:=E) (λ_ _ h=>h) rfl rfl rfl rfl rfl mC qC Zf) Yh)
  (Q6<|ZB<|sj (pv 0) T.cl Gk hr jN<|Ql (QE.h (E:=E0)<|Ys<|Zv (qv 3)<|Zv (qv 4)<|Zv (JV<|Yb JH YT rfl Tg.tuple Yc<|cF (Jf<|Y9 QfY Qi2 rfl Tg.sorted Bh<|cF (Jf<|Yg ZO YH (qp 5)<|Jf<|Ys<|Zv (JV<|Ys<|Zv (qv 1)<|Zv (qv 2) Q8) Q8) Q8) Q8) Q8) Qu))),?_⟩
 obtain⟨dx,kv,xs,e1,e2,d1,d2⟩:=B.at_;obtain⟨px,pn⟩:=po;refine⟨_,rfl,b,C,dx,_,_,rfl,e1,T.cl,T.nK,Y7 _ _,_,rfl,_,rfl,?_⟩;refine g9 (args:=[.v k.d,.v x',.v y']) (λd=>d=.none/\dX k x' y'=true) (λD=>D=xc "place" /\ dX k x' y'=false) (.cons d1<|.cons hx<|.cons hy .nil) ⟨k,x',y',rfl,λz=>⟨rfl,z⟩,λz=>⟨rfl,z⟩⟩ (λd hd v0 H1 s1 _ _=>?_) λD hD H1 s1=>?_
 case refine_2=>
  obtain⟨rfl,z⟩:=hD;refine px "place" ?_ H1 s1
  show(if dX k x' y'=true then _ else _)=_;rw[z];rfl
 obtain⟨_,hi⟩:=hd;obtain⟨r,c,rfl,rfl,kD,j8⟩:=w5 hi;obtain⟨ak,ac,ps,rfl,f1,f2,dc⟩:=uI d1;have zQ:=s1 _ _ e1;refine⟨_,rfl,b,C,dx,_,_,rfl,zQ,T.cl,T.nK,Y7 _ _,ak,_,rfl,aM.of<|s1 _ _ f1,rfl,_,_,rfl,_,_,rfl,_,_,rfl,rfl,?_⟩;have xr:x=.int r:=by cases hx;rfl
 have yc:y=.int c:=by cases hy;rfl
 subst xr;subst yc;have slots:∀H',ag H1 H'->Zw (wN H') [some<|.ref b,some<|.int r,some<|.int c,some<|.int k.h,some<|.int k.w,some<|.ref ac] [.no,.v<|.int r,.v<|.int c,.v<|.int k.h,.v<|.int k.w,.v<|.tuple<|(ae k.h k.w k.f).map pairD]:=λH' s'=>.cons Ju<|.cons ⟨_,rfl,.int _⟩<|.cons ⟨_,rfl,.int _⟩<|.cons ⟨_,rfl,.int _⟩<|.cons ⟨_,rfl,.int _⟩<|.cons ⟨_,rfl,(DA.same dc s1).same s'⟩ .nil
 refine Gu _ (slots H1 λ_ _ z=>z) ?_
 refine⟨⟨ZP _,rfl,by have:=Z1 ((r:Int),(c:Int));exact QK (Y1 this)<|by decide⟩,λH2 s2=>?_⟩;have ea:(((ae k.h k.w k.f).map pairD).any λe=>Qy e<|.tuple [.int r,.int c])=k.f r c:=(Y2 _ ((r:Int),(c:Int))).trans<|Ah kD j8;show if(((ae k.h k.w k.f).map pairD).any λe=>Qy e<|.tuple [.int r,.int c])=true then _ else _
 rw[ea];have ed:ez (.put (.int r)<|.int c) es k=if k.f r c=true then some ("double" : Str) else none:=by
  show(if dX k (.int r) (.int c)=true then(if k.f r c=true then some ("double" : Str) else none) else some "place")=_;rw[hi];rfl
 rw[ed] at pn;have eG:=s1.trans s2;cases zf:k.f r c with
 |true=>
  refine px "double" ?_ H2 eG
  rw[ed,zf];rfl
 |false=>
  rw[zf] at pn;have ln:=QK (YS k.w k.f k.h)<|YJ o.h6 o.w6;refine⟨_,rfl,b,dx,_,rfl,s2 _ _ zQ,gJ _ _ (by decide)<|by decide,?_⟩;refine zb _ (slots H2 s2) ?_
  refine⟨by show((ae k.h k.w k.f).map pairD).length+1<=1000000;rw[Qb];omega,?_⟩;have nF:(ae k.h k.w k.f).map pairD++[sk [.int (r:Int),.int (c:Int)]]=(ae k.h k.w k.f++[((r:Int),(c:Int))]).map pairD:=by rw[Q3];rfl
  show xK [.tuple<|(ae k.h k.w k.f).map pairD++[sk [.int (r:Int),.int (c:Int)]]] _;rw[nF];refine Qii (Us zf) (by rw[Qj];show _+1<64;omega) (λp hp=>?_) λM pM pw=>?_
  ·rcases QP.mp hp with hp | hp
   ·have:=YI hp;have:=o.w6;omega
   ·rw[Qo.mp hp];have:=o.w6;show 0<=(c:Int)/\(c:Int)<64;omega
  ·rw[Qi0 kD j8 pM pw];intro v3 H3 s3 dv;exact⟨b,l,es,k,v3,il (.put (.int r)<|.int c) k,rfl,B.same<|eG.trans s3,hl,dv,λH4 k4 B4=>pn rfl H4 ((K2.of<|eG.trans s3).trans k4) B4⟩
end
end Rk


namespace Rk
open L2 _root_.Rd
open Dl
open Rt
section
variable{P:QB}{w:Jh}{K:Ws}{mg:Str->Option Xd}{base:ZF}
def Qs3{C:Xb}(F:bR P w K mg base C "take" "Bench.take" QB9)(T:eF K C){xc:Str->Xb}
   (c1:au P w K mg base (Rx.aY P w) 3 "refuse_no_place"<|ZK false<|M8<|xc "place")
   (c2:au P w K mg base (Rx.aY P w) 5 "without"<|ZK false<|QED<|xc "cell")
  (Gk:aL P w K mg base ax 1 C "keep"<|uS C) :
  aL P w K mg base (Rx.aY P w) 6 C "take" (CY C xc .take):=by
 refine qY ["self", "row", "column"] 3 F λao A outer s H vs Q E nD hr h=>?_
 obtain⟨b,l,es,k,x,y,x',y',rfl,B,o,hl,hx,hy,po⟩:=h;refine⟨_,QC (ZB<|xG c1 hr (Rx.jf (λ_ _ h=>h) rfl rfl rfl)<|Ql (iq (pv 0) rfl)<|Ql (pv 1)<|Ql (pv 2) Qu)
  (Q6<|ZB<|sj (pv 0) T.cl Gk hr jN<|Ql (xG c2 hr (Rx.jf (λ_ _ h=>h) rfl rfl rfl)<|Ql (iq (pv 0) rfl)<|Ql (QE.h (E:=E0)<|Ys<|Zv (qv 1)<|Zv (qv 2) Q8) Qu) Qu),?_⟩
 obtain⟨dx,kv,xs,e1,e2,d1,d2⟩:=B.at_;obtain⟨px,pn⟩:=po;refine⟨_,rfl,b,C,dx,_,_,rfl,e1,T.cl,T.nK,Y7 _ _,_,rfl,_,rfl,(g9 (args:=[.v k.d,.v x',.v y']) (λd=>d=.none/\dX k x' y'=true) (λD=>D=xc "place" /\ dX k x' y'=false) (.cons d1<|.cons hx<|.cons hy .nil) ⟨k,x',y',rfl,λz=>⟨rfl,z⟩,λz=>⟨rfl,z⟩⟩ (λd hd v0 H1 s1 _ _=>?_) λD hD H1 s1=>?_)⟩
 case refine_2=>
  obtain⟨rfl,z⟩:=hD;refine px "place" ?_ H1 s1
  show(if dX k x' y'=true then _ else _)=_;rw[z];rfl
 obtain⟨_,hi⟩:=hd;obtain⟨r,c,rfl,rfl,kD,j8⟩:=w5 hi;have zQ:=s1 _ _ e1;have xr:x=.int r:=by cases hx;rfl
 have yc:y=.int c:=by cases hy;rfl
 subst xr;subst yc;refine⟨_,rfl,b,dx,_,rfl,zQ,gJ _ _ (by decide)<|by decide,?_⟩;refine⟨_,rfl,b,C,dx,_,_,rfl,zQ,T.cl,T.nK,Y7 _ _,(zb [.no,.v<|.int r,.v<|.int c] (.cons Ju<|.cons ⟨_,rfl,.int _⟩<|.cons ⟨_,rfl,.int _⟩ .nil) ?_)⟩;intro v2 H2 s2 dv;have ed:ez (.take (.int r)<|.int c) es k=if k.f r c=true then none else some ("cell" : Str):=by
  show(if dX k (.int r) (.int c)=true then(if k.f r c=true then none else some ("cell" : Str)) else some "place")=_;rw[hi];rfl
 have eG:=s1.trans s2;refine g9 (args:=[.v k.d,.v<|pairD (r,c)]) (λd=>d=(il (.take (.int r)<|.int c) k).d/\k.f r c=true) (λD=>D=xc "cell" /\ k.f r c=false) (.cons (DA.same d1 eG)<|.cons dv .nil) ⟨k,r,c,rfl,kD,j8,λz=>⟨rfl,z⟩,λz=>⟨rfl,z⟩⟩ (λd hd v3 H3 s3 oV _=>?_) λD hD H3 s3=>?_
 case refine_2=>
  obtain⟨rfl,z⟩:=hD;refine px "cell" ?_ H3<|eG.trans s3
  rw[ed,z];rfl
 obtain⟨rfl,zf⟩:=hd;rw[ed,zf] at pn;exact⟨b,l,es,k,v3,il (.take (.int r)<|.int c) k,rfl,B.same<|eG.trans s3,hl,oV,λH4 k4 B4=>pn rfl H4 ((K2.of<|eG.trans s3).trans k4) B4⟩
def QxB{C:Xb}(F:bR P w K mg base C "row" "Bench.row" z5)(T:eF K C){xc:Str->Xb}
   (c1:au P w K mg base (Rx.aY P w) 1 "refuse_too_many"<|ZK false<|M9<|xc "many")
  (Gk:aL P w K mg base ax 1 C "keep"<|uS C) :
  aL P w K mg base (Rx.aY P w) 3 C "row" (nP C xc .row):=by
 refine qY ["self", "high", "wide", "cells"] 1 F λao A outer s H vs Q E nD hr h=>?_
 obtain⟨b,l,es,k,rfl,B,o,hl,po⟩:=h;refine⟨_,QC (n8 (iq (pv 0) rfl)<|pC rfl<|Zz (gh 1 nD)<|Zz (gh 2 nD)<|Zz (gh 3 nD) pK)
  (QC (ZB<|xG c1 hr (Rx.jf (λ_ _ h=>h) rfl rfl rfl)<|Ql (pv 1) Qu)
  (Q6<|ZB<|sj (pv 0) T.cl Gk hr jN<|Ql (QE.h (E:=E0)<|Ys<|Zv (JV<|Yg ZO YH (qp 1)<|QU Jg)<|Zv (qv 2)<|Zv (qv 3) Q8) Qu)),?_⟩
 obtain⟨dx,kv,xs,e1,e2,d1,d2⟩:=B.at_;obtain⟨px,pn⟩:=po;obtain⟨ak,ac,ps,rfl,f1,f2,dc⟩:=uI d1;refine⟨_,rfl,b,C,dx,_,_,rfl,e1,T.cl,T.nK,Y7 _ _,ak,_,rfl,aM.of f1,rfl,_,_,rfl,_,_,rfl,_,_,rfl,rfl,⟨_,rfl,?_⟩⟩;refine g9 (args:=[.v<|.int k.h]) (λd=>d=.none/\k.h≠6) (λD=>D=xc "many" /\ k.h=6) (.cons (.int _) .nil) ⟨k.h,rfl,λz=>⟨rfl,z⟩,λz=>⟨rfl,z⟩⟩ (λd hd v0 H1 s1 _ _=>?_) λD hD H1 s1=>?_
 case refine_2=>
  obtain⟨rfl,z⟩:=hD;refine px "many" ?_ H1 s1
  show(if k.h=6 then _ else _)=_;rw[X9 z]
 obtain⟨_,z⟩:=hd;have ed:ez .row es k=none:=by
  show(if k.h=6 then _ else _)=_;rw[X8 z]
 refine⟨_,rfl,b,dx,_,rfl,s1 _ _ e1,gJ _ _ (by decide)<|by decide,?_⟩;refine zb [.no,.v<|.int k.h,.v<|.int k.w,.v<|.tuple<|(ae k.h k.w k.f).map pairD] (.cons Ju<|.cons ⟨_,rfl,.int _⟩<|.cons ⟨_,rfl,.int _⟩<|.cons ⟨_,rfl,DA.same dc s1⟩ .nil) ?_
 intro v2 H2 s2 dv;have eb:(il .row k).d=bQ (k.h+1) k.w (ae k.h k.w k.f):=by
  show bQ _ _ (ae (k.h+1) k.w λr c=>k.f r c&&decide (r<k.h))=_;rw[QiZ];rfl
 exact⟨b,l,es,k,v2,il .row k,rfl,B.same<|s1.trans s2,hl,by rw[eb];exact dv,λH4 k4 B4=>pn ed H4 ((K2.of<|s1.trans s2).trans k4) B4⟩
def QxC{C:Xb}(F:bR P w K mg base C "column" "Bench.column" z7)(T:eF K C){xc:Str->Xb}
   (c1:au P w K mg base (Rx.aY P w) 1 "refuse_too_many"<|ZK false<|M9<|xc "many")
  (Gk:aL P w K mg base ax 1 C "keep"<|uS C) :
  aL P w K mg base (Rx.aY P w) 3 C "column" (nP C xc .col):=by
 refine qY ["self", "high", "wide", "cells"] 1 F λao A outer s H vs Q E nD hr h=>?_
 obtain⟨b,l,es,k,rfl,B,o,hl,po⟩:=h;refine⟨_,QC (n8 (iq (pv 0) rfl)<|pC rfl<|Zz (gh 1 nD)<|Zz (gh 2 nD)<|Zz (gh 3 nD) pK)
  (QC (ZB<|xG c1 hr (Rx.jf (λ_ _ h=>h) rfl rfl rfl)<|Ql (pv 2) Qu)
  (Q6<|ZB<|sj (pv 0) T.cl Gk hr jN<|Ql (QE.h (E:=E0)<|Ys<|Zv (qv 1)<|Zv (JV<|Yg ZO YH (qp 2)<|QU Jg)<|Zv (qv 3) Q8) Qu)),?_⟩
 obtain⟨dx,kv,xs,e1,e2,d1,d2⟩:=B.at_;obtain⟨px,pn⟩:=po;obtain⟨ak,ac,ps,rfl,f1,f2,dc⟩:=uI d1;refine⟨_,rfl,b,C,dx,_,_,rfl,e1,T.cl,T.nK,Y7 _ _,ak,_,rfl,aM.of f1,rfl,_,_,rfl,_,_,rfl,_,_,rfl,rfl,⟨_,rfl,?_⟩⟩;refine g9 (args:=[.v<|.int k.w]) (λd=>d=.none/\k.w≠6) (λD=>D=xc "many" /\ k.w=6) (.cons (.int _) .nil) ⟨k.w,rfl,λz=>⟨rfl,z⟩,λz=>⟨rfl,z⟩⟩ (λd hd v0 H1 s1 _ _=>?_) λD hD H1 s1=>?_
 case refine_2=>
  obtain⟨rfl,z⟩:=hD;refine px "many" ?_ H1 s1
  show(if k.w=6 then _ else _)=_;rw[X9 z]
 obtain⟨_,z⟩:=hd;have ed:ez .col es k=none:=by
  show(if k.w=6 then _ else _)=_;rw[X8 z]
 refine⟨_,rfl,b,dx,_,rfl,s1 _ _ e1,gJ _ _ (by decide)<|by decide,?_⟩;refine zb [.no,.v<|.int k.h,.v<|.int k.w,.v<|.tuple<|(ae k.h k.w k.f).map pairD] (.cons Ju<|.cons ⟨_,rfl,.int _⟩<|.cons ⟨_,rfl,.int _⟩<|.cons ⟨_,rfl,DA.same dc s1⟩ .nil) ?_
 intro v2 H2 s2 dv;have eb:(il .col k).d=bQ k.h (k.w+1) (ae k.h k.w k.f):=by
  show bQ _ _ (ae k.h (k.w+1) λr c=>k.f r c&&decide (c<k.w))=_;rw[Qi1];rfl
 exact⟨b,l,es,k,v2,il .col k,rfl,B.same<|s1.trans s2,hl,by rw[eb];exact dv,λH4 k4 B4=>pn ed H4 ((K2.of<|s1.trans s2).trans k4) B4⟩
def Qs2(F:bR P w K mg base C "turn" "Bench.turn" QB8)(T:eF K C) 
   (c1:au P w K mg base ax 2 "turned"<|ZK false OW)
  (Gk:aL P w K mg base ax 1 C "keep"<|uS C) :
  aL P w K mg base (Rx.aY P w) 3 C "turn" (nP C xc .turn):=by
 refine qY ["self"] 1 F λao A outer s H vs Q E nD hr h=>?_
 obtain⟨b,l,es,k,rfl,B,o,hl,po⟩:=h;refine⟨_,Q6<|ZB<|sj (pv 0) T.cl Gk hr jN<|Ql (Zr c1 hr<|Ql (iq (pv 0) rfl) Qu) Qu,?_⟩;obtain⟨dx,kv,xs,e1,e2,d1,d2⟩:=B.at_;obtain⟨px,pn⟩:=po;refine⟨_,rfl,b,dx,_,rfl,e1,gJ _ _ (by decide)<|by decide,?_⟩;refine⟨_,rfl,b,C,dx,_,_,rfl,e1,T.cl,T.nK,Y7 _ _,(g9 (args:=[.v k.d]) (λd=>d=(il .turn k).d) XF (.cons d1 .nil) ⟨k.h,k.w,k.f,rfl,o.h6,o.w6,rfl⟩ (λd hd v3 H3 s3 oV _=>?_) λD hD=>hD.elim)⟩;subst hd;exact⟨b,l,es,k,v3,il .turn k,rfl,B.same s3,hl,oV,λH4 k4 B4=>pn rfl H4 ((K2.of s3).trans k4) B4⟩
def Qs4(F:bR P w K mg base C "rest" "Bench.rest" QCa)(T:eF K C) 
   (c1:au P w K mg base ax 1 "rest_boards"<|ZK false SM)
  (Gk:aL P w K mg base ax 1 C "keep"<|uS C) :
  aL P w K mg base (Rx.aY P w) 2 C "rest" (nP C xc .rest):=by
 refine qY ["self"] 1 F λao A outer s H vs Q E nD hr h=>?_
 obtain⟨b,l,es,k,rfl,B,o,hl,po⟩:=h;refine⟨_,Q6<|ZB<|sj (pv 0) T.cl Gk hr jN<|Ql (Zr c1 hr<|Ql (iq (pv 0) rfl) Qu) Qu,?_⟩;obtain⟨dx,kv,xs,e1,e2,d1,d2⟩:=B.at_;obtain⟨px,pn⟩:=po;refine⟨_,rfl,b,dx,_,rfl,e1,gJ _ _ (by decide)<|by decide,?_⟩;refine⟨_,rfl,b,C,dx,_,_,rfl,e1,T.cl,T.nK,Y7 _ _,(g9 (args:=[.v k.d]) (λd=>d=(il .rest k).d) XF (.cons d1 .nil) ⟨k.h,k.w,k.f,rfl,o.h6,o.w6,rfl⟩ (λd hd v3 H3 s3 oV _=>?_) λD hD=>hD.elim)⟩;subst hd;exact⟨b,l,es,k,v3,il .rest k,rfl,B.same s3,hl,oV,λH4 k4 B4=>pn rfl H4 ((K2.of s3).trans k4) B4⟩
def Qs1{C:Xb}(F:bR P w K mg base C "undo" "Bench.undo" QB7)(T:eF K C){xc:Str->Xb}
  (mC:mg "NoDeed" = some (.ref<|xc "deed"))(qC:Ww K (xc "deed") Rx.cu "ValueError.__new__" = true) :
  aL P w K mg base (Rx.aY P w) 1 C "undo" (nP C xc .bz):=by
 refine qY ["self"] 1 F λao A outer s H vs Q E nD hr h=>?_
 obtain⟨b,l,es,k,rfl,B,o,hl,po⟩:=h;refine⟨_,QC (gj (xx<|DZ (iq (pv 0) rfl) λ_=>rfl) (Q6<|Rx.A7 (λ_ _ h=>h) rfl rfl rfl rfl rfl mC qC Zf) Yh)
  (Q6<|Au (pv 0) (Sv Wz X6 X7 SU<|iq (pv 0) rfl) rfl),?_⟩
 obtain⟨dx,kv,xs,e1,e2,d1,d2⟩:=B.at_;obtain⟨px,pn⟩:=po;have lx:xs.length=es.length:=by rw[d2.length,Qb]
 have bl:=YB e1 e2 nofun;have ed:ez .bz es k=if es.isEmpty=true then some ("deed" : Str) else none:=rfl
 refine⟨_,rfl,b,C,dx,_,_,rfl,e1,T.cl,T.nE,Me _ _,!xs.isEmpty,.inl ⟨xs,aA.of e2,rfl⟩,?_⟩;cases xs with
 |nil=>
  have ee:=Qgy (by rw[<- lx];rfl);subst ee;exact px "deed" rfl H λ_ _ z=>z
 |cons x0 xr=>
  have ne:es.isEmpty=false:=by cases es with | nil=>cases lx | cons _ _=>rfl
  rw[ed,ne] at pn;obtain⟨ep,kl,rfl⟩:∃ep kl,es=ep++[kl]:=⟨es.dropLast,es.getLast (by intro z;rw[z] at ne;cases ne),(JE _).symm⟩
  obtain⟨xp,xl,ex⟩:∃xp xl,x0::xr=xp++[xl]:=⟨(x0::xr).dropLast,(x0::xr).getLast<|by simp,(JE _).symm⟩
  rw[ex] at e2 d2;have dd:aJ N0 H xp (ep.map Bo.d)/\DA N0 H xl kl.d:=by
   rw[Q3] at d2;have lp:xp.length=(ep.map Bo.d).length:=by
    have:=d2.length;rw[Qj,Qj] at this
    simpa using this
   constructor
   ·have:=d2.take xp.length;rw[El rfl,lp,El rfl] at this;exact this
   ·have:=d2.drop xp.length;rw[Ej rfl,lp,Ej rfl] at this;cases this with | cons q _=>exact q
  refine dO ?_
  refine⟨_,rfl,b,C,dx,_,_,rfl,e1,T.cl,T.nE,Me _ _,.inl ⟨rfl,_,aA.of e2⟩,l,xp++[xl],xl,rfl,rfl,e2,by rw[Qj];simp,?_⟩;refine⟨_,rfl,b,C,dx,_,rfl,by rw[QY bl];exact e1,T.cl,T.nK,Tp _ _,?_⟩;rw[EH];have kx:K2 b l H (upd (upd H l<|.lst xp) b<|.ins C dx<|dF "kept" xl<|j_ kv l):=λa o h1 h2 e=>by rw[QY h1,QY h2];exact e
  have tp:=kx.cH e1 e2;refine pn rfl _ kx ?_
  have es2:mj .bz (ep++[kl]) k=(ep,kl):=by
   show((ep++[kl]).dropLast,(ep++[kl]).getLastD k)=_;rw[EH];simp
  rw[es2];exact⟨dx,xl,xp,by rw[af,Tq],by rw[QY bl.symm,af],pe tp dd.2,uU tp dd.1⟩
def QoY(F:bR P w K mg base C "board" "Bench.board" RI)(T:eF K C) :
  aL P w K mg base ax 1 C "board" (DH C):=by
 refine wj ["self"] 1 F λao A outer s H vs Q E nD hr h=>?_
 obtain⟨b,l,es,k,rfl,B,q⟩:=h;refine⟨_,Q6<|JZ<|iq (pv 0) rfl,?_⟩;obtain⟨dx,kv,xs,e1,e2,d1,d2⟩:=B.at_;exact⟨_,rfl,b,C,dx,_,_,rfl,e1,T.cl,T.nK,Y7 _ _,q kv d1⟩
def Qmb(F:bR P w K mg base C "counts" "Bench.counts" To)(T:eF K C)
   (c1:au P w K mg base ax 3 "counts_stands"<|ZK true KJ) :
  aL P w K mg base ax 4 C "counts" (V8 C):=by
 refine wj ["self"] 1 F λao A outer s H vs Q E nD hr h=>?_
 obtain⟨b,l,es,k,rfl,B,o,q⟩:=h;refine⟨_,Q6<|JZ<|Zr c1 hr<|Ql (iq (pv 0) rfl) Qu,?_⟩;obtain⟨dx,kv,xs,e1,e2,d1,d2⟩:=B.at_;refine⟨_,rfl,b,C,dx,_,_,rfl,e1,T.cl,T.nK,Y7 _ _,?_⟩;refine g9 (args:=[.v k.d]) (λd=>d=.list ((bM k.f k.h k.w).map Qp)) XF (.cons d1 .nil) ⟨k.h,k.w,_,rfl,o.h6,o.w6,(Bo.ja o).col,by unfold ma bM;rw[QD];rfl⟩ (λd hd v3 H3 s3 oV fr=>?_) λD hD=>hD.elim
 subst hd;cases oV with
 |@lst t ys _ _ e qq=>
  have ey:=A6 qq;rw[ey] at e;exact q t H3 s3 (fr rfl t rfl ⟨_,e⟩) e
def Qs5(F:bR P w K mg base C "most" "Bench.most" QCc)(T:eF K C)
   (c1:au P w K mg base ax 4 "greatest_size"<|ZK false Rb) :
  aL P w K mg base ax 5 C "most" (J_ C):=by
 refine wj ["self"] 1 F λao A outer s H vs Q E nD hr h=>?_
 obtain⟨b,l,es,k,rfl,B,o,q⟩:=h;refine⟨_,Q6<|JZ<|Zr c1 hr<|Ql (iq (pv 0) rfl) Qu,?_⟩;obtain⟨dx,kv,xs,e1,e2,d1,d2⟩:=B.at_;refine⟨_,rfl,b,C,dx,_,_,rfl,e1,T.cl,T.nK,Y7 _ _,(g9 (args:=[.v k.d]) (λd=>∃m:Nat,d=.int m/\mi (ae k.h k.w k.f) k.h k.w m) XF (.cons d1 .nil) ⟨k.h,k.w,_,rfl,Bo.ja o,λm g=>⟨m,rfl,g⟩⟩ (λd hd v3 H3 s3 oV fr=>?_) λD hD=>hD.elim)⟩;obtain⟨m,rfl,g⟩:=hd;cases oV;exact q m H3 g s3
end
def M3:Option Str->V
 |none=>.aH
 |some s=>.str s
def bF(d:a9)(es:List Bo)(k:Bo):List Bo×Bo:=match ez d es k with
 |some _=>(es,k)
 |none=>mj d es k
def Dq{d:a9}(h:d.wd ≠ "undo"):ez d es k=ka d k:=by cases d<;>first | rfl | exact Z_ rfl h
def Lw{d:a9}(h:d.wd ≠ "undo"):mj d es k=(es++[k],il d k):=by cases d<;>first | rfl | exact Z_ rfl h
def Er(h:ez d es k=some wd):bF d es k=(es,k):=by unfold bF;rw[h]
def Bb(h:ez d es k=none):bF d es k=mj d es k:=by unfold bF;rw[h]
def Qta(o:k.ok)(h:ka d k=none):(il d k).ok:=by
 obtain⟨h1,h6,w1,w6⟩:=o;cases d with
 |put x y=>exact⟨h1,h6,w1,w6⟩
 |take x y=>exact⟨h1,h6,w1,w6⟩
 |row=>
  have z:¬k.h=6:=λz=>by
   have h:(if k.h=6 then some ("many" : Str) else none)=none:=h;rw[X9 z] at h;cases h
  exact⟨by show 1<=k.h+1;omega,by show k.h+1<=6;omega,w1,w6⟩
 |col=>
  have z:¬k.w=6:=λz=>by
   have h:(if k.w=6 then some ("many" : Str) else none)=none:=h;rw[X9 z] at h;cases h
  exact⟨h1,h6,by show 1<=k.w+1;omega,by show k.w+1<=6;omega⟩
 |turn=>exact⟨w1,w6,h1,h6⟩
 |rest=>exact⟨h1,h6,w1,w6⟩
 |bz=>exact⟨h1,h6,w1,w6⟩
structure fq (H:Hp) (r:Xb) (es:List Bo) (k:Bo):Prop where
 at_:∃xs v,H r=some (.lst<|xs++[v])/\aJ N0 H xs (es.map Bo.d)/\DA N0 H v k.d
def K1(r:Xb)(H H':Hp):Prop:=∀a o,a≠r->H a=some o->H' a=some o
def RY:Sp:=λvs H Q _=>∃(r:Xb)(es:List Bo)(k:Bo)(d:a9)(x:V),vs=[.ref r,.str d.wd,x]/\fq H r es k/\k.ok/\es.length<=900/\DA N0 H x (.list d.jY)/\∀H',K1 r H H'->fq H' r (bF d es k).1 (bF d es k).2->Q (M3<|ez d es k) H'
def QBJ(q:DA N0 H v<|Bt o):v=M3 o:=by
 cases o with
 |none=>cases q;rfl
 |some s=>cases q;rfl
def QgO(a:mi cs h w m)(b:mi cs h w n):m=n:=by
 have h1:=a.2.2 n b.1 b.2.1;have h2:=b.2.2 m a.1 a.2.1;omega
def QtN(d2:aJ A H (xp++[xl])<|(ep++[kl]).map Bo.d):aJ A H xp (ep.map Bo.d)/\DA A H xl kl.d:=by
 rw[Q3] at d2;have lp:xp.length=(ep.map Bo.d).length:=by
  have:=d2.length
  simpa using this
 constructor
 ·have:=d2.take xp.length;rw[El rfl,lp,El rfl] at this;exact this
 ·have:=d2.drop xp.length;rw[Ej rfl,lp,Ej rfl] at this;cases this with | cons q _=>exact q
def Ld{d:a9}(h:d.wd = "undo"):d=.bz:=by
 cases d with
 |bz=>rfl
 |put x y=>exact Z_ (show("put" : Str) = "undo" from h) (by decide)
 |take x y=>exact Z_ (show("take" : Str) = "undo" from h) (by decide)
 |row=>exact Z_ (h) (by decide)
 |col=>exact Z_ (h) (by decide)
 |turn=>exact Z_ (h) (by decide)
 |rest=>exact Z_ (h) (by decide)
def OY(d:a9):Ji (.str d.wd)=true:=by
 cases d with
 |put x y=>exact(by decide:Ji (.str "put")=true)
 |take x y=>exact(by decide:Ji (.str "take")=true)
 |row=>exact(by decide:Ji (.str "row")=true)
 |col=>exact(by decide:Ji (.str "column")=true)
 |turn=>exact(by decide:Ji (.str "turn")=true)
 |rest=>exact(by decide:Ji (.str "rest")=true)
 |bz=>exact(by decide:Ji (.str "undo")=true)
section
variable{P:QB}{w:Jh}{K:Ws}{mg:Str->Option Xd}{base:ZF}
def Qxu{C:Xb}(F:aB P w K mg base "_law_kept" QA7)(Tg:aC mg)
   (c1:au P w K mg base ax 3 "_law_refused_as"<|ZK false Pb)
   (c2:au P w K mg base ax 2 "_law_behind"<|ZK false QFg) :
  au P w K mg base ax 4 "_law_kept" RY:=by
 refine gs ["_law_rows", "_law_word", "_law_told", "_law_due"] 3 F λao A outer s H vs Q E nD hr h=>?_
 obtain⟨r,es,k,d,x,rfl,W,o,hl,hx,k0⟩:=h;have hU:=az.qD hr;have hI:=az.tK hr;refine⟨_,QC (gj (Yw rj (pv 1) Zf<|JL _) (QC (gj (Yw rj (Z4 Yp (by rfl) Tg.len kS<|Ql (pv 0) Qu) Je<|JL _) (Q6<|JZ Zf) Yh)
   (QC (ZB<|Sv Wz X6 X7 SU<|pv 0)<|Q6<|JZ xw)) Yh)
  (QC (eD 3 nD<|Zr c1 hr<|Ql (Z8 Za (pv 0) (rm rT Je) λ_ _=>rfl)<|Ql (pv 1)<|Ql (pv 2) Qu)
  (QC (gj (Yw Sr (pv 3) xw<|JL _) (Q6<|ZB<|gZ Wz WU WV Bj (pv 0)<|Ql (Zr c2 hr<|Ql (Z8 Za (pv 0) (rm rT Je) λ_ _=>rfl)<|Ql (pv 1)<|Ql (pv 2) Qu) Qu) Yh)
  (Q6<|JZ<|pv 3))),?_⟩
 obtain⟨xs,v,er,d2,d1⟩:=W.at_;have lx:xs.length=es.length:=by rw[d2.length,Qb]
 refine⟨_,rfl,rfl,_,rfl,?_⟩;by_cases hw:d.wd = "undo"
 ·have ed:=Ld hw;subst ed;refine df ⟨_,rfl,r,_,rfl,.inl<|aA.of er,rfl,_,rfl,?_⟩;cases es with
  |nil=>
   have:=Qgy lx;subst this;refine df<|k0 H (λa o _ e=>e) ?_;exact⟨[],v,er,.nil,d1⟩
  |cons e0 Cp=>
   have nz:¬(((xs++[v]).length:Nat):Int)=1:=by
    rw[Qj,lx];show ¬(((Cp.length+1+1:Nat):Int)=1);omega
   have dz:=X' λz=>nz<|V.int.inj z
   show if decide (V.int ((xs++[v]).length:Int)=V.int 1)=true then _ else _
   rw[dz];refine dO ⟨_,rfl,.inl ⟨rfl,_,aA.of er⟩,r,xs++[v],v,rfl,rfl,er,by rw[Qj];show(xs++[v])[xs.length+1 - 1]? = _;simp,?_⟩;rw[EH];have k1:K1 r H (upd H r<|.lst xs):=λa o h e=>by rw[QY h];exact e
   have tp:∀a ys,H a=some (.tup ys)->(upd H r<|.lst xs) a=some (.tup ys):=λa ys e=>k1 a _ (YB e er λz=>nomatch z) e
   refine k0 _ k1 ?_
   obtain⟨ep,kl,ee⟩:∃ep kl,e0::Cp=ep++[kl]:=⟨(e0::Cp).dropLast,(e0::Cp).getLast<|by simp,(JE _).symm⟩
   rw[ee] at d2 lx ⊢;have en:bF .bz (ep++[kl]) k=(ep,kl):=by
    rw[Bb (show ez .bz (ep++[kl]) k=none by rw[<- ee];rfl)];show((ep++[kl]).dropLast,(ep++[kl]).getLastD k)=_;rw[EH];simp
   rw[en];obtain⟨xp,xl,rfl⟩:∃xp xl,xs=xp++[xl]:=⟨xs.dropLast,xs.getLast (by intro z;rw[z,Qj] at lx;simp at lx),(JE _).symm⟩
   have dd:=QtN d2;exact⟨xp,xl,af,uU tp dd.1,pe tp dd.2⟩
 ·have dz:=X' λz=>hw<|V.str.inj z
  show if decide (V.str d.wd=V.str "undo")=true then _ else _
  rw[dz];refine dO ?_
  refine⟨_,rfl,_,rfl,r,_,_,v,rfl,rfl,aA.of er,sf _ _,_,rfl,_,rfl,?_⟩;refine g9 (args:=[.v k.d,.v<|.str d.wd,.v<|.list d.jY]) (λe=>e=Bt (ka d k)) XF (.cons d1<|.cons (.str _<|OY d)<|.cons hx .nil) ⟨k,d,rfl,rfl⟩ (λe he v1 H1 s1 q1 _=>?_) λD hD=>hD.elim
  subst he;obtain rfl:=QBJ q1;have k0':=k0;rw[Dq hw] at k0;refine⟨_,rfl,rfl,_,rfl,?_⟩;cases zd:ka d k with
  |some wd=>
   rw[zd] at k0;refine dO ⟨_,rfl,k0 H1 (λa o _ e=>s1 _ _ e) ?_⟩;rw[Er (by rw[Dq hw];exact zd)];exact⟨xs,v,s1 _ _ er,d2.same s1,d1.same s1⟩
  |none=>
   rw[zd] at k0;refine df ⟨_,rfl,.inl ⟨rfl,_,aA.of<|s1 _ _ er⟩,?_⟩;refine⟨_,rfl,_,rfl,r,_,_,v,rfl,rfl,aA.of<|s1 _ _ er,sf _ _,_,rfl,_,rfl,?_⟩;refine g9 (args:=[.v k.d,.v<|.str d.wd,.v<|.list d.jY]) (λe=>e=(il d k).d) XF (.cons (DA.same d1 s1)<|.cons (.str _<|OY d)<|.cons (DA.same hx s1) .nil) ⟨k,d,rfl,o,zd,hw,rfl⟩ (λe he v2 H2 s2 q2 _=>?_) λD hD=>hD.elim
   subst he;have zP:=s2 _ _<|s1 _ _ er;refine⟨r,xs++[v],v2,rfl,rfl,zP,Eg (by rw[Qj];show xs.length+1<=1000;omega),?_⟩;have k1:K1 r H (upd H2 r<|.lst<|xs++[v]++[v2]):=λa o h e=>by rw[QY h];exact s2 _ _<|s1 _ _ e
   have tp:∀a ys,H2 a=some (.tup ys)->(upd H2 r<|.lst<|xs++[v]++[v2]) a=some (.tup ys):=λa ys e=>by rw[QY<|YB e zP λz=>nomatch z];exact e
   refine⟨_,rfl,k0 _ k1 ?_⟩;rw[Bb (by rw[Dq hw];exact zd),Lw hw];refine⟨xs++[v],v2,af,?_,pe tp q2⟩;show aJ N0 _ (xs++[v])<|(es++[k]).map Bo.d;rw[Q3];exact(uU tp<|(d2.same s1).same s2).app<|.cons (pe tp<|(d1.same s1).same s2) .nil
end
def Qyj(h:ez d es k=some wd):wd = "place" ∨ wd = "double" ∨ wd = "cell" ∨ wd = "many" ∨ wd = "deed" := by
 cases d with
 |put x y=>
  have h:(if dX k x y=true then(if k.f (nI x) (nI y)=true then some ("double" : Str) else none) else some "place")=some wd:=h;split at h
  ·split at h
   ·cases h;exact .inr<|.inl rfl
   ·cases h
  ·cases h;exact .inl rfl
 |take x y=>
  have h:(if dX k x y=true then(if k.f (nI x) (nI y)=true then none else some ("cell" : Str)) else some "place")=some wd:=h;split at h
  ·split at h
   ·cases h
   ·cases h;exact .inr<|.inr<|.inl rfl
  ·cases h;exact .inl rfl
 |row=>
  have h:(if k.h=6 then some ("many" : Str) else none)=some wd:=h;split at h
  ·cases h;exact .inr<|.inr<|.inr<|.inl rfl
  ·cases h
 |col=>
  have h:(if k.w=6 then some ("many" : Str) else none)=some wd:=h;split at h
  ·cases h;exact .inr<|.inr<|.inr<|.inl rfl
  ·cases h
 |turn=>cases h
 |rest=>cases h
 |bz=>
  have h:(if es.isEmpty=true then some ("deed" : Str) else none)=some wd:=h;split at h
  ·cases h;exact .inr<|.inr<|.inr<|.inr rfl
  ·cases h
def VY:DF:=λargs R _=>∃(h w:Int)(cs:List (Int×Int)),args=[.v<|bQ h w cs]/\CH cs/\∀T:List<|List (Int×Int),(∀L∈T,mH cs L)->(∀y∈cs,∃L∈T,y∈L)->T.Pairwise kL->T.length<=cs.length->R (.list<|T.map f6)
section
variable{P:QB}{w:Jh}{K:Ws}{mg:Str->Option Xd}{base:ZF}
def QiF:(["row", "column", "cell"]:List Str).Nodup:=by decide
def QsQ(F:aB P w K mg base "meets_one" RQ)(T:aC mg) :
  au P w K mg base ax 1 "meets_one" (ZK false SR):=by
 refine cZ ["cell", "cells"] 2 false F λao A outer s H E nD hr hU hI=>?_
 refine⟨_,Q7<|ZN<|Y9 QtW (QBZ rfl) rfl T.any Dl.l8<|cF (Jf<|iu ["row", "column", "cell"] [none,none,some 0] (rX<|qp 1) λcl ex s3 H3 C=>⟨(iO rfl<|JO 0 (JO 1 iN QiF rfl (QM rfl)<|QV rfl) QiF rfl (QM rfl)<|QV rfl),rY,(QFI (Jf<|Ag jj (je hU) (QU<|YX Jm J6 (qp 2) (QU Jg) λ_ _=>rfl) (qp 0)<|JL _)<|xk<|JV<|Ag jj (je hU) (QU<|YX Jm J6 (qp 2) (QU Jg) λ_ _=>rfl) (qp 1)<|JL _)⟩) Q8,λargs R EX h=>?_⟩;obtain⟨c,L,rfl,hR⟩:=h;refine uT (λd=>.bool<|fw c<|cN d) (λd hd k2 hk=>?_)<|QyE rfl ?_
 ·obtain⟨q,_,rfl⟩:=Qh.mp hd;have hk:k2 (.bool<|decide (c.1=q.1)||decide (c.2=q.2)):=hk;refine⟨rfl,_,QX rfl,?_⟩;refine gQ (λz=>?_) λz=>?_
  ·rw[z] at hk;exact hk
  ·rw[z] at hk;exact⟨_,QX rfl,hk⟩
 ·rw[show((L.map pairD).any λd=>fw c<|cN d)=L.any λq=>fw c q by rw[vi];rfl];exact hR
def Qmd:(["other", "new", "piece"]:List Str).Nodup:=by decide
def QoQ(F:aB P w K mg base "piece_with" NR)(T:aC mg)
  (c1:au P w K mg base ax 1 "meets_one"<|ZK false SR) :
  au P w K mg base ax 2 "piece_with" (ZK false Um):=by
 refine cZ ["cell", "cells", "piece", "new"] 2 false F λao A outer s H E nD hr hU hI=>?_
 refine⟨_,QJ (ZH 2 (JV<|g6<|Zv (qv 0) Q8) nD)
  (QJ (ZH 3 (JV<|g6<|Zv (qv 0) Q8) nD)
  (QJ (Lq Jj (xy<|qp 3)
   (QJ (ZH 3 (JV<|iu ["other", "new", "piece"] [none,some 3,some 2] (rX<|qp 1) λcl ex s3 H3 C=>⟨(ZX 0 Qmd rfl (QM rfl)<|QV rfl),(jQ<|kO<|uR (J8 vh (jM hI) (qp 0) (qp 2) rfl)<|u6<|kW<|QU<|eZ c1 hr<|YM (qv 0)<|YM (qv 1) Zq),(qv 0)⟩) nD)
  (Q7<|ZH 2 (JV<|Yg ZO YH (qp 2)<|qp 3) nD)))
  (Q7<|ZN<|Yb JH YT rfl T.tuple Yc<|cF (Jf<|Y9 Mg cV rfl T.sorted Bh<|cF (qp 2) Q8) Q8))),λargs R EX h=>?_⟩
 obtain⟨x,cells,rfl,hx,sb,hR⟩:=h;have nc:=sb.1.imp jO;have qK:=sb.2.1;refine I0 (λm δ=>∃P N,δ=[.v<|pairD x,.v<|.list<|cells.map pairD,.v<|.list<|P.map pairD,.v<|.list<|N.map pairD]/\ik cells x P N/\m=2*(cells.length - P.length)+(if N.isEmpty=true then 0 else 1)) _ ⟨[x],[x],rfl,.start hx,rfl⟩ ?_
 rintro m δ ⟨P,N,rfl,hs,rfl⟩;have lP:=U4 hs.nd nc λp hp=>(hs.reach p hp).right
 refine⟨trivial,?_⟩;show if(!(N.map pairD).isEmpty)=true then _ else _
 rw[Qyg];cases eN:N.isEmpty with
 |false=>
  refine kg (λd=>if(λo:Int×Int => !decide (o∈P)&&N.any λq=>fw o q) (cN d)=true then some d else none) (λd hd k1 k2 h1 h2=>?_) ?_
  ·obtain⟨o,_,rfl⟩:=Qh.mp hd;have h1:(if(!decide (o∈P)&&N.any λq=>fw o q)=true then some (pairD o) else none)=none->k1:=h1;have h2:∀e,(if(!decide (o∈P)&&N.any λq=>fw o q)=true then some (pairD o) else none)=some e->k2 e:=h2
   refine⟨⟨ZP P,rfl,by have:=Z1 o;omega⟩,?_⟩;rw[Y2];cases z1:(!decide (o∈P)) with
   |true=>
    rw[z1,Be] at h1 h2;refine⟨_,_,rfl,?_⟩;show if(N.any λq=>fw o q)=true then k2 (pairD o) else k1
    by_cases z:(N.any λq=>fw o q)=true
    ·rw[X9 z];exact h2 _<|X9 z
    ·rw[X8 z];exact h1<|X8 z
   |false=>rw[z1] at h1;exact h1 rfl
  ·rw[vp λo:Int×Int => !decide (o∈P)&&N.any λq=>fw o q];have st:=hs.step nc;have lQ:=U4 st.nd nc λp hp=>(st.reach p hp).right
   rw[Qj] at lQ;have lN:(cells.filter λo => !decide (o∈P)&&N.any λq=>fw o q).length=(rf cells P N).length:=rfl;refine⟨by rw[Qb,Qb];omega,_,?_,P++rf cells P N,rf cells P N,?_,st,rfl⟩
   ·rw[Qj];cases eQ:rf cells P N with
    |nil=>
     show 2*(cells.length - (P.length+0))+0<2*(cells.length - P.length)+1;omega
    |cons a b=>
     rw[eQ] at lQ;rw[Qz] at lQ ⊢;show 2*(cells.length - (P.length+(b.length+1)))+1<2*(cells.length - P.length)+1;omega
   ·rw[Q3];rfl
 |true=>
  have eN:=List.isEmpty_iff.mp eN;subst eN;refine cP hs.nd (by omega) (λp hp=>sb.2.2 p (hs.reach p hp).right) λM pM pw=>hR M pw λy=>?_
  rw[pM.mem_iff];exact hs.done y
def Qme:(["cell", "piece"]:List Str).Nodup:=by decide
def QoR(F:aB P w K mg base "pieces" UW)(T:aC mg)
  (c1:au P w K mg base ax 2 "piece_with"<|ZK false Um) :
  au P w K mg base ax 3 "pieces" (ZK true VY):=by
 refine cZ ["board", "told", "left", "piece"] 1 true F λao A outer s H E nD hr hU hI=>?_
 refine⟨_,QJ (xJ 1 (g6 Q8) nD)
  (QJ (ZH 2 (JV<|Yb EL KA rfl T.list DN<|cF (QU<|YX Jm J6 (qp 0) (QU Jg) λ_ _=>rfl) Q8) nD)
  (QJ (Lq Jj (xy<|qp 2)
   (QJ (ZH 3 (eZ c1 hr<|YM (YX Jm J6 (qp 2) (QU Jg) λ_ _=>rfl)<|YM (qv 2) Zq) nD)
  (QJ (Qz4 1<|qv 3)
  (Q7<|K9 ["cell", "piece"] [none,some 3] 2 nD (rX<|qp 2) λcl ex s3 H3 C=>⟨(ZX 0 Qme rfl (QM rfl)<|QV rfl),(jQ<|J8 vh (jM hI) (qp 0) (qp 1) rfl),(qv 0)⟩))))
  (Q7<|K' 1))),λargs R EX h=>?_⟩
 obtain⟨h,w,cs,rfl,sb,hR⟩:=h;refine⟨_,QX rfl,?_⟩;refine I0 (λm δ=>∃T left ds x3,δ=[.v<|bQ h w cs,.own ds,.v<|.list<|left.map pairD,x3]/\ds=T.map f6/\nH cs T left/\m=left.length/\T.length+left.length<=cs.length) _ ⟨[],cs,_,_,rfl,rfl,.start sb.1,rfl,by show 0+_<=_;omega⟩ ?_
 rintro m δ ⟨Tt,left,ds,x3,rfl,rfl,hw,rfl,hl⟩;refine⟨trivial,?_⟩;cases left with
 |nil=>exact hR Tt hw.pc hw.done hw.ord (by simpa using hl)
 |cons x left=>
  refine tJ rfl ⟨_,QX rfl,x,x::left,rfl,.head _,?_,λM ms mm=>?_⟩
  ·have qK:=sb.2.1;exact⟨hw.kA,by omega,λp hp=>sb.2.2 p<|hw.sub p hp⟩
  ·have qK:=sb.2.1;refine⟨by rw[Qb];omega,?_⟩;refine kg (λd=>if(λc:Int×Int => !decide (c∈M)) (cN d)=true then some d else none) (λd hd k1 k2 h1 h2=>?_) ?_
   ·obtain⟨o,_,rfl⟩:=Qh.mp (hd);have h1:=h1;have h2:=h2;refine⟨⟨ZP M,rfl,by have:=Z1 o;omega⟩,?_⟩;show if(!((M.map pairD).any λe=>Qy e<|pairD o))=true then _ else _
    rw[Y2];by_cases z:(!decide (o∈M))=true
    ·rw[X9 z];exact h2 _<|X9 z
    ·rw[X8 z];exact h1<|X8 z
   ·have er:=vp (λc:Int×Int => !decide (c∈M)) (x::left);have xM:=(mm x).mpr<|.refl<|.head _;have e1:(x::left).filter (λc => !decide (c∈M))=left.filter λc => !decide (c∈M):=J7 (by simpa using xM)
    have l1:=Zk (λc:Int×Int => !decide (c∈M)) left;rw[Qz] at hl;refine⟨_,?_,Tt++[M],(x::left).filter λc => !decide (c∈M),_,_,by rw[<- er];rfl,by rw[Q3];rfl,hw.step ms mm,rfl,?_⟩
    ·rw[e1,Qz];omega
    ·rw[e1,Qj];show _+1+_<=_;omega
end
abbrev QBN:Zo:=top 65
abbrev RO:Zo:=top 66
abbrev QBL:Zo:=top 67
abbrev QBT:Zo:=top 68
abbrev PX:Zo:=top 69
abbrev RN:Zo:=top 70
abbrev PY:Zo:=top 71
abbrev UE:Zo:=top 72
abbrev We:Zo:=top 73
abbrev R9:Zo:=top 74
abbrev UG:Zo:=top 75
abbrev VO:Zo:=top 76
abbrev Pg:Zo:=top 80
def HM(C:Xb)(xc:Str->Xb)(H:Hp)(Q:VK)(E:XK)(b l:Xb)(es:List Bo)(k:Bo)(d:a9):Prop:=
 (∀wd,ez d es k=some wd->∀H',ag H H'->E (.ref<|xc wd) none H')/\(ez d es k=none->∀H',K2 b l H H'->bE C H' b l (mj d es k).1 (mj d es k).2->Q (.str "ok") H')
def Dh(C:Xb)(xc:Str->Xb)(mk:Xc->Xc->a9):Sp:=λvs H Q E=>∃(b l:Xb)(es:List Bo)(k:Bo)(x y:V)(dx dy:Xc),vs=[.ref b,x,y]/\bE C H b l es k/\k.ok/\es.length<=1000/\DA N0 H x dx/\DA N0 H y dy/\HM C xc H Q E b l es k (mk dx dy)
def n_(C:Xb)(xc:Str->Xb)(d:a9):Sp:=λvs H Q E=>∃(b l:Xb)(es:List Bo)(k:Bo),vs=[.ref b]/\bE C H b l es k/\k.ok/\es.length<=1000/\HM C xc H Q E b l es k d
def og(C:Xb)(R:Bo->Str->Prop):Sp:=λvs H Q _=>∃(b l:Xb)(es:List Bo)(k:Bo),vs=[.ref b]/\bE C H b l es k/\k.ok/\∀t H',R k t->ag H H'->Q (.str t) H'
def w9(k:Bo)(t:Str):Prop:=∃m:Nat,mi (ae k.h k.w k.f) k.h k.w m/\t=Qe (toString (m:Int))
def Fj(k:Bo)(t:Str):Prop:=∃Tt:List<|List (Int×Int),(∀L∈Tt,mH (ae k.h k.w k.f) L)/\(∀y∈ae k.h k.w k.f,∃L∈Tt,y∈L)/\Tt.Pairwise kL/\t=Qe (toString (Tt.length:Int))
def Aa{k:Bo}(o:k.ok):CH (ae k.h k.w k.f):=⟨aE k.w k.f k.h,QK (YS k.w k.f k.h)<|YJ o.h6 o.w6,λp hp=>by
 have:=YI hp;have:=o.w6;omega⟩
def CS{k:Bo}(o:k.ok):GB k.h k.w (ae k.h k.w k.f):=M4 k.f o.h6 o.w6
def pN{n:Int}(h0:0<=n)(h:n<1920):n.natAbs.log2<1920:=JK (PH _) (by omega)
def uA(k:Bo)(t:Str):Prop:=t=jR (Qe " ") ((bM k.f k.h k.w).map λn=>Qe<|toString n)
def kQ(p:Int×Int):Str:=r8++Qe (toString p.1)++Qe "-" ++ Qe (toString p.2)
def qW(k:Bo)(t:Str):Prop:=∃(m:Nat)(L:List (Int×Int)),mi (ae k.h k.w k.f) k.h k.w m/\(fL (ae k.h k.w k.f) m)[0]? = some L/\t=if L.isEmpty=true then Qe "none" else jR (Qe " ")<|L.map kQ
def Vu{k:Bo}(o:k.ok)(g:mi (ae k.h k.w k.f) k.h k.w m):∃L,(fL (ae k.h k.w k.f) m)[0]? = some L:=by
 have e:=IK (CS o) m;have p:=g.2.1;exact⟨_,Qc<|by omega⟩
def IP(h6:h<=6)(w6:w<=6):∀n∈bM f h w,0<=n/\n<=200000:=λn hn=>by
 obtain⟨k,_,rfl⟩:=Qh.mp hn;have e:=IK (M4 f h6 w6) k;have:=QBv (M4 f h6 w6) k;omega
def oi{n:Int}(h0:0<=n)(h:n<10^10):(Qe<|toString n).length<=34:=by
 obtain⟨m,rfl⟩:∃m:Nat,n=m:=⟨n.toNat,(Mn h0).symm⟩
 have e:=PySem.nat_repr_length_le (n:=m) (k:=34) (by decide) (by omega);have e2:m.repr.length=(Nat.toDigits 10 m).length:=by simp[Nat.repr]
 have e3:(Qe<|toString (m:Int)).length=(Nat.toDigits 10 m).length:=by
  show(Qe<|toString (m:Int)).cps.size=_;rw[<- Jd,PySem.W.KIN.signs_num,Qb]
 omega
def T1{n:Int}(h0:0<=n)(h:n<=200000):n.natAbs.log2<1920:=by
 by_cases z:n.natAbs=0
 ·rw[z];decide
 ·exact(ID z).mpr (JK (show n.natAbs<=200000 by omega)<|by decide)
def ny(f:α->β)(l:List α):l.filterMap (λi=>some<|f i)=l.map f:=by
 rw[List.filterMap_eq_map']
def uV(g:α->β)(d:α)(l:List α):(Qv l.length).map (λi=>g<|l.getD i d)=l.map g:=by
 refine Rn (by simp) λi h1 h2=>?_
 rw[Qb,Q5] at h1;rw[EG,EG,List.getElem_range,Qi,Qc h1];rfl
def HJ{k:Bo}(o:k.ok)(e:(fL (ae k.h k.w k.f) m)[0]? = some L):L.length=m/\∀p∈L,0<=p.1/\p.1<6/\0<=p.2/\p.2<6:=by
 obtain⟨st,lk⟩:=(xq (CS o).r0 m _).mp<|Jb e;refine⟨lk,λp hp=>?_⟩;have:=YI<|st.sub p hp;have:=o.h6;have:=o.w6;omega
def Vj(h:0<=p.1/\p.1<6/\0<=p.2/\p.2<6):(kQ p).length<=70:=by
 have ll:∀x y:Str,(x++y).length=x.length+y.length:=λx y=>by
  show(x++y).cps.size=_;rw[Bd,L5];rfl
 have e1:=oi h.1 (by omega);have e2:=oi h.2.2.1 (by omega);unfold kQ;rw[ll,ll,ll,show r8.length=0 from rfl,show(Qe "-").length=1 by decide];omega
def Qth:(["many"]:List Str).Nodup:=by decide
def SV:(["row", "column"]:List Str).Nodup:=by decide
section
variable{P:QB}{w:Jh}{K:Ws}{mg:Str->Option Xd}{base:ZF}
def Qxz(F:aB P w K mg base "put_cell" QBN)(Tg:aC mg)(T:eF K C)(mD:mg "DONE" = some (.str "ok" tD))
  (D:aL P w K mg base (Rx.aY P w) 5 C "put"<|CY C xc .put) :
  au P w K mg base (Rx.aY P w) 6 "put_cell" (Dh C xc .put):=by
 refine oE ["bench", "row", "column"] 3 F λao A outer s H vs Q E nD hr h=>?_
 obtain⟨b,l,es,k,x,y,x',y',rfl,B,o,hl,hx,hy,po⟩:=h;refine⟨_,QC (ZB<|sj (pv 0) T.cl D hr (Rx.jf (λ_ _ h=>h) rfl rfl rfl)<|Ql (pv 1)<|Ql (pv 2) Qu)<|Q6<|JZ<|Z5 (v:=.str "ok") rfl mD ⟨_,rfl⟩,?_⟩;obtain⟨dx,kv,xs,e1,e2,d1,d2⟩:=B.at_;exact⟨_,rfl,b,dx,_,rfl,e1,gJ _ _ (by decide)<|by decide,_,rfl,_,rfl,b,l,es,k,x,y,x',y',rfl,B,o,hl,hx,hy,po.1,λhn H' k1 B1=>po.2 hn H' k1 B1⟩
def QsX(F:aB P w K mg base "take_cell" RO)(Tg:aC mg)(T:eF K C)(mD:mg "DONE" = some (.str "ok" tD))
  (D:aL P w K mg base (Rx.aY P w) 6 C "take"<|CY C xc .take) :
  au P w K mg base (Rx.aY P w) 7 "take_cell" (Dh C xc .take):=by
 refine oE ["bench", "row", "column"] 3 F λao A outer s H vs Q E nD hr h=>?_
 obtain⟨b,l,es,k,x,y,x',y',rfl,B,o,hl,hx,hy,po⟩:=h;refine⟨_,QC (ZB<|sj (pv 0) T.cl D hr (Rx.jf (λ_ _ h=>h) rfl rfl rfl)<|Ql (pv 1)<|Ql (pv 2) Qu)<|Q6<|JZ<|Z5 (v:=.str "ok") rfl mD ⟨_,rfl⟩,?_⟩;obtain⟨dx,kv,xs,e1,e2,d1,d2⟩:=B.at_;exact⟨_,rfl,b,dx,_,rfl,e1,gJ _ _ (by decide)<|by decide,_,rfl,_,rfl,b,l,es,k,x,y,x',y',rfl,B,o,hl,hx,hy,po.1,λhn H' k1 B1=>po.2 hn H' k1 B1⟩
def Qxy(F:aB P w K mg base "put_row" QBL)(Tg:aC mg)(T:eF K C)(mD:mg "DONE" = some (.str "ok" tD))
  (D:aL P w K mg base (Rx.aY P w) 3 C "row"<|nP C xc .row) :
  au P w K mg base (Rx.aY P w) 4 "put_row" (n_ C xc .row):=by
 refine oE ["bench"] 1 F λao A outer s H vs Q E nD hr h=>?_
 obtain⟨b,l,es,k,rfl,B,o,hl,po⟩:=h;refine⟨_,QC (ZB<|YG (pv 0) T.cl D hr<|Rx.jf (λ_ _ h=>h) rfl rfl rfl)<|Q6<|JZ<|Z5 (v:=.str "ok") rfl mD ⟨_,rfl⟩,?_⟩;obtain⟨dx,kv,xs,e1,e2,d1,d2⟩:=B.at_;exact⟨_,rfl,b,dx,_,rfl,e1,gJ _ _ (by decide)<|by decide,b,l,es,k,rfl,B,o,hl,po.1,λhn H' k1 B1=>po.2 hn H' k1 B1⟩
def QxA(F:aB P w K mg base "put_column" QBT)(Tg:aC mg)(T:eF K C)(mD:mg "DONE" = some (.str "ok" tD))
  (D:aL P w K mg base (Rx.aY P w) 3 C "column"<|nP C xc .col) :
  au P w K mg base (Rx.aY P w) 4 "put_column" (n_ C xc .col):=by
 refine oE ["bench"] 1 F λao A outer s H vs Q E nD hr h=>?_
 obtain⟨b,l,es,k,rfl,B,o,hl,po⟩:=h;refine⟨_,QC (ZB<|YG (pv 0) T.cl D hr<|Rx.jf (λ_ _ h=>h) rfl rfl rfl)<|Q6<|JZ<|Z5 (v:=.str "ok") rfl mD ⟨_,rfl⟩,?_⟩;obtain⟨dx,kv,xs,e1,e2,d1,d2⟩:=B.at_;exact⟨_,rfl,b,dx,_,rfl,e1,gJ _ _ (by decide)<|by decide,b,l,es,k,rfl,B,o,hl,po.1,λhn H' k1 B1=>po.2 hn H' k1 B1⟩
def QsW(F:aB P w K mg base "turn_board" PX)(Tg:aC mg)(T:eF K C)(mD:mg "DONE" = some (.str "ok" tD))
  (D:aL P w K mg base (Rx.aY P w) 3 C "turn"<|nP C xc .turn) :
  au P w K mg base (Rx.aY P w) 4 "turn_board" (n_ C xc .turn):=by
 refine oE ["bench"] 1 F λao A outer s H vs Q E nD hr h=>?_
 obtain⟨b,l,es,k,rfl,B,o,hl,po⟩:=h;refine⟨_,QC (ZB<|YG (pv 0) T.cl D hr<|Rx.jf (λ_ _ h=>h) rfl rfl rfl)<|Q6<|JZ<|Z5 (v:=.str "ok") rfl mD ⟨_,rfl⟩,?_⟩;obtain⟨dx,kv,xs,e1,e2,d1,d2⟩:=B.at_;exact⟨_,rfl,b,dx,_,rfl,e1,gJ _ _ (by decide)<|by decide,b,l,es,k,rfl,B,o,hl,po.1,λhn H' k1 B1=>po.2 hn H' k1 B1⟩
def QsY(F:aB P w K mg base "put_rest" RN)(Tg:aC mg)(T:eF K C)(mD:mg "DONE" = some (.str "ok" tD))
  (D:aL P w K mg base (Rx.aY P w) 2 C "rest"<|nP C xc .rest) :
  au P w K mg base (Rx.aY P w) 3 "put_rest" (n_ C xc .rest):=by
 refine oE ["bench"] 1 F λao A outer s H vs Q E nD hr h=>?_
 obtain⟨b,l,es,k,rfl,B,o,hl,po⟩:=h;refine⟨_,QC (ZB<|YG (pv 0) T.cl D hr<|Rx.jf (λ_ _ h=>h) rfl rfl rfl)<|Q6<|JZ<|Z5 (v:=.str "ok") rfl mD ⟨_,rfl⟩,?_⟩;obtain⟨dx,kv,xs,e1,e2,d1,d2⟩:=B.at_;exact⟨_,rfl,b,dx,_,rfl,e1,gJ _ _ (by decide)<|by decide,b,l,es,k,rfl,B,o,hl,po.1,λhn H' k1 B1=>po.2 hn H' k1 B1⟩
def QsV(F:aB P w K mg base "undo_deed" PY)(Tg:aC mg)(T:eF K C)(mD:mg "DONE" = some (.str "ok" tD))
  (D:aL P w K mg base (Rx.aY P w) 1 C "undo"<|nP C xc .bz) :
  au P w K mg base (Rx.aY P w) 2 "undo_deed" (n_ C xc .bz):=by
 refine oE ["bench"] 1 F λao A outer s H vs Q E nD hr h=>?_
 obtain⟨b,l,es,k,rfl,B,o,hl,po⟩:=h;refine⟨_,QC (ZB<|YG (pv 0) T.cl D hr<|Rx.jf (λ_ _ h=>h) rfl rfl rfl)<|Q6<|JZ<|Z5 (v:=.str "ok") rfl mD ⟨_,rfl⟩,?_⟩;obtain⟨dx,kv,xs,e1,e2,d1,d2⟩:=B.at_;exact⟨_,rfl,b,dx,_,rfl,e1,gJ _ _ (by decide)<|by decide,b,l,es,k,rfl,B,o,hl,po.1,λhn H' k1 B1=>po.2 hn H' k1 B1⟩
def QsK(F:aB P w K mg base "tell_most" R9)(Tg:aC mg)(T:eF K C)
  (D:aL P w K mg base ax 5 C "most"<|J_ C) :
  au P w K mg base ax 6 "tell_most" (og C w9):=by
 refine gs ["bench"] 1 F λao A outer s H vs Q E nD hr h=>?_
 obtain⟨b,l,es,k,rfl,B,o,q⟩:=h;refine⟨_,Q6<|JZ<|Zg ZJ rfl Tg.str mr<|Ql (YG (pv 0) T.cl D hr jN) Qu,?_⟩;obtain⟨dx,kv,xs,e1,e2,d1,d2⟩:=B.at_;refine⟨_,rfl,b,dx,_,rfl,e1,gJ _ _ (by decide)<|by decide,b,l,es,k,rfl,B,o,λm H' g s'=>⟨m,rfl,?_,q _ H' ⟨m,g,rfl⟩ s'⟩⟩;have h6:=o.h6;have hm:m<=6:=by have:=g.1;omega
 exact JK (PH _) (by omega)
def Qxi(F:aB P w K mg base "tell_pieces" VO)(Tg:aC mg)(T:eF K C)
  (D:aL P w K mg base ax 1 C "board"<|DH C)
   (c1:au P w K mg base ax 3 "pieces"<|ZK true VY) :
  au P w K mg base ax 4 "tell_pieces" (og C Fj):=by
 refine gs ["bench"] 1 F λao A outer s H vs Q E nD hr h=>?_
 obtain⟨b,l,es,k,rfl,B,o,q⟩:=h;refine⟨_,Q6<|JZ<|Zg ZJ rfl Tg.str mr<|Ql (Z4 Yp rfl Tg.len kS<|Ql (Zr c1 hr<|Ql (YG (pv 0) T.cl D hr jN) Qu) Qu) Qu,?_⟩;obtain⟨dx,kv,xs,e1,e2,d1,d2⟩:=B.at_;refine⟨_,rfl,b,dx,_,rfl,e1,gJ _ _ (by decide)<|by decide,b,l,es,k,rfl,B,λv q1=>?_⟩;refine g9 (args:=[.v k.d]) (λd=>∃Tt:List<|List (Int×Int),(∀L∈Tt,mH (ae k.h k.w k.f) L)/\(∀y∈ae k.h k.w k.f,∃L∈Tt,y∈L)/\Tt.Pairwise kL/\Tt.length<=(ae k.h k.w k.f).length/\d=.list (Tt.map f6)) XF (.cons q1 .nil) ⟨_,_,_,rfl,Aa o,λTt h1 h2 h3 h4=>⟨Tt,h1,h2,h3,h4,rfl⟩⟩ (λd hd v' H' s' dv _=>?_) λ_ z=>z.elim
 obtain⟨Tt,h1,h2,h3,h4,rfl⟩:=hd;cases dv with
 |@lst t ys _ _ e qq=>
  have ly:ys.length=Tt.length:=by rw[qq.length,Qb]
  have qK:=(Aa o).2.1;refine⟨t,ys,rfl,.inl<|aA.of e,(ys.length:Int),rfl,pN (by omega)<|by omega,?_⟩;rw[ly];exact q _ H' ⟨Tt,h1,h2,h3,rfl⟩ s'
def Qxj{C:Xb}(F:aB P w K mg base "tell_counts" We)(Tg:aC mg)(T:eF K C){tB:_}(yU:mg "BLANK" = some (.str " " tB))
  (D:aL P w K mg base ax 4 C "counts"<|V8 C) :
  au P w K mg base ax 5 "tell_counts" (og C uA):=by
 refine gs ["bench"] 1 F λao A outer s H vs Q E nD hr h=>?_
 obtain⟨b,l,es,k,rfl,B,o,q⟩:=h;refine⟨_,Q6<|JZ<|gZ WA WD WE pJ (Z5 (v:=.str " ") rfl yU ⟨_,rfl⟩)<|Ql (Y5 (cap:=[none]) rfl rfl (AV<|YG (pv 0) T.cl D hr jN) λcl ex s3 H3 C=>⟨YF (i:=0) Qth rfl (QM rfl)<|QV rfl,kX,Zg ZJ rfl Tg.str mr<|Ql (pv 0) Qu⟩) Qu,?_⟩;obtain⟨dx,kv,xs,e1,e2,d1,d2⟩:=B.at_;refine⟨rfl,_,rfl,b,dx,_,rfl,e1,gJ _ _ (by decide)<|by decide,b,l,es,k,rfl,B,o,λt H1 s1 n1 a1=>⟨t,rfl,⟨_,aA.of a1⟩,λp hp=>?_⟩⟩;have lc:(bM k.f k.h k.w).length=min k.h k.w+1:=by unfold bM;rw[Qb,Q5]
 have h6:=o.h6;have nn:=IP (f:=k.f) o.h6 o.w6;have at_:∀i,i<(bM k.f k.h k.w).length->((bM k.f k.h k.w).map V.int)[i]? = some (.int<|(bM k.f k.h k.w).getD i 0):=λi hi=>by
  rw[Qq,Qi,Qc hi];rfl
 have gm:∀i,i<(bM k.f k.h k.w).length->(bM k.f k.h k.w).getD i 0∈bM k.f k.h k.w:=λi hi=>by
  rw[Qi,Qc hi];exact JQ _
 refine mF (bM k.f k.h k.w).length (ZY<|by omega) (λi=>some<|.str<|Qe<|toString<|(bM k.f k.h k.w).getD i 0) hp (λi H2 hi s2=>?_) (λH2 s2=>?_) λH2 s2 e3=>?_
 ·refine⟨⟨_,_,aA.of<|s2 _ _ a1,at_ i hi⟩,λx H3 ⟨eH,ev⟩ kn kv h1 h2=>?_⟩;subst eH;have ex:=ev _<|aA.of<|s2 _ _ a1;rw[at_ i hi] at ex;cases ex;refine⟨trivial,?_⟩;refine(df ?_:if true=true then _ else kn H3);have nb:=nn _<|gm i hi;exact⟨_,rfl,_,rfl,T1 nb.1 nb.2,h2 _ rfl H3 λ_ _ z=>z⟩
 ·exact⟨_,aA.of<|s2 _ _ a1,by rw[Qb];exact Qd _⟩
 ·rw[ny] at e3;have e4:H2 p=some (.lst<|((bM k.f k.h k.w).map λn=>Qe<|toString n).map V.str):=by
   rw[e3,QD];exact congrArg (λz=>some<|HO.lst z)<|uV (λn=>V.str<|Qe<|toString n) 0<|bM k.f k.h k.w
  refine⟨_,p,_,rfl,rfl,aA.of e4,vc (B:=34) (λy hy=>?_) ?_,q _ H2 rfl<|s1.trans s2⟩
  ·obtain⟨n,hn,rfl⟩:=Qh.mp hy;have nb:=nn n hn;exact oi nb.1 (by omega)
  ·rw[Qb,lc];show _*34+_*1<=_;omega
def Qxh{C:Xb}(F:aB P w K mg base "tell_stand" UG)(Tg:aC mg)(T:eF K C){tB:_}(yU:mg "BLANK" = some (.str " " tB)){tN:_}(mNo:mg "NO_CELLS" = some (.str "none" tN))
  (D:aL P w K mg base ax 1 C "board"<|DH C)
  (D1:aL P w K mg base ax 5 C "most"<|J_ C)
   (c1:au P w K mg base ax 4 "stand_at"<|ZK false V_) :
  au P w K mg base ax 6 "tell_stand" (og C qW):=by
 refine gs ["bench", "stand"] 1 F λao A outer s H vs Q E nD hr h=>?_
 obtain⟨b,l,es,k,rfl,B,o,q⟩:=h;refine⟨_,QC (eD 1 nD<|Zr c1 hr<|Ql (YG (pv 0) T.cl D hr jN)<|Ql (YG (pv 0) T.cl D1 hr jN)<|Ql Je Qu)
  (QC (gj (xx<|DZ (pv 1) λ_=>rfl) (Q6<|JZ<|Z5 (v:=.str "none") rfl mNo ⟨_,rfl⟩) Yh)
  (Q6<|JZ<|gZ WA WD WE pJ (Z5 (v:=.str " ") rfl yU ⟨_,rfl⟩)<|Ql (Y5 (cap:=[none,none]) (g:=Bv K 2<|rG (Yj 0)<|rG (Yj 1) Bu) (tc:=oj) (te:=NB "-" (Yu 0)<|Yu 1) rfl rfl (C_<|pv 1) λcl ex s3 H3 C=>⟨pC rfl<|Zz (YF (i:=0) SV rfl (QM rfl)<|QV rfl)<|Zz (YF (i:=1) SV rfl (QM rfl)<|QV rfl) pK,kX,QDK (pv 0)<|pv 1⟩) Qu)),?_⟩
 obtain⟨dx,kv,xs,e1,e2,d1,d2⟩:=B.at_;refine⟨_,rfl,b,dx,_,rfl,e1,gJ _ _ (by decide)<|by decide,b,l,es,k,rfl,B,λv q1=>⟨_,rfl,b,dx,_,rfl,e1,gJ _ _ (by decide)<|by decide,b,l,es,k,rfl,B,o,λm H1 gm s1=>?_⟩⟩;obtain⟨L,eL⟩:=Vu o gm;obtain⟨lL,bL⟩:=HJ o eL;refine g9 (args:=[.v k.d,.v<|.int m,.v<|.int 0]) (λd=>d=f6 L) XF (.cons (DA.same q1 s1)<|.cons (.int _)<|.cons (.int _) .nil) ⟨k.h,k.w,_,m,0,L,rfl,CS o,gm.1,eL,rfl⟩ (λd hd v' H2 s2 dv _=>?_) λ_ z=>z.elim
 subst hd;have eG:=s1.trans s2;have h6:=o.h6;have m6:m<=6:=by have:=gm.1;omega
 obtain⟨a,ps,rfl,ea,dp⟩:∃a ps,v'=.ref a/\H2 a=some (.tup ps)/\aJ N0 H2 ps (L.map pairD):=by
  cases dv with
  |tup _ e qq=>exact⟨_,_,rfl,e,qq⟩
 have lp:ps.length=L.length:=by rw[dp.length,Qb]
 refine⟨_,rfl,!ps.isEmpty,.inr<|.inl ⟨ps,aM.of ea,rfl⟩,?_⟩;have ee:ps.isEmpty=L.isEmpty:=by cases ps<;>cases L<;>first | rfl | cases lp
 cases eP:ps.isEmpty with
 |true=>
  refine q _ H2 ⟨m,L,gm,eL,?_⟩ eG;rw[<- ee,eP];rfl
 |false=>
  refine dO ?_
  refine⟨rfl,_,rfl,a,rfl,⟨_,aM.of ea⟩,λp hp=>?_⟩;have Hk:∀i,i<L.length->∃c,ps[i]? = some (.ref c)/\H2 c=some (.tup [.int (L.getD i (0,0)).1,.int (L.getD i (0,0)).2]):=λi hi=>by
   obtain⟨x,hx,zR⟩:=dp.get i (pairD<|L.getD i (0,0)) (by rw[Qq,Qi,Qc hi];rfl);cases zR with
   |tup _ e qq=>cases qq with
    |cons qa qq=>cases qq with
     |cons qb qq=>cases qq;cases qa;cases qb;exact⟨_,hx,e⟩
  have gL:∀i,i<L.length->L.getD i (0,0)∈L:=λi hi=>by
   rw[Qi,Qc hi];exact JQ _
  refine mF L.length (ZY<|by omega) (λi=>some<|.str<|kQ<|L.getD i (0,0)) hp (λi H3 hi s3=>?_) (λH3 s3=>?_) λH3 s3 e3=>?_
  ·obtain⟨c,hc,ec⟩:=Hk i hi;refine⟨⟨_,_,aM.of<|s3 _ _ ea,hc⟩,λx H4 ⟨eH,ev⟩ kn kv h1 h2=>?_⟩;subst eH;have ex:=ev _<|aM.of<|s3 _ _ ea;rw[hc] at ex;cases ex;have bd:=bL _<|gL i hi;have n1:=oi (n:=(L.getD i (0,0)).1) bd.1 (by omega);have n2:=oi (n:=(L.getD i (0,0)).2) bd.2.2.1 (by omega);refine⟨c,_,rfl,aM.of<|s3 _ _ ec,rfl,_,_,rfl,_,_,rfl,rfl,trivial,?_⟩;refine(df (B:=kn H4) ?_:if true=true then _ else kn H4);exact⟨_,rfl,_,rfl,pN bd.1<|by omega,by rw[show(Qe "-").length=1 by decide];omega,_,rfl,_,rfl,pN bd.2.2.1<|by omega,by omega,h2 _ rfl H4 λ_ _ z=>z⟩
  ·exact⟨_,aM.of<|s3 _ _ ea,by omega⟩
  ·rw[ny] at e3;have e4:H3 p=some (.lst<|(L.map kQ).map V.str):=by
    rw[e3,QD];exact congrArg (λz=>some<|HO.lst z)<|uV (λn=>V.str<|kQ n) (0,0) L
   refine⟨_,p,_,rfl,rfl,aA.of e4,vc (B:=70) (λy hy=>?_) ?_,q _ H3 ⟨m,L,gm,eL,?_⟩<|eG.trans s3⟩
   ·obtain⟨n,hn,rfl⟩:=Qh.mp hy;exact Vj<|bL n hn
   ·rw[Qb,lL];show _*70+_*1<=_;omega
   ·rw[<- ee,eP];rfl
end
end Rk


namespace Rk
open L2 _root_.Rd
open Dl
open Rt
abbrev Pm:Zo:=top 58
abbrev Pn:Zo:=top 59
def Ik:Sp:=λvs H Q _=>∃(v:V)(k:Bo)(r:Nat),vs=[v,.int r]/\DA N0 H v k.d/\k.ok/\∀H',ag H H'->Q (.str<|q0 (ae k.h k.w k.f) k.w r) H'
def Pt:Sp:=λvs H Q _=>∃(v:V)(k:Bo),vs=[v]/\DA N0 H v k.d/\k.ok/\∀H',ag H H'->Q (.str<|nR k.h k.w<|ae k.h k.w k.f) H'
def wQ(k:Bo)(t:Str):Prop:=t=nR k.h k.w (ae k.h k.w k.f)
def QA2:(["column", "board", "row"]:List Str).Nodup:=by decide
def QDV:(["row", "board"]:List Str).Nodup:=by decide
section
variable{P:QB}{w:Jh}{K:Ws}{mg:Str->Option Xd}{base:ZF}
def QAJ(F:aB P w K mg base "written_row" Pn)(Tg:aC mg){uC uO:_}(mC:mg "CELL" = some (.str zZ uC))(mO:mg "OTHER" = some (.str zY uO)) :
  au P w K mg base ax 1 "written_row" Ik:=by
 refine gs ["board", "row"] 2 F λao A outer s H vs Q E nD hr h=>?_
 obtain⟨v,k,r,rfl,hv,o,q⟩:=h;refine⟨_,Q6<|JZ<|gZ WA WD WE pJ Zf<|Ql (Y5 (M:=["column", "board", "row"]) (cap:=[none,some 0,some 1]) (g:=Yj 0) (tc:=oj) (te:=(NA (tT K E0<|gI<|eX (inD false) (wV<|fV (kI 2)<|fV (kI 0) md)<|eX za (f_ 1)<|dC<|.int 2) (tC<|.str zZ)<|tC<|.str zY)) rfl (by rfl) (pO (by rfl) Tg.range<|Ql (Z8 nV (pv 0) Je λ_ _=>rfl) Qu) λcl ex s3 H3 C=>⟨YF (i:=0) QA2 rfl (QM rfl)<|QV rfl,kX,Wp (QT.h (E:=E0)<|J8 uY (jM<|az.tK hr) (Jf<|Ys<|Zv (qv 2)<|Zv (qv 0) Q8) (QU<|YX Jm J6 (qp 1) (QU Jg) λ_ _=>rfl)<|by rfl) (Z5 (v:=.str zZ) (by rfl) mC ⟨_,rfl⟩)<|Z5 (v:=.str zY) (by rfl) mO ⟨_,rfl⟩⟩) Qu,?_⟩;obtain⟨a,c,ps,rfl,e1,e2,dc⟩:=uI hv;have w6:=o.w6;refine⟨rfl,_,rfl,a,_,1,.int k.w,rfl,rfl,aM.of e1,rfl,(k.w:Int),rfl,by omega,by omega,λpl hpl=>?_⟩;rw[Qx];refine mF k.w (ZY<|by omega) (λi=>some<|.str<|kR (ae k.h k.w k.f) r i) hpl (λi H2 hi s2=>?_) (λH2 s2=>?_) λH2 s2 e3=>?_
 ·refine⟨?_,λv H3 ⟨eH,ev⟩ kn kv h1 h2=>?_⟩
  ·show i<_;omega
  subst eH ev;refine⟨⟨rfl,rfl,trivial⟩,?_⟩;refine(df (B:=kn H3) ?_:if true=true then _ else kn H3);rw[Ye];refine Gu [.v<|.int i,.v k.d,.v<|.int r] (.cons ⟨_,rfl,.int _⟩<|.cons ⟨_,rfl,DA.same hv s2⟩<|.cons ⟨_,rfl,.int _⟩ .nil) ?_
  refine⟨_,QX (j:=2) rfl,⟨ZP _,rfl,by have:=Z1 ((r:Int),(i:Int));exact QK (Y1 this)<|by decide⟩,λH4 s4=>?_⟩;show if(((ae k.h k.w k.f).map pairD).any λe=>Qy e<|pairD ((r:Int),(i:Int)))=true then _ else _
  rw[Y2];have jB:=h2 _ rfl H4 s4;unfold kR at jB;by_cases hm:((r:Int),(i:Int))∈ae k.h k.w k.f
  ·rw[X_ hm];rw[X9 hm] at jB;exact df jB
  ·rw[X' hm];rw[X8 hm] at jB;exact dO jB
 ·show _<=_;omega
 ·rw[ny] at e3;have e4:H2 pl=some (.lst<|((Qv k.w).map<|kR (ae k.h k.w k.f) r).map V.str):=by rw[e3,QD];rfl
  refine⟨_,pl,(Qv k.w).map<|kR (ae k.h k.w k.f) r,rfl,rfl,aA.of e4,?_,?_⟩
  ·rw[show(Qe "" : Str)=fM from CZ];exact Qfr _ w6 r
  ·have:=q H2 s2;unfold q0 at this;rw[show(Qe "" : Str)=fM from CZ];exact this
def QAK(F:aB P w K mg base "written" Pm)(Tg:aC mg){tB:_}(mB:mg "BETWEEN" = some (.str qT tB))
   (c1:au P w K mg base ax 1 "written_row" Ik) :
  au P w K mg base ax 2 "written" Pt:=by
 refine gs ["board"] 1 F λao A outer s H vs Q E nD hr h=>?_
 obtain⟨v,k,rfl,hv,o,q⟩:=h;refine⟨_,Q6<|JZ<|gZ WA WD WE pJ (Z5 (v:=.str qT) (by rfl) mB ⟨_,rfl⟩)<|Ql (Y5 (M:=["row", "board"]) (cap:=[none,some 0]) (g:=Yj 0) (tc:=oj) (te:=Ai Ik [] E0<|ZM (Yu 1)<|ZM (Yu 0) bD) rfl (by rfl) (pO (by rfl) Tg.range<|Ql (Z8 nV (pv 0) Je λ_ _=>rfl) Qu) λcl ex s3 H3 C=>⟨YF (i:=0) QDV rfl (QM rfl)<|QV rfl,kX,Zr c1 hr<|Ql (pv 1)<|Ql (pv 0) Qu⟩) Qu,?_⟩;obtain⟨a,c,ps,rfl,e1,e2,dc⟩:=uI hv;have h6:=o.h6;refine⟨rfl,_,rfl,a,_,0,.int k.h,rfl,rfl,aM.of e1,rfl,(k.h:Int),rfl,by omega,by omega,λpl hpl=>?_⟩;rw[Qx];refine mF k.h (ZY<|by omega) (λi=>some<|.str<|q0 (ae k.h k.w k.f) k.w i) hpl (λi H2 hi s2=>?_) (λH2 s2=>?_) λH2 s2 e3=>?_
 ·refine⟨?_,λv H3 ⟨eH,ev⟩ kn kv h1 h2=>?_⟩
  ·show i<_;omega
  subst eH ev;refine⟨⟨rfl,trivial⟩,?_⟩;refine(df (B:=kn H3) ?_:if true=true then _ else kn H3);rw[Ye];exact⟨_,rfl,_,rfl,_,k,i,rfl,DA.same hv s2,o,λH4 s4=>h2 _ rfl H4 s4⟩
 ·show _<=_;omega
 ·rw[ny] at e3;have e4:H2 pl=some (.lst<|(nX k.h k.w<|ae k.h k.w k.f).map V.str):=by unfold nX;rw[e3,QD];rfl
  exact⟨_,pl,_,rfl,rfl,aA.of e4,Qd6 _ h6 o.w6,q H2 s2⟩
def Qxk{C:Xb}(F:aB P w K mg base "tell_board" UE)(Tg:aC mg)(T:eF K C)
  (D:aL P w K mg base ax 1 C "board"<|DH C)
   (c1:au P w K mg base ax 2 "written" Pt) :
  au P w K mg base ax 3 "tell_board" (og C wQ):=by
 refine gs ["bench"] 1 F λao A outer s H vs Q E nD hr h=>?_
 obtain⟨b,l,es,k,rfl,B,o,q⟩:=h;refine⟨_,Q6<|JZ<|Zr c1 hr<|Ql (YG (pv 0) T.cl D hr jN) Qu,?_⟩;obtain⟨dx,kv,xs,e1,e2,d1,d2⟩:=B.at_;exact⟨_,rfl,b,dx,_,rfl,e1,gJ _ _ (by decide)<|by decide,b,l,es,k,rfl,B,λv q1=>⟨v,k,rfl,q1,o,λH' s'=>q _ H' rfl s'⟩⟩
end
def BA:List Str:=(Qv 100).map λ(n:Nat)=>Qe<|toString (n:Int)
def rJ(z:Str):Bool:=decide (z∈BA)
def kP(ws:List Str):Bool:=decide (ws.length=2)&&ws.all rJ
def R0:Sp:=λvs H Q _=>∃(p:Xb)(ws:List Str),vs=[.ref p]/\H p=some (.lst<|ws.map V.str)/\ws.length<=100000/\∀H',ag H H'->Q (.bl<|kP ws) H'
def QAY:(["number"]:List Str).Nodup:=by decide
def QDU:(["word", "known"]:List Str).Nodup:=by decide
def Qx5(z:Str)(ts:List Str):tE (V.str z) (ts.map V.str)=decide (z∈ts):=by
 unfold tE;rw[vi,Jt,J5,Z'];constructor
 ·rintro⟨x,hx,e⟩;have e:(x == z)=true:=e;rw[<- beq_iff_eq.mp e];exact hx
 ·intro hx;exact⟨z,hx,beq_self_eq_true z⟩
abbrev QBe:Zo:=jP (top 79) 0
abbrev y7:Zo:=jP (top 79) 1
def uh(b:Xb):List (Str×V):=dF "bench" (.ref b) []
def QBD(b:Xb):(uh b).lookup ("bench" : Str)=some (.ref b):=by
 unfold uh;rw[Yr,X9 rfl]
def QBC(b:Xb){m:Str}(h:¬m = "bench"):(uh b).lookup m=none:=by
 unfold uh;rw[Yr,X8 h]
 all_goals rfl
structure Fv (K:Ws) (D:Xb):Prop where
 cl:jn K D
 nB:bN K D "bench"
structure eE (D C:Xb) (H:Hp) (s b l:Xb) (es:List Bo) (k:Bo):Prop where
 dk:∃dx,H s=some (.ins D dx<|uh b)
 bn:bE C H b l es k
def UY(D C:Xb):Sp:=λvs H Q _=>∃(p dx:Xb),vs=[.ref p]/\H p=some (.ins D dx [])/\∀(b l:Xb)(H':Hp),H b=none->H l=none->(∀a o,a≠p->H a=some o->H' a=some o)->eE D C H' p b l [] B0->Q .aH H'
section
variable{P:QB}{w:Jh}{K:Ws}{mg:Str->Option Xd}{base:ZF}
def Qxf(F:aB P w K mg base "are_two_numbers" Pg)(Tg:aC mg){uB:_}(mB:mg "BEYOND_TWO_FIGURES" = some (.int 100 uB)) :
  au P w K mg base ax 1 "are_two_numbers" R0:=by
 refine gs ["words", "known"] 1 F λao A outer s H vs Q E nD hr h=>?_
 obtain⟨p,ws,rfl,hp,hl,q⟩:=h;refine⟨_,QC (eD 1 nD<|Y5 (M:=["number"]) (cap:=[none]) (g:=Yj 0) (tc:=oj) (te:=fZ (λxs H Q=>∃i:Int,xs=[.int i]/\i.natAbs.log2<1920/\Q (.str<|toString i) H)<|ZM (Yu 0) bD) rfl (by rfl) (pO (by rfl) Tg.range<|Ql (Z5 (v:=.int 100) (by rfl) mB ⟨_,rfl⟩) Qu) λcl ex s3 H3 C=>⟨YF (i:=0) QAY rfl (QM rfl)<|QV rfl,kX,Zg ZJ (by rfl) Tg.str mr<|Ql (pv 0) Qu⟩)
  (Q6<|JZ<|IQ (xH rj (Z4 Yp (by rfl) Tg.len kS<|Ql (pv 0) Qu) Je<|JL _)<|IT<|Z4 VN (by rfl) Tg.all RJ<|Ql (Y5 (M:=["word", "known"]) (cap:=[none,some 1]) (g:=Yj 0) (tc:=oj) (te:=cY (yG K false) (Yu 0)<|Yu 1) rfl (by rfl) (AV<|pv 0) λcl ex s3 H3 C=>⟨YF (i:=0) QDU rfl (QM rfl)<|QV rfl,kX,xH QoM (pv 0) (pv 1)<|by rfl⟩) Qu),?_⟩
 refine⟨(100:Int),rfl,by decide,by decide,λkn hkn=>?_⟩;refine mF 100 (ZY<|by decide) (λi=>some<|.str<|Qe<|toString ((i:Nat):Int)) hkn (λi H2 hi s2=>?_) (λH2 s2=>?_) λH2 s2 e3=>?_
 ·refine⟨hi,λx H3 ⟨eH,ev⟩ kn kv h1 h2=>?_⟩;subst eH ev;refine⟨trivial,?_⟩;refine(df (B:=kn H3) ?_:if true=true then _ else kn H3);rw[Ye];exact⟨_,rfl,_,rfl,pN (by omega)<|by omega,h2 _ rfl H3 λ_ _ z=>z⟩
 ·exact Qd _
 ·rw[ny] at e3;have ek:H2 kn=some (.lst<|BA.map V.str):=by rw[e3];unfold BA;rw[QD];rfl
  have ep:=s2 _ _ hp;refine⟨_,rfl,p,_,rfl,.inl<|aA.of ep,rfl,_,rfl,?_⟩;have el:decide (V.int ((ws.map V.str).length:Int)=V.int 2)=decide (ws.length=2):=by
   rw[Qb,Jt,Z',Z'];exact⟨λz=>by have:=V.int.inj z;omega,λz=>by rw[z];rfl⟩
  rw[el];cases e2:decide (ws.length=2) with
  |false=>
   have:=q H2 s2;unfold kP at this;rw[e2] at this;exact dO this
  |true=>
   refine df ⟨_,rfl,p,rfl,⟨_,aA.of ep⟩,λpl hpl=>?_⟩;have at_:∀i,i<ws.length->(ws.map V.str)[i]? = some (.str<|ws.getD i fM):=λi hi=>by
    rw[Qq,Qi,Qc hi];rfl
   have w2:=Y' e2;refine mF ws.length (ZY<|by omega) (λi=>some<|.bl<|rJ<|ws.getD i fM) hpl (λi H3 hi s3=>?_) (λH3 s3=>?_) λH3 s3 e5=>?_
   ·refine⟨⟨_,_,aA.of<|s3 _ _ ep,at_ i hi⟩,λx H4 ⟨eH,ev⟩ N_ kv h1 h2=>?_⟩;subst eH;have ex:=ev _<|aA.of<|s3 _ _ ep;rw[at_ i hi] at ex;cases ex;refine⟨⟨rfl,trivial⟩,?_⟩;refine(df (B:=N_ H4) ?_:if true=true then _ else N_ H4);refine⟨_,rfl,_,rfl,kn,_,rfl,.inl<|aA.of<|s3 _ _ ek,rfl,by rw[Km];exact ZG.mpr λ_ _=>rfl,?_⟩;show kv (V.bl<|tE (V.str<|ws.getD i fM)<|BA.map V.str) H4;rw[Qx5];exact h2 _ rfl H4 λ_ _ z=>z
   ·exact⟨_,aA.of<|s3 _ _ ep,by rw[Qb];exact Qd _⟩
   ·rw[ny] at e5;have e6:H3 pl=some (.lst<|(ws.map rJ).map V.bl):=by
     rw[e5,QD];exact congrArg (λz=>some<|HO.lst z)<|uV (λn=>V.bl<|rJ n) fM ws
    refine⟨pl,_,rfl,aA.of e6,rfl,?_⟩;have:=q H3<|s2.trans s3;unfold kP at this;rw[e2,Be] at this;rw[Km];exact this
def QsZ{D C:Xb}(F:bR P w K mg base D "__init__" "Desk.__init__" QBe)(Td:Fv K D)(GI:pT P w K mg base 1 C "Bench"<|RX C) :
  aL P w K mg base ax 3 D "__init__" (UY D C):=by
 refine wj ["self"] 1 F λao A outer s H vs Q E nD hr h=>?_
 obtain⟨p,dx,rfl,hp,k⟩:=h;refine⟨_,Q6<|Au (pv 0) (IS GI hr) rfl,?_⟩;intro b0 nG qG tj ne0;refine⟨b0,nG,rfl,af,λl0 H1 Cb bU B1=>⟨rfl,?_⟩⟩;have v9:ag H (upd (upd H nG<|.own b0) b0<|.ins C nG []):=λa u e=>by rw[QY<|QN e qG,QY<|QN e tj];exact e
 have sR:ag H H1:=λa u e=>bU a u (QN e qG)<|v9 a u e
 have GP:H l0=none:=by
  cases z:H l0 with
  |none=>rfl
  |some u=>rw[v9 _ _ z] at Cb;cases Cb
 have p1:=sR _ _ hp;refine⟨_,rfl,p,D,dx,[],rfl,p1,Td.cl,Td.nB,by show 0<1000;decide,?_⟩;obtain⟨OJ,va,xa,Cq,wJ,da1,da2⟩:=id B1.at_;have pb:b0≠p:=λz=>by rw[z,hp] at qG;cases qG
 have pl:l0≠p:=YB wJ p1 λz=>nomatch z;have tp:∀a ys,H1 a=some (.tup ys)->(upd H1 p<|.ins D dx<|dF "bench" (.ref b0) []) a=some (.tup ys):=λa ys e=>by rw[QY<|YB e p1 λz=>nomatch z];exact e
 exact k b0 l0 _ qG GP (λa o h e=>by rw[QY h];exact sR _ _ e) ⟨⟨dx,af⟩,⟨OJ,va,xa,by rw[QY pb];exact Cq,by rw[QY pl];exact wJ,pe tp da1,uU tp da2⟩⟩
def ji:List Str:=["row", "column", "turn", "rest", "undo", "board", "counts", "most", "stand", "pieces"]
def nZ:List Str:=["put", "take"]
def eA(l:List Str)(z:Str):Option Nat:=l.findIdx? λu=>decide (u=z)
def qX(ws:List Str)(as:List Xb):List (Key×Xd):=(ws.zip as).map λp=>(JM p.1,JT p.2)
def AK(z:Str):∀(ws:List Str)(as:List Xb),ws.length=as.length->valueAt (qX ws as) (JM z:Key)=((eA ws z).bind λi=>as[i]?).map JT
 |[],[],_=>rfl
 |u::ws,a::as,h=>by
  have ih:=AK z ws as (by simpa using h);unfold eA at ih ⊢;rw[List.findIdx?_cons];by_cases e:u=z
  ·rw[X_ e];show(Iu (λkv=>decide (kv.1=JM z)) ((JM u,JT a)::qX ws as)).map _=_;rw[My<|by simp[e]];rfl
  ·rw[X' e];show(Iu (λkv=>decide (kv.1=JM z)) ((JM u,JT a)::qX ws as)).map _=_;rw[Mx<|by simp[e]];have ih:(Iu (λkv=>decide (kv.1=JM z))<|qX ws as).map (λx=>x.2)=_:=ih;rw[ih];cases ws.findIdx? (λu=>decide (u=z)) with
   |none=>rfl
   |some i=>rfl
inductive Rw where
 |alone (i:Nat) | place (j:Nat) (n m:Int)
def iI(z:Str):Int:=(PySem.intText? z).getD 0
def q_:List Str->Option Rw
 |[]=>none
 |z::ns=>match eA ji z,ns with
  |some i,[]=>some<|.alone i
  |_,ns=>match eA nZ z with
   |some j=>if kP ns=true then some (.place j (iI<|ns.getD 0 fM)<|iI<|ns.getD 1 fM) else none
   |none=>none
def kf:Xc->Option Rw
 |.str t=>q_<|YE t<|Qe " "
 |_=>none
def lu(C:Xb)(xc:Str->Xb):List Sp:=[n_ C xc .row,n_ C xc .col,n_ C xc .turn,n_ C xc .rest,n_ C xc .bz,og C wQ,og C uA,og C w9,og C qW,og C Fj]
def ls(C:Xb)(xc:Str->Xb):List Sp:=[Dh C xc .put,Dh C xc .take]
def QCm(C:Xb)(xc:Str->Xb)(b:Xb)(r:Option Rw)(H:Hp)(Q:VK)(E:XK):Prop:=match r with
 |none=>∀H',ag H H'->E (.ref<|xc "row") none H'
 |some (.alone i)=>∀H' sp,ag H H'->(lu C xc)[i]? = some sp->sp [.ref b] H' Q E
 |some (.place j n m)=>∀H' sp,ag H H'->(ls C xc)[j]? = some sp->sp [.ref b,.int n,.int m] H' Q E
def Pq(D C:Xb)(xc:Str->Xb):Sp:=λvs H Q E=>∃(s b:Xb)(x:V)(d:Xc),vs=[.ref s,x]/\(∃dx,H s=some (.ins D dx<|uh b))/\DA N0 H x d/\(∀t,d=.str t->t.length<=3000)/\QCm C xc b (kf d) H Q E
def QFS(x:V)(xs:List V):jI (x::xs) (some 1) none=xs:=by
 unfold jI HT.aT;simp
def IH{l:List Str}{z:Str}{i:Nat}(h:eA l z=some i):i<l.length:=by
 unfold eA at h;exact(List.findIdx?_eq_some_iff_getElem.mp h).1
def IZ{ws:List Str}{as:List Xb}(hl:ws.length=as.length){z:Str}{i:Nat}(h:eA ws z=some i):∃g,as[i]? = some g/\valueAt (qX ws as) (JM z:Key)=some (.ref g):=by
 have hi:=IH h;have e:as[i]? = some as[i]:=Qc (by omega);refine⟨_,e,?_⟩;rw[AK z ws as hl,h];show(as[i]?).map JT=_;rw[e];rfl
def Sa{ws:List Str}{as:List Xb}(hl:ws.length=as.length){z:Str}(h:eA ws z=none):valueAt (qX ws as) (JM z:Key)=none:=by
 rw[AK z ws as hl,h];rfl
def SY{z:Str}(h:rJ z=true):∃n:Nat,n<100/\PySem.intText? z=some (n:Int)/\z.length<=34:=by
 have h:=Y' h;unfold BA at h;obtain⟨n,hn,rfl⟩:=Qh.mp h;have hn:=Jl.mp hn;exact⟨n,hn,PySem.W.KIN.num_reads (by omega)<|by omega,oi (by omega)<|by omega⟩
def QxT{α:Type}{l:List α}(h:l.length=2):∃a b,l=[a,b]:=by
 obtain _ | ⟨a,_ | ⟨b,_ | _⟩⟩:=l<;>first | exact⟨_,_,rfl⟩ | cases h
def QAL{D C dA dW:Xb}{xc:Str->Xb}{as ps:List Xb}{tB:Tok}(F:bR P w K mg base D "say" "Desk.say" y7)(Tg:aC mg)(Td:Fv K D)
  (yU:mg "BLANK" = some (.str " " tB))(mA:mg "ALONE" = some (.ref dA))(mW:mg "WITH_PLACE" = some (.ref dW))(bA:BD P w K dA<|qX ji as)(bW:BD P w K dW<|qX nZ ps)(lA:as.length=10)(lW:ps.length=2)
  (hA:∀(i:Nat) g sp,as[i]? = some g->(lu C xc)[i]? = some sp->∃k gd qs,k<=8/\aO P w K mg base (Rx.aY P w) k g gd qs sp/\Wu K (.ref g)=true/\Binds K gd qs [])
  (hW:∀(i:Nat) g sp,ps[i]? = some g->(ls C xc)[i]? = some sp->∃k gd qs,k<=8/\aO P w K mg base (Rx.aY P w) k g gd qs sp/\Wu K (.ref g)=true/\Binds K gd qs [])
  (c2:au P w K mg base ax 1 "are_two_numbers" R0)
  (mC:mg "NoRow" = some (.ref<|xc "row"))(qC:Ww K (xc "row") Rx.cu "ValueError.__new__" = true) :
  aL P w K mg base (Rx.aY P w) 9 D "say" (Pq D C xc):=by
 refine qY ["self", "row", "words", "word", "numbers", "answer", "deed"] 2 F λao A outer s H vs Q E nD hr h=>?_
 obtain⟨sd,b,x,d,rfl,⟨dx,es⟩,hx,ht,st⟩:=h;refine⟨_,QC (gj (QT.h (E:=E0)<|kU<|kW<|Jf<|uN .str (by rfl) Tg.isinstance (qp 1) (by rfl) Tg.str mr) (Q6<|Rx.A7 (C:=xc "row") (E:=E) (λ_ _ h=>h) rfl rfl rfl rfl (by rfl) mC qC Zf) Yh)
  (QC (eD 2 nD<|gZ WA PySem.F.slot_str_split PySem.F.type_str_split Qti (pv 1)<|Ql (Z5 (v:=.str " ") (by rfl) yU ⟨_,rfl⟩) Qu)
  (QC (eD 3 nD<|Z8 Za (pv 2) Je λ_ _=>rfl)
  (QC (eD 4 nD<|Wq V6 (pv 2) (Uq Je) Up)
  (QC (gj (PW.pt<|Aw (Yw Sq (pv 3) (Z5 (v:=.ref dA) (by rfl) mA rfl)<|by rfl)<|AX<|xx<|DZ (pv 4) λ_=>rfl) (QC (eD 5 nD<|Uk (Z5 (v:=.ref dA) (by rfl) mA rfl) (pv 3) λ_ _=>rfl)<|Q6<|JZ<|Wo (M:=λg sp=>∃i:Nat,as[i]? = some g/\(lu C xc)[i]? = some sp) (i:=5) ?hA (pv 5) (Rx.jf (E:=E) (λ_ _ h=>h) rfl rfl rfl)<|Ql (iq (pv 0) rfl) Qu) Yh)
  (QC (gj (PW.pt<|Aw (Yw Sq (pv 3) (Z5 (v:=.ref dW) (by rfl) mW rfl)<|by rfl)<|AX<|Dd<|Zr c2 hr<|Ql (pv 4) Qu) (QC (eD 6 nD<|Uk (Z5 (v:=.ref dW) (by rfl) mW rfl) (pv 3) λ_ _=>rfl)<|Q6<|JZ<|Wo (M:=λg sp=>∃i:Nat,ps[i]? = some g/\(ls C xc)[i]? = some sp) (i:=6) ?hW (pv 6) (Rx.jf (E:=E) (λ_ _ h=>h) rfl rfl rfl)<|Ql (iq (pv 0) rfl)<|Ql (Zg QeM (by rfl) Tg.int rN<|Ql (Z8 Za (pv 4) Je λ_ _=>rfl) Qu)<|Ql (Zg QeM (by rfl) Tg.int rN<|Ql (Z8 Za (pv 4) Je λ_ _=>rfl) Qu) Qu) Yh)
  (Q6<|Rx.A7 (C:=xc "row") (E:=E) (λ_ _ h=>h) rfl rfl rfl rfl (by rfl) mC qC Zf)))))),?rd⟩
 case hA=>
  rintro g sp ⟨i,h1,h2⟩;obtain⟨k,gd,qs,hk,G,kp,bd⟩:=hA i g sp h1 h2;exact⟨k,gd,qs,G,hr.mono<|by omega,kp,bd⟩
 case hW=>
  rintro g sp ⟨i,h1,h2⟩;obtain⟨k,gd,qs,hk,G,kp,bd⟩:=hW i g sp h1 h2;exact⟨k,gd,qs,G,hr.mono<|by omega,kp,bd⟩
 case rd=>
  refine Gu [.no,.v d,.no,.no,.no,.no,.no] (.cons Ju<|.cons ⟨_,rfl,hx⟩<|.cons Ju<|.cons Ju<|.cons Ju<|.cons Ju<|.cons Ju .nil) ?_
  have no:∀H1,ag H H1->kf d=none->E (.ref<|xc "row") none H1:=λH1 s1 e=>by rw[e] at st;exact st H1 s1
  cases d with
  |str t=>
   refine λH1 s1=>?_
   show if(false:Bool)=true then _ else _
   refine dO ?_
   have xt:x=.str t:=by cases hx;rfl
   subst xt;have ht:=ht t rfl;refine⟨_,rfl,rfl,t,Qe " ",rfl,rfl,rfl,by omega,λlw H2 s2 n2 a2=>?_⟩;obtain⟨z,ns,ew⟩:=V' t<|Qe " ";have sl:=L2.split_le t<|Qe " ";have er:kf (.str t)=q_ (z::ns):=by show q_ (YE t<|Qe " ")=_;rw[ew]
   rw[er] at st no;rw[ew] at a2 sl;have nl:ns.length<=3002:=by rw[Qz] at sl;omega
   refine⟨_,rfl,lw,_,_,.str z,rfl,rfl,aA.of a2,QX (j:=0) rfl,?_⟩;refine⟨_,rfl,_,rfl,lw,_,rfl,aA.of a2,λln H3 s3 n3 a3=>?_⟩;have a3:H3 ln=some (.lst<|ns.map V.str):=by rw[a3];exact congrArg (λq=>some<|HO.lst q)<|QFS (.str z)<|ns.map V.str
   have B9:=(s1.trans s2).trans s3;have ed:∀{H'},ag H3 H'->H' sd=some (.ins D dx<|uh b):=λs'=>s' _ _<|B9 _ _ es
   have vA:=AK z ji as (by rw[lA];rfl);have vW:=AK z nZ ps (by rw[lW];rfl);refine⟨_,rfl,z,dA,_,rfl,rfl,bA,_,rfl,?_⟩;by_cases pq:∃i,eA ji z=some i/\ns=[]
   ·obtain⟨i,hi,rfl⟩:=pq;obtain⟨g,hg,vg⟩:=IZ (as:=as) (by rw[lA];rfl) hi;rw[vg];refine df ⟨_,rfl,false,.inl ⟨_,aA.of a3,rfl⟩,df ?_⟩;have wD:=IH hi;obtain⟨sp,ba⟩:∃sp,(lu C xc)[i]? = some sp:=⟨_,Qc<|show i<(lu C xc).length from wD⟩
    have e:q_ [z]=some (.alone i):=by show(match eA ji z,([]:List Str) with | some i,[]=>some (Rw.alone i) | _,ns=>_)=_;rw[hi]
    rw[e] at st;exact⟨_,rfl,dA,z,_,g,rfl,rfl,bA,vg,g,sp,rfl,⟨i,hg,ba⟩,_,rfl,sd,D,dx,_,_,rfl,ed λ_ _ q=>q,Td.cl,Td.nB,QBD b,st H3 sp B9 ba⟩
   ·have zP:q_ (z::ns)=match eA nZ z with | some j=>if kP ns=true then some (.place j (iI<|ns.getD 0 fM)<|iI<|ns.getD 1 fM) else none | none=>none:=by
     cases ns with
     |nil=>
      cases hi:eA ji z with
      |none=>show(match eA ji z,([]:List Str) with | some i,[]=>some (Rw.alone i) | _,ns=>_)=_;rw[hi]
      |some i=>exact Z_ ⟨i,hi,rfl⟩ pq
     |cons n ns=>
      cases hi:eA ji z with
      |none=>show(match eA ji z,n::ns with | some i,[]=>some (Rw.alone i) | _,ns=>_)=_;rw[hi]
      |some i=>show(match eA ji z,n::ns with | some i,[]=>some (Rw.alone i) | _,ns=>_)=_;rw[hi]
    rw[zP] at st no;clear vA vW er zP;cases hi:eA ji z
    case' none=>
     rw[Sa (by rw[lA];rfl) hi];refine dO ?_
     show if(false:Bool)=true then _ else _
     refine dO ?_
    case' some i=>
     obtain⟨g,hg,vg⟩:=IZ (as:=as) (by rw[lA];rfl) hi;rw[vg];have ne:(ns.map V.str).isEmpty=false:=by
      cases ns with
      |nil=>exact Z_ ⟨i,hi,rfl⟩ pq
      |cons _ _=>rfl
     refine df ⟨_,rfl,true,.inl ⟨_,aA.of a3,by rw[ne];rfl⟩,?_⟩;show if(false:Bool)=true then _ else _
     refine dO ?_
    all_goals
     refine⟨_,rfl,z,dW,_,rfl,rfl,bW,_,rfl,?_⟩;cases hj:eA nZ z with
     |none=>
      rw[Sa (by rw[lW];rfl) hj];rw[hj] at st;exact dO<|dO<|st H3 B9
     |some j=>
      obtain⟨g,hg,vg⟩:=IZ (as:=ps) (by rw[lW];rfl) hj;rw[vg];rw[hj] at st;refine df ⟨_,rfl,ln,ns,rfl,a3,by omega,λH4 s4=>⟨kP ns,rfl,?_⟩⟩;have NT:=B9.trans s4;cases oJ:kP ns with
      |false=>
       rw[oJ] at st;exact dO<|st H4 NT
      |true=>
       rw[oJ] at st;refine df ?_
       have wC:=IH hj;obtain⟨sp,ba⟩:∃sp,(ls C xc)[j]? = some sp:=⟨_,Qc<|show j<(ls C xc).length from wC⟩
       unfold kP at oJ;have oJ:=QH.mp oJ;have l2:=Y' oJ.1;obtain⟨u1,u2,rfl⟩:=QxT l2;have lM:=oJ.2;have h1:rJ u1=true/\rJ u2=true:=by simpa using lM
       obtain⟨n1,_,i1,k1⟩:=SY h1.1;obtain⟨n2,_,i2,k2⟩:=SY h1.2;have st:=st H4 sp NT ba;have e1:iI (([u1,u2]:List Str).getD 0 fM)=n1:=by show(PySem.intText? u1).getD 0=_;rw[i1];rfl
       have e2:iI (([u1,u2]:List Str).getD 1 fM)=n2:=by show(PySem.intText? u2).getD 0=_;rw[i2];rfl
       rw[e1,e2] at st;exact⟨_,rfl,dW,z,_,g,rfl,rfl,bW,vg,g,sp,rfl,⟨j,hg,ba⟩,_,rfl,sd,D,dx,_,_,rfl,ed s4,Td.cl,Td.nB,QBD b,_,rfl,ln,_,_,.str u1,rfl,rfl,aA.of<|s4 _ _ a3,QX (j:=0) rfl,u1,n1,rfl,i1,by omega,_,rfl,ln,_,_,.str u2,rfl,rfl,aA.of<|s4 _ _ a3,QX (j:=1) rfl,u2,n2,rfl,i2,by omega,st⟩
  |_=>exact λH1 s1=>no H1 s1 rfl
abbrev Rj:Zo:=top 94
def rO:Rw->Option a9
 |.alone 0=>some .row
 |.alone 1=>some .col
 |.alone 2=>some .turn
 |.alone 3=>some .rest
 |.alone 4=>some .bz
 |.place 0 n m=>some<|.put (.int n)<|.int m
 |.place 1 n m=>some<|.take (.int n)<|.int m
 |_=>none
def Ay:Rw->Option (Bo->Str->Prop)
 |.alone 5=>some wQ
 |.alone 6=>some uA
 |.alone 7=>some w9
 |.alone 8=>some qW
 |.alone 9=>some Fj
 |_=>none
def Res(t:Xb)(a b:Str)(H:Hp):Prop:=H t=some (.tup [.str a,.str b])
structure QCn (D C:Xb) (d:Xc) (H:Hp) (Q:VK) (s b l:Xb) (es:List Bo) (k:Bo):Prop where
 no:kf d=none->∀t H',ag H H'->Res t "refused" "row" H'->Q (.ref t) H'
 due:∀r dd wd,kf d=some r->rO r=some dd->ez dd es k=some wd->∀t H',ag H H'->Res t "refused" wd H'->Q (.ref t) H'
 ok:∀r dd,kf d=some r->rO r=some dd->ez dd es k=none->∀t H',K2 b l H H'->bE C H' b l (mj dd es k).1 (mj dd es k).2->Res t "told" "ok" H'->Q (.ref t) H'
 tell:∀r R u,kf d=some r->Ay r=some R->R k u->∀t H',ag H H'->Res t "told" u H'->Q (.ref t) H'
def Ka(D C:Xb):Sp:=λvs H Q _=>∃(s b l:Xb)(es:List Bo)(k:Bo)(x:V)(d:Xc),vs=[.ref s,x]/\eE D C H s b l es k/\k.ok/\es.length<=900/\DA N0 H x d/\(∀t,d=.str t->t.length<=3000)/\QCn D C d H Q s b l es k
def UK{dd:a9}{es:List Bo}{k:Bo}{wd:Str}(h:ez dd es k=some wd):wd = "place" ∨ wd = "double" ∨ wd = "cell" ∨ wd = "many" ∨ wd = "deed" := Qyj h
def Qxm{D C:Xb}{xc:Str->Xb}(F:aB P w K mg base "_law_said" Rj)(Td:Fv K D)(DS:aL P w K mg base (Rx.aY P w) 9 D "say"<|Pq D C xc)
  {fK R:Xb} {cs:List Xb} {OC:Z3} (mK:mg "_law_kind_of" = some (.ref fK)) (GK:Rx.BJ P w K mg base 1 fK OC ["_law_e"]<|xA K cs) (bK:Binds K OC ["_law_e"] []) (kK:Wu K (.ref fK)=true) (mR:mg "RookError" = some (.ref R)) (ok_:∀wd:Str,wd = "row" ∨ wd = "place" ∨ wd = "double" ∨ wd = "cell" ∨ wd = "many" ∨ wd = "deed" -> ot K cs R (xc wd) wd) :
  au P w K mg base ax 10 "_law_said" (Ka D C):=by
 obtain⟨gS,gdS,psS,nS,DS,cS⟩:=DS.ex;refine gs ["_law_desk", "_law_row", "_law_e"] 2 F λao A outer s H vs Q E nD hr h=>?_
 obtain⟨sd,b,l,es,k,x,d,rfl,⟨⟨dx,ed⟩,B⟩,o,hl,hx,ht,S⟩:=h;refine⟨_,Q6<|Rx.Qwy (i:=2) rfl rfl (Rx.Qr9<|Rx.Qwx<|Rx.Qsf Zf<|Rx.Qsg (pv 0) Td.cl nS DS (hr.mono<|by decide) cS rfl<|Ql (pv 1) Qu)
  nD rfl rfl (by rfl) mR (λe=>YY<|Y6 Zf<|Y6 (Rx.Qsn GK (Rx.az.m (hr.mono<|by decide) e) (by rfl) mK kK bK<|Ql (pv 2) Qu) Qu),?_⟩
 have h3:(2:Nat)<3:=by decide
 have ref:∀(wd:Str) H1,ag H H1->(wd = "row" ∨ wd = "place" ∨ wd = "double" ∨ wd = "cell" ∨ wd = "many" ∨ wd = "deed")->(∀t H',ag H H'->Res t "refused" wd H'->Q (.ref t) H') ->
   ∃D',JT (xc wd)=.ref D'/\(Rx.yp K D' R/\∀a,H1 a=none->(ZM (Yu 2) bD) ((start ["_law_desk", "_law_row", "_law_e"] [.ref sd,x]).set 2<|some<|.ref a) (upd H1 a<|Rx.qQ a D') λvs H2=>xA K cs vs H2 (λv H3=>(2<=1000/\∀t H',ag H3 H'->H3 t=none->H' t=some (.tup [.str "refused",v])->Q (.ref t) H')) E0):=λwd H1 s1 hw kq=>
  ⟨_,rfl,handled (Q:=λv H3=>(2<=1000/\∀t H',ag H3 H'->H3 t=none->H' t=some (.tup [.str "refused",v])->Q (.ref t) H')) (ok_ wd hw) h3 λH2 s2=>⟨by decide,λt H' s' _ e=>kq t H' ((s1.trans s2).trans s') e⟩⟩
 refine⟨_,rfl,sd,dx,_,rfl,ed,QBC _<|by decide,_,rfl,sd,b,x,d,rfl,⟨dx,ed⟩,hx,ht,?_⟩;unfold QCm;cases oK:kf d with
 |none=>exact λH' s'=>ref "row" H' s' (.inl rfl) λt sD sS r=>S.no oK t sD sS r
 |some rw=>
  have cA:∀dd,rO rw=some dd->∀H1,ag H H1->HM C xc H1 (λy H2=>∀t H',ag H2 H'->H2 t=none->H' t=some (.tup [.str "told",y])->Q (.ref t) H') (λcv _ H3=>∃D',cv=.ref D'/\(Rx.yp K D' R/\∀a,H3 a=none->(ZM (Yu 2) bD) ((start ["_law_desk", "_law_row", "_law_e"] [.ref sd,x]).set 2<|some<|.ref a) (upd H3 a<|Rx.qQ a D') λvs H2=>xA K cs vs H2 (λv H3=>(2<=1000/\∀t H',ag H3 H'->H3 t=none->H' t=some (.tup [.str "refused",v])->Q (.ref t) H')) E0)) b l es k dd:=λdd hd H1 s1=>
   ⟨λwd hw H2 s2=>ref wd H2 (s1.trans s2) (.inr<|UK hw) λt sD sS r=>S.due rw dd wd oK hd hw t sD sS r,
    λhn H2 k2 B2 t H3 s3 _ e=>S.ok rw dd oK hd hn t H3 ((K2.of s1).trans<|k2.trans<|K2.of s3) (B2.same s3) e⟩
  have tell:∀R',Ay rw=some R'->∀H1,ag H H1->∀u H2,R' k u->ag H1 H2->∀t H3,ag H2 H3->H2 t=none->H3 t=some (.tup [.str "told",.str u])->Q (.ref t) H3:=λR' hR H1 s1 u H2 hu s2 t H3 s3 _ e=>S.tell rw R' u oK hR hu t H3 ((s1.trans s2).trans s3) e
  cases rw with
  |alone i=>
   intro H1 sp s1 ba;have Bn:=B.same s1
   match i,ba,cA,tell with
   |0,ba,cA,_=>cases ba;exact⟨b,l,es,k,rfl,Bn,o,by omega,cA _ rfl H1 s1⟩
   |1,ba,cA,_=>cases ba;exact⟨b,l,es,k,rfl,Bn,o,by omega,cA _ rfl H1 s1⟩
   |2,ba,cA,_=>cases ba;exact⟨b,l,es,k,rfl,Bn,o,by omega,cA _ rfl H1 s1⟩
   |3,ba,cA,_=>cases ba;exact⟨b,l,es,k,rfl,Bn,o,by omega,cA _ rfl H1 s1⟩
   |4,ba,cA,_=>cases ba;exact⟨b,l,es,k,rfl,Bn,o,by omega,cA _ rfl H1 s1⟩
   |5,ba,_,tell=>cases ba;exact⟨b,l,es,k,rfl,Bn,o,λu H2 hu s2=>tell _ rfl H1 s1 u H2 hu s2⟩
   |6,ba,_,tell=>cases ba;exact⟨b,l,es,k,rfl,Bn,o,λu H2 hu s2=>tell _ rfl H1 s1 u H2 hu s2⟩
   |7,ba,_,tell=>cases ba;exact⟨b,l,es,k,rfl,Bn,o,λu H2 hu s2=>tell _ rfl H1 s1 u H2 hu s2⟩
   |8,ba,_,tell=>cases ba;exact⟨b,l,es,k,rfl,Bn,o,λu H2 hu s2=>tell _ rfl H1 s1 u H2 hu s2⟩
   |9,ba,_,tell=>cases ba;exact⟨b,l,es,k,rfl,Bn,o,λu H2 hu s2=>tell _ rfl H1 s1 u H2 hu s2⟩
   |i+10,ba,_,_=>cases ba
  |place j n m=>
   intro H1 sp s1 ba;have Bn:=B.same s1
   match j,ba,cA with
   |0,ba,cA=>cases ba;exact⟨b,l,es,k,_,_,.int n,.int m,rfl,Bn,o,by omega,.int _,.int _,cA _ rfl H1 s1⟩
   |1,ba,cA=>cases ba;exact⟨b,l,es,k,_,_,.int n,.int m,rfl,Bn,o,by omega,.int _,.int _,cA _ rfl H1 s1⟩
   |j+2,ba,_=>cases ba
abbrev TY:Zo:=top 92
abbrev Rl:Zo:=top 95
def pd(wd:Str)(ns:List Int):Str:=jR (Qe " ") (wd::ns.map λn=>Qe<|toString n)
def UZ:Sp:=λvs H Q _=>∃(wd:Str)(t:Xb)(ns:List Int),vs=[.str wd,.ref t]/\H t=some (.lst<|ns.map V.int)/\(∀n∈ns,0<=n/\n<100)/\ns.length<=2/\wd.length<=10/\∀H',ag H H'->Q (.str<|pd wd ns) H'
def QDW:(["_law_number"]:List Str).Nodup:=by decide
def QsL(F:aB P w K mg base "_law_row_of" TY)(Tg:aC mg) :
  au P w K mg base ax 1 "_law_row_of" UZ:=by
 refine gs ["_law_word", "_law_told"] 2 F λao A outer s H vs Q E nD hr h=>?_
 obtain⟨wd,t,ns,rfl,ht,nb,nl,wl,q⟩:=h;refine⟨_,Q6<|JZ<|gZ WA WD WE pJ Zf<|Ql (YR xF (Yi<|Y6 (pv 0) Qu)<|Y5 (M:=["_law_number"]) (cap:=[none]) (g:=Yj 0) (tc:=oj) (te:=fZ (λxs H Q=>∃i:Int,xs=[.int i]/\i.natAbs.log2<1920/\Q (.str<|toString i) H)<|ZM (Yu 0) bD) rfl (by rfl) (AV<|pv 1) λcl ex s3 H3 C=>⟨YF (i:=0) QDW rfl (QM rfl)<|QV rfl,kX,Zg ZJ (by rfl) Tg.str mr<|Ql (pv 0) Qu⟩) Qu,?_⟩;refine⟨rfl,_,rfl,by show 1<=1000;decide,λl1 H1 s1 n1 a1=>?_⟩;have e0:=s1 _ _ ht;refine⟨_,rfl,t,rfl,⟨_,aA.of e0⟩,λpl hpl=>?_⟩;have at_:∀i,i<ns.length->(ns.map V.int)[i]? = some (.int<|ns.getD i 0):=λi hi=>by
  rw[Qq,Qi,Qc hi];rfl
 have gm:∀i,i<ns.length->ns.getD i 0∈ns:=λi hi=>by
  rw[Qi,Qc hi];exact JQ _
 refine mF ns.length (ZY<|by omega) (λi=>some<|.str<|Qe<|toString<|ns.getD i 0) hpl (λi H2 hi s2=>?_) (λH2 s2=>?_) λH2 s2 e3=>?_
 ·refine⟨⟨_,_,aA.of<|s2 _ _ e0,at_ i hi⟩,λx H3 ⟨eH,ev⟩ kn kv h1 h2=>?_⟩;subst eH;have ex:=ev _<|aA.of<|s2 _ _ e0;rw[at_ i hi] at ex;cases ex;refine⟨trivial,?_⟩;refine(df (B:=kn H3) ?_:if true=true then _ else kn H3);have Gf:=nb _<|gm i hi;exact⟨_,rfl,_,rfl,pN Gf.1<|by omega,h2 _ rfl H3 λ_ _ z=>z⟩
 ·exact⟨_,aA.of<|s2 _ _ e0,by rw[Qb];exact Qd _⟩
 ·rw[ny] at e3;have e4:H2 pl=some (.lst<|(ns.map λn=>Qe<|toString n).map V.str):=by
   rw[e3,QD];exact congrArg (λz=>some<|HO.lst z)<|uV (λn=>V.str<|Qe<|toString n) 0 ns
  refine⟨l1,pl,_,_,rfl,rfl,s2 _ _ a1,e4,by rw[Qb,Qb];show 1+_<=1000;omega,λl3 H5 s5 n5 e5=>?_⟩;have e6:H5 l3=some (.lst<|(wd::ns.map λn=>Qe<|toString n).map V.str):=e5;refine⟨_,l3,_,rfl,rfl,aA.of e6,vc (B:=34) (λy hy=>?_) ?_,q H5<|(s1.trans s2).trans s5⟩
  ·rcases Qt.mp hy with z | z
   ·rw[z];omega
   ·obtain⟨n,hn,rfl⟩:=Qh.mp z;have Gf:=nb n hn;exact oi Gf.1 (by omega)
  ·rw[Qz,Qb];show _*34+_*1<=_;omega
end
def Kc:Sp:=λvs H Q _=>∃(v:V)(k:Bo),vs=[v]/\DA N0 H v k.d/\k.ok/\∀H',ag H H'->Q (.str<|nR k.h k.w<|ae k.h k.w k.f) H'
def QxJ:(["_law_column", "_law_board", "_law_row"]:List Str).Nodup:=by decide
def QFP:(Qe ".#").cps.toList=[46,35]:=by decide
section
variable{P:QB}{w:Jh}{K:Ws}{mg:Str->Option Xd}{base:ZF}
def QsR(F:aB P w K mg base "_law_text" Rl)(Tg:aC mg) :
  au P w K mg base ax 1 "_law_text" Kc:=by
 refine gs ["_law_board", "_law_lines", "_law_row"] 1 F λao A outer s H vs Q E nD hr h=>?_
 obtain⟨v,k,rfl,hv,o,q⟩:=h;refine⟨_,QC (eD 1 nD<|Yi Qu)
  (QC (rR Jj rfl (pO (by rfl) Tg.range<|Ql (Z8 nV (pv 0) Je λ_ _=>rfl) Qu) (gh 2 nD)
   (Q6<|ZB<|gZ Wz WU WV Bj (pv 1)<|Ql (gZ WA WD WE pJ Zf<|Ql (Y5 (M:=["_law_column", "_law_board", "_law_row"]) (cap:=[none,some 0,some 2]) (g:=Yj 0) (tc:=oj) (te:=(cY QEP (tC<|.str<|Qe ".#")<|fZ Ig<|ZM (tX .F K E0<|eX (inD false) (wV<|fV (kI 2)<|fV (kI 0) md)<|eX za (f_ 1)<|dC<|.int 2) bD)) rfl (by rfl) (pO (by rfl) Tg.range<|Ql (Z8 nV (pv 0) Je λ_ _=>rfl) Qu) λcl ex s3 H3 C=>⟨YF (i:=0) QxJ rfl (QM rfl)<|QV rfl,kX,Z8 QBf Zf (Zg D2 (by rfl) Tg.int rN<|Ql (QE.h (E:=E0)<|Ag uY (jM<|az.tK hr) (Jf<|Ys<|Zv (qv 2)<|Zv (qv 0) Q8) (QU<|YX Jm J6 (qp 1) (QU Jg) λ_ _=>rfl)<|by rfl) Qu) λ_ _=>rfl⟩) Qu) Qu))
  (Q6<|JZ<|gZ WA WD WE pJ Zf<|Ql (pv 1) Qu)),?_⟩
 obtain⟨a,c,ps,rfl,e1,e2,dc⟩:=uI hv;have h6:=o.h6;have w6:=o.w6;refine⟨by show 0<=1000;decide,λtl H1 s1 n1 a1=>?_⟩;refine⟨_,rfl,a,_,0,.int k.h,rfl,rfl,aM.of<|s1 _ _ e1,rfl,(k.h:Int),rfl,by omega,by omega,?_⟩;rw[Qx];refine Eo (λi σ H'=>∃x2,σ=[some<|.ref a,some<|.ref tl,x2]/\ag H H'/\H' tl=some (.lst<|(Qv i).map λr=>V.str<|q0 (ae k.h k.w k.f) k.w r)) ⟨_,rfl,s1,a1⟩ ?_ ?_
 ·rintro i σ H' hi ⟨x2,rfl,sH,et⟩;rw[Ye];have ze:=DA.same hv sH;refine⟨_,rfl,.inl ⟨rfl,_,aA.of et⟩,rfl,_,rfl,a,_,1,.int k.w,rfl,rfl,aM.of<|sH _ _ e1,rfl,(k.w:Int),rfl,by omega,by omega,λpl hpl=>?_⟩;rw[Qx];refine mF k.w (ZY<|by omega) (λj=>some<|.str<|kR (ae k.h k.w k.f) i j) hpl (λj H2 hj s2=>?_) (λH2 s2=>?_) λH2 s2 e3=>?_
  ·refine⟨?_,λv H3 ⟨eH,ev⟩ kn kv h1 h2=>?_⟩
   ·show j<_;omega
   subst eH ev;refine⟨⟨rfl,rfl,trivial⟩,?_⟩;refine(df (B:=kn H3) ?_:if true=true then _ else kn H3);rw[Ye];refine zb [.v<|.int j,.v k.d,.v<|.int i] (.cons ⟨_,rfl,.int _⟩<|.cons ⟨_,rfl,DA.same ze s2⟩<|.cons ⟨_,rfl,.int _⟩ .nil) ?_
   refine⟨_,QX (j:=2) rfl,⟨ZP _,rfl,by have:=Z1 ((i:Int),(j:Int));exact QK (Y1 this)<|by decide⟩,λv H4 s4 dv=>?_⟩;have dv:DA N0 H4 v (.bool<|((ae k.h k.w k.f).map pairD).any λe=>Qy e<|pairD ((i:Int),(j:Int))):=dv;rw[Y2] at dv;cases dv;have jB:=h2 _ rfl H4 s4;unfold kR at jB;refine .inr ⟨_,rfl,Qe ".#",_,(if((i:Int),(j:Int))∈ae k.h k.w k.f then 35 else 46:Nat),rfl,rfl,by decide,?_,?_⟩
   ·rw[QFP];by_cases hm:((i:Int),(j:Int))∈ae k.h k.w k.f
    ·rw[X_ hm,X9 hm];exact QX (j:=1) rfl
    ·rw[X' hm,X8 hm];exact QX (j:=0) rfl
   ·by_cases hm:((i:Int),(j:Int))∈ae k.h k.w k.f
    ·rw[X9 hm] at jB ⊢;exact jB
    ·rw[X8 hm] at jB ⊢;exact jB
  ·show _<=_;omega
  ·rw[ny] at e3;have e4:H2 pl=some (.lst<|((Qv k.w).map<|kR (ae k.h k.w k.f) i).map V.str):=by rw[e3,QD];rfl
   have et2:=s2 _ _ et;refine⟨_,pl,_,rfl,rfl,aA.of e4,by rw[show(Qe "" : Str)=fM from CZ];exact Qfr _ w6 i,tl,_,_,rfl,rfl,et2,Eg (by rw[Qb,Q5];omega),?_⟩;refine⟨_,rfl,λx u e=>?_,?_⟩
   ·have nx:x≠tl:=QN e n1;rw[QY nx];exact s2 _ _<|sH _ _ e
   ·rw[af,yh,Q3];rw[show(Qe "" : Str)=fM from CZ];rfl
 ·rintro σ H' ⟨x2,rfl,sH,et⟩;have et:H' tl=some (.lst<|(nX k.h k.w<|ae k.h k.w k.f).map V.str):=by rw[et];unfold nX;rw[QD];rfl
  refine⟨rfl,_,rfl,_,tl,_,rfl,rfl,aA.of et,?_,?_⟩
  ·rw[show(Qe "/" : Str)=qT from Pu];exact Qd6 _ h6 w6
  ·rw[show(Qe "/" : Str)=qT from Pu];exact q H' sH
abbrev Rh:Zo:=top 86
structure QCq (p t l:Xb) (wd:Str) (ns:List Int) (H H':Hp):Prop where
 gd:oQ wd ns
 nl:ns.length<=2
 nb:∀n∈ns,0<=n/\n<100
 k1:K1 p H H'
 hp:∃m:Int,H' p=some (.lst [.int m])
 ht:H' t=some (.tup [.str wd,.ref l])
 hl:H' l=some (.lst<|ns.map V.int)
 lp:l≠p
 nw:H l=none
def RV:Sp:=λvs H Q _=>∃(p:Xb)(m:Int)(v:V)(k:Bo),vs=[.ref p,v]/\H p=some (.lst [.int m])/\DA N0 H v k.d/\k.ok/\∀t l wd ns H',QCq p t l wd ns H H'->Q (.ref t) H'
def Qxx(F:aB P w K mg base "_law_good_deed" Rh)(Tg:aC mg)
   (c1:au P w K mg base ax 2 "_law_deed"<|ZK false P1)
   (c2:au P w K mg base ax 1 "_law_take" Ec) :
  au P w K mg base ax 3 "_law_good_deed" RV:=by
 refine gs ["_law_pot_here", "_law_board", "_law_word", "_law_told", "_law_far"] 2 F λao A outer s H vs Q E nD hr h=>?_
 obtain⟨p,m,v,k,rfl,hp,hv,o,Q0⟩:=h;refine⟨_,QC (n8 (Zr c1 hr<|Ql (pv 0)<|Ql (pv 1)<|Ql Je Qu)<|pC rfl<|Zz (gh 2 nD)<|Zz (gh 3 nD) pK)
  (QC (eD 4 nD<|Z8 Za (Yi<|Y6 Je<|Y6 Je<|Y6 Je<|Y6 Je<|Y6 Je<|Y6 Je Qu) (Zr c2 hr<|Ql (pv 0)<|Ql Je Qu) λ_ _=>rfl)
  (QC (gj (PW.pt<|Aw (Yw QAB (pv 3) (Yi Qu)<|JL _)<|AX<|Yw rj (Zr c2 hr<|Ql (pv 0)<|Ql Je Qu) Je<|JL _) (Q6<|n8 (pv 4)<|C9 (pv 3) (Zr c2 hr<|Ql (pv 0)<|Ql Je Qu) A8) Yh)
  (Q6<|JZ<|YY<|Y6 (pv 2)<|Y6 (pv 3) Qu))),?_⟩
 have hU:=az.qD hr;have dm:∀x,(∃xs,H x=some (.lst xs))->∃ys,H x=some (.lst ys):=λx hx=>hx
 refine⟨_,rfl,_,rfl,(λx=>∃xs,H x=some (.lst xs)),(λx=>x=p),[.eJ,.v k.d,.v<|.int 0],(λd=>∃(wd:Str)(ns:List Int),d=.tuple [.str wd,.list<|ns.map Qp]/\oQ wd ns/\∀n∈ns,0<=n/\n<100),XF,dm,λx hx=>⟨⟨[.int m],by rw[hx];exact hp⟩,m,by rw[hx];exact hp⟩,.cons ⟨p,rfl,rfl⟩<|.cons (QBI (λ_ _ e=>e) dm _ _ (HK _) hv)<|.cons (.int _) .nil,⟨_,rfl,o,λwd ns g bd=>⟨wd,ns,rfl,g,λn hn=>⟨(bd n hn).1,by have:=(bd n hn).2;omega⟩⟩⟩,λd hd v3 H3 kq dv _=>?_,λ_ z=>z.elim⟩;obtain⟨wd,ns,rfl,hw,nb⟩:=hd;obtain⟨n0,e0⟩:=kq.2 p rfl;obtain⟨ct,tl,rfl,ec,et,na⟩:∃ct tl,v3=.ref ct/\H3 ct=some (.tup [.str wd,.ref tl])/\H3 tl=some (.lst<|ns.map V.int)/\¬ ∃xs,H tl=some (.lst xs):=by
  cases dv with
  |tup _ e q=>cases q with
   |cons q1 q=>cases q with
    |cons q2 q=>
     cases q;cases q1;cases q2 with
     |lst n2 e2 q2=>exact⟨_,_,rfl,e,by rw[A6 q2] at e2;exact e2,n2⟩
 have tp:tl≠p:=λe=>na ⟨_,by rw[e];exact hp⟩
 have nt:H tl=none:=by
  cases z:H tl with
  |none=>rfl
  |some u=>
   have h3:=kq.1 _ _ tp z;rw[et] at h3;cases h3;exact(na ⟨_,z⟩).elim
 have cp:ct≠p:=YB ec e0 λz=>nomatch z;have k3:K1 p H H3:=λa u h e=>kq.1 a u h e
 refine⟨ct,_,rfl,aM.of ec,rfl,_,_,rfl,_,_,rfl,rfl,?_⟩;refine⟨by show 6<=1000;decide,λl1 H4 s4 n4 e4=>?_⟩;refine⟨_,rfl,p,n0,6,rfl,s4 _ _ e0,by decide,by decide,λr m1 r0 r6=>?_⟩;have lp:l1≠p:=(QN e0 n4).symm;obtain⟨fv,f0,f1,hf⟩:∃fv:Int,0<=fv/\fv<100/\gb [V.int 0,.int 5,.int 6,.int 9,.int 10,.int 99] r=some (.int fv):=by
  obtain⟨j,rfl⟩:=ZU r0
  match j,r6 with
  |0,_=>exact⟨0,by decide,by decide,rfl⟩
  |1,_=>exact⟨5,by decide,by decide,rfl⟩
  |2,_=>exact⟨6,by decide,by decide,rfl⟩
  |3,_=>exact⟨9,by decide,by decide,rfl⟩
  |4,_=>exact⟨10,by decide,by decide,rfl⟩
  |5,_=>exact⟨99,by decide,by decide,rfl⟩
  |j+6,h=>omega
 refine⟨l1,_,r,.int fv,rfl,rfl,aA.of (by rw[QY lp];exact e4),hf,?_⟩;have k4:K1 p H (upd H4 p<|.lst [.int m1]):=λa u h e=>by rw[QY h];exact s4 _ _<|k3 a u h e
 have t4:(upd H4 p<|.lst [.int m1]) tl=some (.lst<|ns.map V.int):=by rw[QY tp];exact s4 _ _ et
 have p4:(upd H4 p<|.lst [.int m1]) p=some (.lst [.int m1]):=af;generalize upd H4 p (.lst [.int m1])=H5 at k4 t4 p4;have fin:∀(gP:List Int)(m':Int)(H5:Hp),oQ wd gP->gP.length<=2->(∀n∈gP,0<=n/\n<100)->K1 p H H5->H5 p=some (.lst [.int m'])->H5 tl=some (.lst<|gP.map V.int)->(uL<|ZM (Yu 2)<|ZM (Yu 3) bD) [some<|.ref p,some v,some<|.str wd,some<|.ref tl,some<|.int fv] H5 Q:=λgP m' H5 g5 l5 b5 k5 p5 t5=>
  ⟨_,rfl,_,rfl,by show 2<=1000;decide,λt H6 s6 n6 e6=>Q0 t tl wd gP H6 ⟨g5,l5,b5,λa u h e=>s6 _ _<|k5 a u h e,⟨m',s6 _ _ p5⟩,e6,s6 _ _ t5,tp,nt⟩⟩
 refine⟨_,rfl,by show 0<=1000;decide,λl2 H6 s6 n6 e6=>⟨tl,l2,ns.map V.int,rfl,rfl,s6 _ _ t4,e6,JK (EF _ 60) hU,_,rfl,?_⟩⟩;have k6:K1 p H H6:=λa u h e=>s6 _ _<|k4 a u h e
 have t6:=s6 _ _ t4;have p6:=s6 _ _ p4;rcases hw with⟨rfl,hw⟩ | ⟨x,y,rfl,hw⟩
 ·exact dO (fin [] m1 H6 (.inl ⟨rfl,hw⟩) (by decide) nb k6 p6 t6)
 ·refine df ?_
  refine⟨_,rfl,p,m1,10,rfl,p6,by decide,by decide,λr2 m2 _ _=>?_⟩;refine⟨rfl,_,rfl,?_⟩;have k7:∀m:Int,K1 p H (upd H6 p<|.lst [.int m]):=λm a u h e=>by rw[QY h];exact k6 a u h e
  have t7:∀m:Int,(upd H6 p<|.lst [.int m]) tl=some (.lst [.int x,.int y]):=λm=>by rw[QY tp];exact t6
  cases decide (V.int r2=V.int 0) with
  |false=>exact dO<|fin [x,y] m2 _ (.inr ⟨_,_,rfl,hw⟩) (Qd _) nb (k7 m2) af<|t7 m2
  |true=>
   refine df ⟨_,rfl,_,rfl,_,rfl,p,m2,2,rfl,af,by decide,by decide,λr3 m3 c0 c2=>?_⟩;rw[UJ];have kk:∀z:List V,K1 p H (upd (upd H6 p<|.lst [.int m3]) tl<|.lst z):=λz a u h e=>by rw[QY<|QN e nt];exact k7 m3 a u h e
   have pp:∀z:List V,(upd (upd H6 p<|.lst [.int m3]) tl<|.lst z) p=some (.lst [.int m3]):=λz=>by rw[QY tp.symm];exact af
   have bx:=nb x<|Q1 ..;have bY:=nb y<|QQ _<|Qo.mpr rfl;rcases(show r3=0∨r3=1 by omega) with rfl | rfl
   ·exact⟨tl,_,0,0,rfl,rfl,t7 m3,AR (n:=2)<|by decide,fin [fv,y] m3 _ (.inr ⟨_,_,rfl,hw⟩) (Qd _) (λn hn=>by
     rcases Qt.mp hn with rfl | hn
     ·omega
     ·rw[Qo.mp hn];omega) (kk _) (pp _) af⟩
   ·exact⟨tl,_,1,1,rfl,rfl,t7 m3,AR (n:=2)<|by decide,fin [x,fv] m3 _ (.inr ⟨_,_,rfl,hw⟩) (Qd _) (λn hn=>by
     rcases Qt.mp hn with rfl | hn
     ·omega
     ·rw[Qo.mp hn];omega) (kk _) (pp _) af⟩
abbrev y3:Zo:=top 96
abbrev QA5:Zo:=top 97
abbrev AB:Zo:=top 98
abbrev QA6:Zo:=top 99
def kd:Nat->List (Int×Int)->Option (List (Int×Int))
 |0,_=>some []
 |m+1,cs=>(Qv cs.length).findSome? λj=>(kd m<|(cs.drop<|j+1).filter λo => !decide (o.1=(cs.getD j (0,0)).1) && !decide (o.2=(cs.getD j (0,0)).2)).map λL=>cs.getD j (0,0)::L
def QFO:Option (List (Int×Int))->Xc
 |some L=>f6 L
 |none=>.none
def QAV:DF:=λ_ _ _=>False
def AA(M:Nat):DF:=λargs R _=>∃(d:Xc)(cs:List (Int×Int))(m:Nat),args=[.v d,.v<|.int (m:Nat)]/\(d=.tuple (cs.map pairD)∨d=.list (cs.map pairD))/\cs.length<=36/\m<=M/\M<=6/\R (QFO<|kd m cs)
def TJ{α:Type}{G:Nat->Option α}{i:Nat}(h:(Qv i).findSome? G=none)(e:G i=none):(Qv<|i+1).findSome? G=none:=by
 rw[yh,U_,h];show([i].findSome? G)=none;rw[Z0,e];rfl
def TK{α:Type}{G:Nat->Option α}{i n:Nat}{x:α}(h:(Qv i).findSome? G=none)(hi:i<n)(e:G i=some x):(Qv n).findSome? G=some x:=by
 induction n with
 |zero=>omega
 |succ n ih=>
  rw[yh,U_];by_cases z:i=n
  ·rw[<- z,h];show([i].findSome? G)=some x;rw[Z0,e]
  ·rw[ih<|by omega];rfl
def jb(cs:List (Int×Int))(j:Nat):List (Int×Int):=(cs.drop<|j+1).filter λo => !decide (o.1=(cs.getD j (0,0)).1) && !decide (o.2=(cs.getD j (0,0)).2)
def kJ(m:Nat)(cs:List (Int×Int))(j:Nat):Option (List (Int×Int)):=(kd m<|jb cs j).map λL=>cs.getD j (0,0)::L
def Li:∀(m:Nat)(cs L:List (Int×Int)),kd m cs=some L->L.length=m
 |0,cs,L,h=>by cases h;rfl
 |m+1,cs,L,h=>by
  obtain⟨j,_,e⟩:=List.exists_of_findSome?_eq_some<|show(Qv cs.length).findSome? (kJ m cs)=some L from h
  unfold kJ at e;obtain⟨M,eM,rfl⟩:=Ja.mp e;rw[Qz,Li m _ M eM]
def Qmf:(["_law_one", "_law_cell"]:List Str).Nodup:=by decide
def QoU(F:aB P w K mg base "_law_first_stand" AB)(T:aC mg)
  (c1:au P w K mg base ax 1 "_law_first_stand"<|ZK false QAV) :
  au P w K mg base ax 2 "_law_first_stand" (ZK false<|AA 0):=by
 refine cZ ["_law_cells", "_law_size", "_law_k", "_law_cell", "_law_later", "_law_found"] 2 false F λao A outer s H E nD hr hU hI=>?_
 refine⟨_,QJ (dQ (J8 jj (je hU) (qp 1) (QU Jg)<|JL _) (Q7<|ZN<|Ys Q8) Zu)
  (QJ (pE Jj rfl (Ib (VZ (by rfl) T.enumerate<|qv 0)<|D9 (by rfl) T.enumerate<|qv 0) (iO rfl<|JO 2 (JO 3 iN nD rfl<|by first | exact QM rfl | exact QV rfl) nD rfl<|by first | exact QM rfl | exact QV rfl)
   (QJ (K9 ["_law_one", "_law_cell"] [none,some 3] 4 nD (mq<|Jf<|AF (qp 0) (AH<|Jf<|Yg ZO YH (qp 2)<|QU Jg) AG) λcl ex s3 H3 C=>⟨(ZX 0 Qmf rfl (QM rfl)<|QV rfl),(jQ<|kO<|uR (J8 pG (pj hU) (QU<|YX Jm J6 (qp 0) (QU Jg) λ_ _=>rfl) (QU<|YX Jm J6 (qp 1) (QU Jg) λ_ _=>rfl)<|JL _)<|u6<|J8 pG (pj hU) (QU<|YX Jm J6 (qp 0) (QU Jg) λ_ _=>rfl) (QU<|YX Jm J6 (qp 1) (QU Jg) λ_ _=>rfl)<|JL _),(qv 0)⟩)
  (QJ (ZH 5 (eZ c1 hr<|YM (qv 4)<|YM (JV<|Yg mn nY (qp 1)<|QU Jg) Zq) nD)
  (Q7<|dQ (J8 Ux S0 (qp 5) (QU xj)<|JL _) (Q7<|ZN<|Yg ZO YH (Jf<|Ys<|Zv (qv 3) Q8)<|qp 5) Zu))))
  (Q7<|iP xj)),λargs R EX h=>?_⟩
 obtain⟨d,cs,m,rfl,hd,qK,mM,M6,hR⟩:=h;obtain rfl:m=0:=by omega
 exact hR
def Qo2:(["_law_one", "_law_cell"]:List Str).Nodup:=by decide
def QsU(F:aB P w K mg base "_law_first_stand" AB)(T:aC mg)
  (c1:au P w K mg base ax (dp+1) "_law_first_stand"<|ZK false<|AA M) :
  au P w K mg base ax (dp+2) "_law_first_stand" (ZK false<|AA<|M+1):=by
 refine cZ ["_law_cells", "_law_size", "_law_k", "_law_cell", "_law_later", "_law_found"] 2 false F λao A outer s H E nD hr hU hI=>?_
 refine⟨_,QJ (dQ (J8 jj (je hU) (qp 1) (QU Jg)<|JL _) (Q7<|ZN<|Ys Q8) Zu)
  (QJ (pE Jj rfl (Ib (VZ (by rfl) T.enumerate<|qv 0)<|D9 (by rfl) T.enumerate<|qv 0) (iO rfl<|JO 2 (JO 3 iN nD rfl<|by first | exact QM rfl | exact QV rfl) nD rfl<|by first | exact QM rfl | exact QV rfl)
   (QJ (K9 ["_law_one", "_law_cell"] [none,some 3] 4 nD (Ib (mq<|Jf<|AF (qp 0) (AH<|Jf<|Yg ZO YH (qp 2)<|QU Jg) AG)<|rX<|Jf<|AF (qp 0) (AH<|Jf<|Yg ZO YH (qp 2)<|QU Jg) AG) λcl ex s3 H3 C=>⟨(ZX 0 Qo2 rfl (QM rfl)<|QV rfl),(jQ<|kO<|uR (J8 pG (pj hU) (QU<|YX Jm J6 (qp 0) (QU Jg) λ_ _=>rfl) (QU<|YX Jm J6 (qp 1) (QU Jg) λ_ _=>rfl)<|JL _)<|u6<|J8 pG (pj hU) (QU<|YX Jm J6 (qp 0) (QU Jg) λ_ _=>rfl) (QU<|YX Jm J6 (qp 1) (QU Jg) λ_ _=>rfl)<|JL _),(qv 0)⟩)
  (QJ (ZH 5 (eZ (h:=by omega) c1 hr<|YM (qv 4)<|YM (JV<|Yg mn nY (qp 1)<|QU Jg) Zq) nD)
  (Q7<|dQ (J8 Ux S0 (qp 5) (QU xj)<|JL _) (Q7<|ZN<|Yg ZO YH (Jf<|Ys<|Zv (qv 3) Q8)<|qp 5) Zu))))
  (Q7<|iP xj)),λargs R EX h=>?_⟩
 obtain⟨d,cs,m,rfl,hd,qK,mM,M6,hR⟩:=h;cases m with
 |zero=>exact hR
 |succ m=>
 rcases hd with rfl | rfl
 ·refine .inl<|sy (λi δ=>∃x2 x3 x4 x5,δ=[.v<|.tuple<|cs.map pairD,.v<|.int ((m+1:Nat):Int),x2,x3,x4,x5]/\(Qv i).findSome? (kJ m cs)=none) ⟨_,_,_,_,rfl,rfl⟩ ?_ ?_
  ·rintro i e δ he ⟨x2,x3,x4,x5,rfl,hn⟩;obtain⟨c,hc,rfl⟩:=xS he;rw[Qq] at hc;obtain⟨p,hp,rfl⟩:=Ja.mp hc;have hi:=(QR.mp hp).1;have ep:cs.getD i (0,0)=p:=by rw[Qi,hp];rfl
   refine⟨rfl,.inl<|kg (λd=>if(λo:Int×Int => !decide (o.1=p.1) && !decide (o.2=p.2)) (cN d)=true then some d else none) (λd hd k1 k2 h1 h2=>?_) ?_⟩
   ·obtain⟨o,_,rfl⟩:=Qh.mp<|Vl hd;have h1:(if(!decide (o.1=p.1) && !decide (o.2=p.2))=true then some (pairD o) else none)=none->k1:=h1;have h2:∀e,(if(!decide (o.1=p.1) && !decide (o.2=p.2))=true then some (pairD o) else none)=some e->k2 e:=h2
    refine⟨_,QX (j:=0) rfl,_,QX (j:=0) rfl,?_⟩;refine gQ (λz1=>?_) λz1=>?_
    ·have z1:(!decide (o.1=p.1))=true:=z1;rw[z1,Be] at h1 h2;refine⟨_,QX (j:=1) rfl,_,QX (j:=1) rfl,?_⟩;show if(!decide (o.2=p.2))=true then k2 (pairD o) else k1
     by_cases z:(!decide (o.2=p.2))=true
     ·rw[X9 z];exact h2 _<|X9 z
     ·rw[X8 z];exact h1<|X8 z
    ·have z1:(!decide (o.1=p.1))=false:=z1;rw[z1] at h1;exact h1 rfl
   ·rw[show((i:Nat):Int)+1=((i+1:Nat):Int) by omega,QiY,<- QCy,vp λo:Int×Int => !decide (o.1=p.1) && !decide (o.2=p.2)];have en:((cs.drop<|i+1).filter λo:Int×Int => !decide (o.1=p.1) && !decide (o.2=p.2))=jb cs i:=by unfold jb;rw[ep]
    rw[en];have ln:(jb cs i).length<=36:=QK (Zk _ _) (QK (by rw[yb];omega) qK);refine⟨_,jb cs i,m,congrArg (λz=>[Sl.v<|.list<|(jb cs i).map pairD,Sl.v<|Qp z])<|show((m+1:Nat):Int) - 1=(m:Int) by omega,.inr rfl,ln,by omega,by omega,?_⟩;cases ef:kd m (jb cs i) with
    |none=>exact⟨_,_,_,_,rfl,TJ hn (by unfold kJ;rw[ef];rfl)⟩
    |some L=>
     have e:kd (m+1) cs=some (p::L):=TK (G:=kJ m cs) hn hi (by unfold kJ;rw[ef,ep];rfl);rw[e] at hR;exact⟨by rw[Qb,Li m _ L ef];show 1+m<=_;omega,hR⟩
  ·rintro δ ⟨x2,x3,x4,x5,rfl,hn⟩;rw[vo,Qb] at hn;have e:kd (m+1) cs=none:=hn;rw[e] at hR;exact hR
 ·refine .inr<|sy (λi δ=>∃x2 x3 x4 x5,δ=[.v<|.list<|cs.map pairD,.v<|.int ((m+1:Nat):Int),x2,x3,x4,x5]/\(Qv i).findSome? (kJ m cs)=none) ⟨_,_,_,_,rfl,rfl⟩ ?_ ?_
  ·rintro i e δ he ⟨x2,x3,x4,x5,rfl,hn⟩;obtain⟨c,hc,rfl⟩:=xS he;rw[Qq] at hc;obtain⟨p,hp,rfl⟩:=Ja.mp hc;have hi:=(QR.mp hp).1;have ep:cs.getD i (0,0)=p:=by rw[Qi,hp];rfl
   refine⟨rfl,.inr<|kg (λd=>if(λo:Int×Int => !decide (o.1=p.1) && !decide (o.2=p.2)) (cN d)=true then some d else none) (λd hd k1 k2 h1 h2=>?_) ?_⟩
   ·obtain⟨o,_,rfl⟩:=Qh.mp<|Vl hd;have h1:(if(!decide (o.1=p.1) && !decide (o.2=p.2))=true then some (pairD o) else none)=none->k1:=h1;have h2:∀e,(if(!decide (o.1=p.1) && !decide (o.2=p.2))=true then some (pairD o) else none)=some e->k2 e:=h2
    refine⟨_,QX (j:=0) rfl,_,QX (j:=0) rfl,?_⟩;refine gQ (λz1=>?_) λz1=>?_
    ·have z1:(!decide (o.1=p.1))=true:=z1;rw[z1,Be] at h1 h2;refine⟨_,QX (j:=1) rfl,_,QX (j:=1) rfl,?_⟩;show if(!decide (o.2=p.2))=true then k2 (pairD o) else k1
     by_cases z:(!decide (o.2=p.2))=true
     ·rw[X9 z];exact h2 _<|X9 z
     ·rw[X8 z];exact h1<|X8 z
    ·have z1:(!decide (o.1=p.1))=false:=z1;rw[z1] at h1;exact h1 rfl
   ·rw[show((i:Nat):Int)+1=((i+1:Nat):Int) by omega,QiY,<- QCy,vp λo:Int×Int => !decide (o.1=p.1) && !decide (o.2=p.2)];have en:((cs.drop<|i+1).filter λo:Int×Int => !decide (o.1=p.1) && !decide (o.2=p.2))=jb cs i:=by unfold jb;rw[ep]
    rw[en];have ln:(jb cs i).length<=36:=QK (Zk _ _) (QK (by rw[yb];omega) qK);refine⟨_,jb cs i,m,congrArg (λz=>[Sl.v<|.list<|(jb cs i).map pairD,Sl.v<|Qp z])<|show((m+1:Nat):Int) - 1=(m:Int) by omega,.inr rfl,ln,by omega,by omega,?_⟩;cases ef:kd m (jb cs i) with
    |none=>exact⟨_,_,_,_,rfl,TJ hn (by unfold kJ;rw[ef];rfl)⟩
    |some L=>
     have e:kd (m+1) cs=some (p::L):=TK (G:=kJ m cs) hn hi (by unfold kJ;rw[ef,ep];rfl);rw[e] at hR;exact⟨by rw[Qb,Li m _ L ef];show 1+m<=_;omega,hR⟩
  ·rintro δ ⟨x2,x3,x4,x5,rfl,hn⟩;rw[vo,Qb] at hn;have e:kd (m+1) cs=none:=hn;rw[e] at hR;exact hR
def Qs9{n:Nat}(F:aB P w K mg base "_law_first_stand" AB):au P w K mg base ax n "_law_first_stand" (ZK false QAV):=by
 obtain⟨f,fd,e,F⟩:=F.ex;exact⟨f,fd,["_law_cells", "_law_size"],e,⟨λvs H Q E h=>(by obtain⟨_,_,_,_,_,_,_,_,h,_⟩:=h;exact h.elim),λA outer s H args us vs Q E hr _ _ _ h=>(by obtain⟨_,_,_,_,_,_,_,_,h,_⟩:=h;exact h.elim)⟩,F.binds λ_ _ _ _ _ _=>sJ λ_ _=>rfl,F.kp⟩
def QiA(F:aB P w K mg base "_law_first_stand" AB)(T:aC mg):∀M,au P w K mg base ax (M+2) "_law_first_stand" (ZK false<|AA M)
 |0=>QoU F T<|Qs9 F
 |M+1=>QsU F T<|QiA F T M
end
end Rk


namespace Rk
open L2 _root_.Rd
open Dl
open Rt
def cj(l:List (Int×Int)):Xc:=.list [.list ((l.map (·.1)).map Qp),.list ((l.map (·.2)).map Qp)]
def QA3:DF:=λargs R _=>∃(h w:Int)(cs:List (Int×Int)),args=[.v<|bQ h w cs]/\CH cs/\∀Ls,cD cs Ls->R (.int (Ls.length:Nat))
def QAX(p:Int×Int):Xc->Bool
 |.list [.list as,.list bs]=>(as.any λe=>Qy e<|.int p.1)||bs.any λe=>Qy e<|.int p.2
 |_=>false
def Qtb(p:Int×Int)(l:List (Int×Int)):QAX p (cj l)=bT p l:=by
 show((((l.map (·.1)).map Qp).any λe=>Qy e<|.int p.1)||(((l.map (·.2)).map Qp).any λe=>Qy e<|.int p.2))=_;rw[Ky,Ky];unfold bT fw;rw[Jt,yg,J5,Z',Z',Qh,Qh];constructor
 ·rintro(⟨q,hq,e⟩ | ⟨q,hq,e⟩)
  ·exact⟨q,hq,by rw[yg];exact .inl<|X_ e⟩
  ·exact⟨q,hq,by rw[yg];exact .inr<|X_ e⟩
 ·rintro⟨q,hq,e⟩;rcases Bool.or_eq_true_iff.mp e with e | e
  ·exact .inl ⟨q,hq,Y' e⟩
  ·exact .inr ⟨q,hq,Y' e⟩
def TF{g:Xc->Bool}:∀{Ls:List (List (Int×Int))},(∀l∈Ls,g (cj l)=f l)->(Ls.map cj).filterMap (λd=>if g d=true then some d else none)=(Ls.filter f).map cj:=by
 intro Ls;induction Ls with
 |nil=>exact λ_=>rfl
 |cons l Ls ih=>
  intro h;have ih:=ih λm hm=>h m<|QQ _ hm
  rw[JU,Br,h l<|Q1 ..];by_cases z:f l=true
  ·rw[X9 z,YA z,JU,ih]
  ·rw[X8 z,J7 z,ih]
def QtJ(h:Qy (cj l) (cj m)=true):l.map (·.1)=m.map (·.1):=by
 have go:∀as bs:List Int,Yt (as.map Qp) (bs.map Qp)=true->as=bs:=λas=>by
  induction as with
  |nil=>intro bs h;cases bs<;>first | rfl | simp[Yt] at h
  |cons a as ih=>
   intro bs h;cases bs with
   |nil=>simp[Yt] at h
   |cons b bs=>
    simp[Yt,Qy] at h;rw[h.1,ih bs h.2]
 unfold cj at h;simp only[Qy,Yt,Js] at h;exact go _ _ h.1
def QtI(l:List (Int×Int)):Qy (cj l) (cj l)=true:=by
 unfold cj;simp only[Qy,Yt];have:=Vp (l.map (·.1));have h2:=Vp (l.map (·.2));simp only[Qy] at this h2;rw[this,h2];rfl
def QpJ(l:List (Int×Int)):(cj l).depth<=50:=by
 have d0:∀ns:List Int,Yn (ns.map Qp)=0:=λns=>by
  induction ns with
  |nil=>rfl
  |cons a l ih=>rw[JU];unfold Yn;rw[ih];rfl
 unfold cj;simp only[YU,Yn,d0];decide
def QAZ(l:List (Int×Int)):nd (cj l)=true:=by
 show(gv _&&(gv _&&true))=true;rw[vm,vm];rfl
def QrR{A:List (List (Int×Int))}(h:A.Sublist B):A.flatten.length<=B.flatten.length:=by
 induction h with
 |slnil=>exact Qd _
 |cons a _ ih=>rw[Zy,Qj];omega
 |cons_cons a _ ih=>rw[Zy,Zy,Qj,Qj];omega
def Qs7(h:cD ps Ls)(p:Int×Int)(hl:l∈Ls):(((Ls.filter<|bT p).map cj).any λe=>Qy e<|cj l)=bT p l:=by
 rw[Jt,J5];constructor
 ·rintro⟨d,hd,e⟩;obtain⟨m,hm,rfl⟩:=Qh.mp hd;obtain⟨hm,tm⟩:=QF.mp hm;have em:=QtJ e;cases m with
  |nil=>exact Z_ rfl<|h.ne _ hm
  |cons y m=>
   cases l with
   |nil=>cases em
   |cons z l=>
    have e1:=(vq em).1;rw[<- h.apart _ hm _ hl y (.head _) z (.head _) (by unfold fw;rw[X_ e1];rfl)];exact tm
 ·intro ht;exact⟨cj l,Qh.mpr ⟨l,QF.mpr ⟨hl,ht⟩,rfl⟩,QtI l⟩
def VE(h:cD ps Ls)(np:ps.Nodup):Ls.flatten.length=ps.length:=((JN h.nd np).mpr h.mem).length_eq
def VC(h:cD ps Ls):Ls.length<=Ls.flatten.length:=by
 have:∀Ls:List<|List (Int×Int),(∀l∈Ls,l≠[])->Ls.length<=Ls.flatten.length:=λLs=>by
  induction Ls with
  |nil=>exact λ_=>Qd _
  |cons l Ls ih=>
   intro h;have h1:=ih λm hm=>h m<|QQ _ hm
   have h2:=List.length_pos_iff.mpr<|h l<|Q1 ..;rw[Zy,Qj,Qz];omega
 exact this Ls h.ne
def Qtc(Ls:List<|List (Int×Int)):gv (Ls.map cj)=true:=KU.mpr λd hd=>by
 obtain⟨l,_,rfl⟩:=Qh.mp hd;show(gv _&&(gv _&&true))=true;rw[vm,vm];rfl
section
variable{P:QB}{w:Jh}{K:Ws}{mg:Str->Option Xd}{base:ZF}
def Qtg:(["_law_lot", "_law_cell"]:List Str).Nodup:=by decide
def Qtf:(["_law_lot", "_law_near"]:List Str).Nodup:=by decide
def Qxr(F:aB P w K mg base "_law_lots" QA6)(T:aC mg) :
  au P w K mg base ax 1 "_law_lots" (ZK false QA3):=by
 refine cZ ["_law_board", "_law_lots_here", "_law_cell", "_law_near", "_law_wide", "_law_lot"] 1 false F λao A outer s H E nD hr hU hI=>?_
 refine⟨_,QJ (ZH 1 (JV<|g6 Q8) nD)
  (QJ (pE Jj rfl (mq<|YX Jm J6 (qp 0) (QU Jg) λ_ _=>rfl) (ZX 2 nD rfl<|by first | exact QM rfl | exact QV rfl)
   (QJ (ZH 3 (JV<|iu ["_law_lot", "_law_cell"] [none,some 2] (rX<|qp 1) λcl ex s3 H3 C=>⟨(ZX 0 Qtg rfl (QM rfl)<|QV rfl),(jQ<|kO<|uK (J8 uY (jM hI) (QU<|YX Jm J6 (qp 1) (QU Jg) λ_ _=>rfl) (QU<|YX Jm J6 (qp 0) (QU Jg) λ_ _=>rfl) rfl)<|Ax<|J8 uY (jM hI) (QU<|YX Jm J6 (qp 1) (QU Jg) λ_ _=>rfl) (QU<|YX Jm J6 (qp 0) (QU Jg) λ_ _=>rfl) rfl),(qv 0)⟩) nD)
  (QJ (ZH 4 (JV<|g6<|Zv (JV<|g6<|Zv (YX Jm J6 (qp 2) (QU Jg) λ_ _=>rfl) Q8)<|Zv (JV<|g6<|Zv (YX Jm J6 (qp 2) (QU Jg) λ_ _=>rfl) Q8) Q8) nD)
  (QJ (pE Jj rfl (rX<|qv 3) (ZX 5 nD rfl<|by first | exact QM rfl | exact QV rfl)
   (Q7<|ZH 4 (JV<|g6<|Zv (JV<|Yg ZO YH (QU<|YX Jm J6 (qp 4) (QU Jg) λ_ _=>rfl)<|QU<|YX Jm J6 (qp 5) (QU Jg) λ_ _=>rfl)<|Zv (JV<|Yg ZO YH (QU<|YX Jm J6 (qp 4) (QU Jg) λ_ _=>rfl)<|QU<|YX Jm J6 (qp 5) (QU Jg) λ_ _=>rfl) Q8) nD))
  (Q7<|ZH 1 (JV<|Yg ZO YH (Jf<|iu ["_law_lot", "_law_near"] [none,some 3] (rX<|qp 1) λcl ex s3 H3 C=>⟨(ZX 0 Qtf rfl (QM rfl)<|QV rfl),(jQ<|J8 vh (jM hI) (qp 0) (qp 1) rfl),(qv 0)⟩)<|Jf<|g6<|Zv (qv 4) Q8) nD)))))
  (Q7<|ZN<|Y9 Bi AD rfl T.len kS<|cF (qp 1) Q8)),λargs R EX h=>?_⟩
 obtain⟨h,w,cs,rfl,sb,hR⟩:=h;have nc:=sb.1.imp jO;have qK:=sb.2.1;refine⟨_,QX rfl,sy (λi δ=>∃Ls x2 x3 x4 x5,δ=[.v<|bQ h w cs,.v<|.list<|Ls.map cj,x2,x3,x4,x5]/\cD (cs.take i) Ls) ⟨[],_,_,_,_,rfl,cD.nil⟩ ?_ ?_⟩
 ·rintro i e δ he ⟨Ls,x2,x3,x4,x5,rfl,hL⟩;rw[Qq] at he;obtain⟨p,hp,rfl⟩:=Ja.mp he;have et:cs.take (i+1)=cs.take i++[p]:=by rw[O2,hp];rfl
  have hc:=λhm=>by
   have:=nc.sublist<|Ew (i+1) cs;rw[et] at this;exact(Zx.mp this).2.2 p hm p (.head _) rfl
  have fl:=VE hL<|nc.sublist<|Ew i cs;have fc:=VC hL;rw[yd] at fl;refine kg (λd=>if QAX p d=true then some d else none) (λd hd k1 k2 h1 h2=>?_) ?_
  ·obtain⟨l,_,rfl⟩:=Qh.mp hd;have h1:(if((((l.map (·.1)).map Qp).any λe=>Qy e<|.int p.1)||(((l.map (·.2)).map Qp).any λe=>Qy e<|.int p.2))=true then some (cj l) else none)=none->k1:=h1;have h2:∀e,(if((((l.map (·.1)).map Qp).any λe=>Qy e<|.int p.1)||(((l.map (·.2)).map Qp).any λe=>Qy e<|.int p.2))=true then some (cj l) else none)=some e->k2 e:=h2
   refine⟨_,QX rfl,_,QX rfl,⟨vm _,rfl,by unfold YU;decide⟩,?_⟩;refine gQ (λz=>?_) λz=>?_
   ·have z:(((l.map (·.1)).map Qp).any λe=>Qy e<|.int p.1)=true:=z;rw[z] at h2;exact h2 _<|X9 rfl
   ·have z:(((l.map (·.1)).map Qp).any λe=>Qy e<|.int p.1)=false:=z;rw[z] at h1 h2;refine⟨_,QX rfl,_,QX rfl,⟨vm _,rfl,by unfold YU;decide⟩,?_⟩;refine gQ (λz=>?_) λz=>?_
    ·exact h2 _<|X9 z
    ·exact h1 (X8 (by rw[show(((l.map (·.2)).map Qp).any λe=>Qy e<|.int p.2)=false from z];decide))
  ·rw[TF λl _=>Qtb p l];have ns:(Ls.filter<|bT p).Sublist Ls:=S9;refine⟨_,QX rfl,_,QX rfl,?_⟩;refine sy (λj δ=>∃x5,δ=[.v<|bQ h w cs,.v<|.list<|Ls.map cj,.v<|pairD p,.v<|.list<|(Ls.filter<|bT p).map cj,.v<|cj (p::((Ls.filter<|bT p).take j).flatten),x5]) ⟨_,rfl⟩ ?_ ?_
   ·rintro j e δ he ⟨x5,rfl⟩;rw[Qq] at he;obtain⟨l,hl,rfl⟩:=Ja.mp he;have e2:((Ls.filter<|bT p).take<|j+1).flatten=((Ls.filter<|bT p).take j).flatten++l:=by rw[O2,hl,Mq];simp
    have l2:((Ls.filter<|bT p).take<|j+1).flatten.length<=Ls.flatten.length:=QrR<|(Ew _ _).trans ns;rw[e2,Qj] at l2;have el:cj (p::(((Ls.filter<|bT p).take j).flatten++l))=.list [.list (((p::((Ls.filter<|bT p).take j).flatten).map (·.1)).map Qp++(l.map (·.1)).map Qp),.list (((p::((Ls.filter<|bT p).take j).flatten).map (·.2)).map Qp++(l.map (·.2)).map Qp)]:=by
     unfold cj;rw[<- List.cons_append,Q3,Q3,Q3,Q3]
    have le:∀f:Int×Int->Int,(((p::((Ls.filter<|bT p).take j).flatten).map f).map Qp).length+((l.map f).map Qp).length<=1000000:=λf=>by
     rw[Qb,Qb,Qb,Qb,Qz];omega
    exact⟨_,QX rfl,_,QX rfl,le _,_,QX rfl,_,QX rfl,le _,_,by rw[e2,el];rfl⟩
   ·rintro δ ⟨x5,rfl⟩;rw[Qb,Zh];refine kg (λd=>if(!(((Ls.filter<|bT p).map cj).any λe=>Qy e d))=true then some d else none) (λd hd k1 k2 h1 h2=>?_) ?_
    ·obtain⟨l,hl,rfl⟩:=Qh.mp hd;refine⟨⟨Qtc _,QAZ l,QpJ l⟩,?_⟩;show if(!(((Ls.filter<|bT p).map cj).any λe=>Qy e<|cj l))=true then k2 (cj l) else k1
     by_cases z:(!(((Ls.filter<|bT p).map cj).any λe=>Qy e<|cj l))=true
     ·rw[X9 z];exact h2 _<|X9 z
     ·rw[X8 z];exact h1<|X8 z
    ·rw[TF λl hl=>by rw[Qs7 hL p hl]];have st:=hL.step hc;rw[<- et] at st;have ll:=Zk (λl => !bT p l) Ls;refine⟨by rw[Qb];show _+1<=1000000;omega,(Ls.filter λl => !bT p l)++[p::(Ls.filter<|bT p).flatten],.v<|pairD p,.v<|.list<|(Ls.filter<|bT p).map cj,.v<|cj (p::(Ls.filter<|bT p).flatten),x5,?_,st⟩;rw[Q3];rfl
 ·rintro δ ⟨Ls,x2,x3,x4,x5,rfl,hL⟩;rw[Qb,Zh] at hL;show R<|.int (((Ls.map cj).length:Nat):Int);rw[Qb];exact hR Ls hL
end
end Rk
namespace Rk
namespace Bx
open L2 _root_.Rd Dl Rt
section
variable(K:Ws)(P:QB)(W:Jh)
def Cv:TS:=Na (M_ (Am<|cY FU (Yu 5)<|Yu 2)<|Am<|cY (yG K true) (Yu 6)<|Yu 4)
 (gY (fU (fZ (Dy K)<|ZM (fZ (Kh K)<|ZM (cY C3 (Yu 4)<|uL<|ZM (Yu 6) bD) bD) bD)<|Yj 7)<|Ij (Yu 3) (Yu 7)<|cY (dU λi j=>V.int<|i+j) (IX (Yu 3) (Yu 7)<|tC<|V.int 0)<|xg (Yu 1)<|Yu 4) Ip
def Cw:TS:=gp (QE0 K<|o3 K 2) (Bv K 2<|rG (Yj 5)<|rG (Yj 6) Bu)<|Cv K
def o1:TS:=gY (fU (fZ (Kg P W)<|ZM (Yu 1) bD)<|Yj 3)<|gY (gp (Ab<|Yu 1) (Yj 4)<|Cw K)<|fU (Yu 3)<|Yj 1
def l6:TS:=fU (cY (dU λi j=>V.int<|i+j) (cY (qZ K) (Yu 8)<|Fc K)<|xg (Yu 1)<|Yu 4)<|oR (Yu 8) (Fc K) An
def z4:TS:=gY (fU (IY (uL bD)<|tC<|V.int 1)<|Yj 1) (gY (gp (CJ<|ZM (o3 K 0) bD) (Yj 2)<|o1 K P W)
 (gY (fU (cY Ih (Ak<|ZM (tC<|V.int 0) bD)<|cY (dU λi j=>V.int<|i+j) (fZ (λxs H Q=>∃i j,xs=[V.int i,V.int j]/\Q (V.int<|if j<i then j else i) H)<|ZM (o3 K 0)<|ZM (o3 K 1) bD)<|tC<|V.int 1)<|Yj 8)
  (gY (gp (Ab<|Yu 1) (Yj 4)<|l6 K)<|Nb<|Yu 8)))
end
def QB0{K:Ws}(w6:w<=6)(hc:c<w)(hq:f q c=true)(hd:H d=some (.cE o<|.dT<|cf L))(he:H e=some (.dT<|cf L'))(ht:H t=some (.tup<|ks.map V.int))(hk:(ks,n)∈L)(t1:be r w L)(t2:be (r+1) w L')
  (hN:∀x7 H',Kb e H H'->H' e=some (.dT<|cf<|if q=r then nj f r ks n c L' else L')->D.nx [some<|.ref b,some<|.ref d,some<|.int r,some<|.ref e,some<|.ref t,some<|.int q,some<|.int c,x7,x8] H') :
  Cv K D [some<|.ref b,some<|.ref d,some<|.int r,some<|.ref e,some<|.ref t,some<|.int q,some<|.int c,x7,x8] H:=by
 have ek:(ks.map (Ze:Int->Key)).map kV=ks.map V.int:=by rw[QD];rfl
 obtain⟨hf,_,_⟩:=t1.mem _ hk;have h6:=I_ (c:=c) (by omega) (by omega);refine⟨_,rfl,_,rfl,rfl,_,rfl,?_⟩;have eqr:decide (V.int q=V.int r)=decide (q=r):=by
  rw[Jt,Z',Z'];exact⟨λz=>by have:=V.int.inj z;omega,λz=>by rw[z]⟩
 rw[eqr];by_cases zq:q=r
 case neg=>
  rw[X' zq];refine hN x7 H (λa o _ ea=>ea) ?_
  rw[X8 zq];exact he
 case pos=>
  subst zq;rw[X_ rfl];have z1:=hq;rw[X9 rfl] at hN;have s2:ag H H:=λ_ _ z=>z
  have ei:tE (V.int c) (ks.map V.int)=decide ((c:Int)∈ks):=by
   unfold tE;rw[vi,Jt,J5,Z'];constructor
   ·rintro⟨x,hx,e⟩;have e:=e;rw[<- beq_iff_eq.mp e];exact hx
   ·intro hx;exact⟨c,hx,beq_self_eq_true (c:Int)⟩
  refine⟨_,rfl,_,rfl,t,_,rfl,.inr<|aM.of<|s2 _ _ ht,rfl,by rw[Km];exact ZG.mpr λ_ _=>rfl,_,rfl,?_⟩;rw[ei];by_cases z2:(c:Int)∈ks
  ·rw[X_ z2];refine hN x7 H (λa o _ ea=>ea) ?_
   rw[show nj f q ks n c L'=L' by unfold nj;rw[z1,X_ z2];rfl];exact s2 _ _ he
  ·rw[X' z2];refine⟨_,rfl,_,rfl,by show 1<=1000;decide,λa3 H3 s3 n3 e3=>?_⟩;refine⟨t,a3,_,_,rfl,rfl,s3 _ _<|s2 _ _ ht,e3,?_,λa4 H4 s4 e4=>?_⟩
   ·rw[Qb];have:=(Lh ⟨6,by decide⟩ ks hf λc hc=>by have:=P' ks hf c hc;revert this;simp;omega);have:=this;show _+1<=Xj;rw[ZR];omega
   have Hf:ks.map V.int++[V.int c]=(ks++[(c:Int)]).map V.int:=by rw[Q3];rfl
   rw[Hf] at e4;refine⟨a4,ks++[(c:Int)],rfl,aM.of e4,?_,λa5 ms H5 s5 n5 e5 pm pw=>?_⟩
   ·have:=(Lh ⟨6,by decide⟩ ks hf λc hc=>by have:=P' ks hf c hc;revert this;simp;omega);have:=this;rw[Qj];show _+1<64;omega
   obtain rfl:=QrW hf h6 z2 pm pw;refine⟨a5,_,rfl,.inl ⟨aA.of e5,λa6 H6 s6 n6 e6=>?_⟩⟩;have B8:=((((s2.trans s3).trans s4).trans s5).trans s6);have GV:=B8 _ _ he;have hd6:=B8 _ _ hd;have ht6:=B8 _ _ ht;have OG:H6 a6=some (.tup<|((insI c ks).map (Ze:Int->Key)).map kV):=by
    rw[QD];exact e6
   have gd:cJ H6 d (.ref t) (some<|.int n):=.inr ⟨cf L,ks.map Ze,t,.inr ⟨o,hd6⟩,rfl,by rw[ek];exact ht6,by rw[AJ,Ep t1.nd hk];rfl⟩;refine⟨_,rfl,e,rfl,.inr ⟨_,.inl GV⟩,_,rfl,_,cJ.t GV OG,_,rfl,_,rfl,d,_,rfl,gd,(dZ L'<|insI c ks).getD 0,n,?_,rfl,?_⟩
   ·rw[AJ];cases dZ L' (insI c ks)<;>rfl
   ·refine⟨_,rfl,_,rfl,e,_,rfl,iA.t GV OG ?_,?_⟩
    ·rw[Ds,ZR];have:=t2.len;omega
    ·refine hN _ _ (λa o ne ea=>?_) ?_
     ·rw[QY ne];exact B8 _ _ ea
     ·rw[af,Qwv];unfold nj;rw[z1,X' z2];rfl
def kG(r:Nat)(φ:List Int->Int)(ks:List Int)(l:List (Int×Int)):Int:=sumZ (λp=>if p.1=(r:Int)/\¬p.2∈ks then φ (insI p.2 ks) else 0) l
def Ug:kG r φ ks (dP q w f)=if q=r then Nx f r φ ks w else 0:=by
 unfold kG dP;rw[LU,Y8];split
 ·rename_i z
  subst z;refine pL λc _=>?_
  by_cases z1:f q c=true
  ·rw[X9 z1,z1];by_cases z2:(c:Int)∈ks
   ·rw[X8 λz=>z.2 z2,X_ z2];rfl
   ·rw[X9 ⟨rfl,z2⟩,X' z2];rfl
  ·rw[Y4.mpr z1];rfl
 ·rename_i z
  refine CI (pL λc _=>?_)<|sumZ_zero<|Qv w;split
  ·exact X8 λ(y:q=(r:Int)/\¬(c:Int)∈ks)=>z (by have:=y.1;omega)
  ·rfl
def Qyv:∀{h:Nat},r<h->kG r φ ks (ae h w f)=Nx f r φ ks w:=by
 have out:∀h,h<=r->kG r φ ks (ae h w f)=0:=λh=>by
  induction h with
  |zero=>intro _;rfl
  |succ h ih=>
   intro hh;rw[vv];unfold kG;rw[pH];show kG r φ ks (ae h w f)+kG r φ ks (dP h w f)=0;rw[ih<|by omega,Ug,X8<|by omega];rfl
 intro h;induction h with
 |zero=>intro hh;omega
 |succ h ih=>
  intro hh;rw[vv];unfold kG;rw[pH];show kG r φ ks (ae h w f)+kG r φ ks (dP h w f)=_;rw[Ug];by_cases z:h=r
  ·rw[out h<|by omega];omega
  ·rw[ih<|by omega];omega
def QB1{K:Ws}(w6:w<=6)(hr:r<h)(B:Bf H0 b h w f)(s0:ag H0 H)(n0:H0 e=none)(hd:H d=some (.cE o<|.dT<|cf L))(he:H e=some (.dT<|cf L'))(ht:H t=some (.tup<|ks.map V.int))(hk:(ks,n)∈L)(t1:be r w L)(t2:be (r+1) w L')
  (hN:∀x5 x6 x7 H' iT,Kb e H H'->H' e=some (.dT<|cf iT)->be (r+1) w iT->L'.length<=iT.length->(∀φ,Tw φ iT=Tw φ L'+n*Nx f r φ ks w)->D.nx [some<|.ref b,some<|.ref d,some<|.int r,some<|.ref e,some<|.ref t,x5,x6,x7,x8] H') :
  Cw K D [some<|.ref b,some<|.ref d,some<|.int r,some<|.ref e,some<|.ref t,x5,x6,x7,x8] H:=by
 obtain⟨cc,ps,e1,e2,q⟩:=(B.same s0).at_;have de:=YB hd he nofun;have te:=YB ht he nofun;refine⟨_,rfl,b,_,_,_,rfl,rfl,aM.of e1,QX rfl,cc,rfl,⟨_,aM.of e2⟩,?_⟩;have lps:ps.length=(ae h w f).length:=by rw[q.length,Qb]
 refine Qx9 (xs:=ps) (λj σ H'=>∃x5 x6 x7 iT,σ=[some<|.ref b,some<|.ref d,some<|.int r,some<|.ref e,some<|.ref t,x5,x6,x7,x8]/\Kb e H H'/\H' e=some (.dT<|cf iT)/\be (r+1) w iT/\L'.length<=iT.length/\∀φ,Tw φ iT=Tw φ L'+n*kG r φ ks ((ae h w f).take j)) ⟨_,_,_,L',rfl,λ_ _ _ h=>h,he,t2,Qd _,λφ=>?_⟩ ?_ ?_ ?_
 ·show _=_+n*0;rw[DQ];omega
 ·rintro j σ H' _ ⟨x5,x6,x7,iT,rfl,kb,oO,t',ln,sm⟩;exact aM.of<|kb _ _ (YB e2 he nofun) e2
 ·rintro j y σ H' hj ⟨x5,x6,x7,iT,rfl,kb,oO,t',ln,sm⟩;have c_:=(QR.mp hj).1;obtain⟨p,hp⟩:∃p,(ae h w f)[j]? = some p:=⟨_,Qc<|by omega⟩
  obtain⟨qq,c,hqh,hc,hf,rfl⟩:=JS.mp<|Jb hp;obtain⟨dd,hd2,hD⟩:=q.get j y hj;rw[Qq,hp] at hd2;cases hd2;obtain⟨ay,rfl,ey⟩:∃ay,y=.ref ay/\H ay=some (.tup [.int qq,.int c]):=by
   cases hD with
   |tup e q=>cases q with
    |cons q1 q=>cases q with
     |cons q2 q=>cases q;cases q1;cases q2;exact⟨_,rfl,e⟩
  have ay':=YB ey he nofun;refine⟨ay,_,rfl,aM.of<|kb _ _ ay' ey,rfl,_,_,rfl,_,_,rfl,rfl,(QB0 w6 hc hf (kb _ _ de hd) oO (kb _ _ te ht) hk t1 t' λx7' H2 kb2 ud=>⟨_,_,_,_,rfl,kb.trans kb2,ud,?_,?_,λφ=>?_⟩)⟩
  ·split
   ·exact QzB w6 hc t1 hk t'
   ·exact t'
  ·refine QK ln ?_
   split
   ·exact Qv8 ..
   ·exact Qd _
  ·rw[ZV,hp];unfold kG;rw[pH,Int.mul_add,<- QDe];show _=_+n*((if qq=(r:Int)/\¬(c:Int)∈ks then φ (insI c ks) else 0)+0);have sm':Tw φ iT=Tw φ L'+n*sumZ (λp=>if p.1=(r:Int)/\¬p.2∈ks then φ (insI p.2 ks) else 0) ((ae h w f).take j):=sm φ;rw[<- sm',Yf];by_cases zq:qq=r
   ·subst zq;rw[X9 rfl,Qv7 t' φ,hf]
    congr 2
    by_cases zk:(c:Int)∈ks
    ·rw[X_ zk];exact(X8 λz=>z.2 zk).symm
    ·rw[X' zk];exact(X9 ⟨rfl,zk⟩).symm
   ·rw[X8 zq,X8 λz=>zq<|by omega,DQ,Yf]
 ·rintro σ H' ⟨x5,x6,x7,iT,rfl,kb,oO,t',ln,sm⟩;refine hN x5 x6 x7 H' iT kb oO t' ln λφ=>?_
  rw[sm φ,lps,Zh,Qyv hr]
def Qyz{K:Ws}(w6:w<=6)(hr:r<h)(B:Bf H0 b h w f)(s0:ag H0 H)(nd0:H0 d=none)(hd:H d=some (.dT<|cf L))(t1:be r w L)(hl:0<L.length)
  (hN:∀e x3 x4 x5 x6 x7 H' L',ag H0 H'->H0 e=none->H' e=some (.dT<|cf L')->be (r+1) w L'->0<L'.length->(∀φ,Tw φ L'=Tw (λks=>φ ks+Nx f r φ ks w) L)->D.nx [some<|.ref b,some<|.ref e,some<|.int r,x3,x4,x5,x6,x7,x8] H') :
  o1 K P W D [some<|.ref b,some<|.ref d,some<|.int r,x3,x4,x5,x6,x7,x8] H:=by
 refine⟨_,rfl,d,_,rfl,.inl hd,by rw[Ds];exact hl,t1.h9 P W,λe ne=>?_⟩;have Ce:H0 e=none:=by
  cases z:H0 e with
  |none=>rfl
  |some o=>rw[s0 _ _ z] at ne;cases ne
 have de:=QN hd ne;refine⟨_,rfl,d,_,rfl,by rw[QY de];exact hd,λo=>?_⟩;refine Vs (λi σ H'=>∃x4 x5 x6 x7 L',σ=[some<|.ref b,some<|.ref d,some<|.int r,some<|.ref e,x4,x5,x6,x7,x8]/\ag H0 H'/\H' d=some (.cE o<|.dT<|cf L)/\H' e=some (.dT<|cf L')/\be (r+1) w L'/\L.length<=L'.length/\∀φ,Tw φ L'=Tw φ L+sumZ (λp=>p.2*Nx f r φ p.1 w) (L.take i)) ⟨_,_,_,_,L,rfl,λa oo h0=>?_,af,?_,t1.mono,Qd _,λφ=>?_⟩ ?_ ?_ ?_
 ·rw[QY (λz=>by rw[z,nd0] at h0;cases h0),QY (λz=>by rw[z,Ce] at h0;cases h0)];exact s0 _ _ h0
 ·rw[QY<|iM de,af]
 ·show _=_+0;omega
 ·rintro i σ H' ⟨x4,x5,x6,x7,L',rfl,_,dB,_⟩;exact dB
 ·rintro i p a σ H' hp ha ⟨x4,x5,x6,x7,L',rfl,s',dB,oO,t',ln,sm⟩;obtain⟨ks,n,hL,rfl⟩:=P6 hp;have zI:H' a=some (.tup<|ks.map V.int):=by
   rw[show ks.map V.int=(ks.map (Ze:Int->Key)).map kV by rw[QD];rfl];exact ha
  refine QB1 w6 hr B s' Ce dB oO zI (Jb hL) t1 t' λx5' x6' x7' H2 iT kb ud t2 ln2 sm2=>⟨_,_,_,_,iT,rfl,Kb.base s' Ce kb,kb _ _ (YB dB oO nofun) dB,ud,t2,QK ln ln2,λφ=>?_⟩
  rw[sm2 φ,sm φ,ZV,hL,pH];show _=_+(_+(n*Nx f r φ ks w+0));rw[Yf,QDe]
 ·rintro σ H' ⟨x4,x5,x6,x7,L',rfl,s',dB,oO,t',ln,sm⟩;refine⟨_,rfl,hN e _ _ _ _ _ H' L' s' Ce oO t' (by omega) λφ=>?_⟩;rw[sm φ,Ds,Zh,RF];rfl
def jF{K:Ws}(hd:H d=some (.cE o<|.dT<|cf L))(hg:H g=some (.lst<|(iK m M).map V.int))(ht:H t=some (.tup<|ks.map V.int))(hk:(ks,n)∈L)(nd:(L.map (·.1)).Nodup)(hm:ks.length<=m)
  (hN:D.nx [some<|.ref b,some<|.ref d,x2,x3,some<|.ref t,x5,x6,x7,some<|.ref g]<|upd H g<|.lst<|(iK m<|M++[(ks,n)]).map V.int) :
  l6 K D [some<|.ref b,some<|.ref d,x2,x3,some<|.ref t,x5,x6,x7,some<|.ref g] H:=by
 have ek:(ks.map (Ze:Int->Key)).map kV=ks.map V.int:=by rw[QD];rfl
 have gd:cJ H d (.ref t) (some<|.int n):=.inr ⟨cf L,ks.map Ze,t,.inr ⟨o,hd⟩,rfl,by rw[ek];exact ht,by rw[AJ,Ep nd hk];rfl⟩;have lm:(ks.map V.int).length=ks.length:=Qb _;refine⟨_,rfl,_,rfl,t,_,rfl,.inr<|aM.of ht,g,_,_,_,rfl,rfl,aA.of hg,by rw[lm];exact QX (by rw[Qq,DC hm];rfl),_,rfl,_,rfl,d,_,rfl,gd,l7 M ks.length,n,rfl,rfl,?_⟩;refine⟨_,rfl,_,rfl,t,_,rfl,.inr<|aM.of ht,g,_,_,ks.length,rfl,rfl,hg,by rw[lm];exact AR (by rw[Qb,xU];omega),?_⟩;rw[<- QC9,V2 (p:=(ks,n))];exact hN
def QyA{K:Ws}(h6:h<=6)(w6:w<=6)(B:Bf H b h w f)
  (hN:∀t H',ag H H'->H t=none->H' t=some (.lst<|(bM f h w).map V.int)->D.rt (.ref t) H') :
  z4 K P W D [some<|.ref b,none,none,none,none,none,none,none,none] H:=by
 refine λp np=>⟨by decide,λa H2 s2 n2 e2=>⟨a,[],_,rfl,s2 _ _ af,e2,?_⟩⟩
 have s1:ag H (upd H2 p<|.dT<|cf [([],1)]):=λx oo hx=>by
  have xp:x≠p:=λz=>by rw[z,np] at hx;cases hx
  rw[QY xp];exact s2 _ _ (by rw[QY xp];exact hx)
 obtain⟨cc,ps,e1,_,_⟩:=(B.same s1).at_;have t0:be 0 w [([],1)]:=⟨JI.mpr ⟨Jy,Bm⟩,λq hq=>by
  rw[Qo.mp hq];exact⟨by decide,Qd _,λc hc=>nomatch hc⟩⟩
 refine⟨_,rfl,b,_,_,_,rfl,rfl,aM.of e1,QX rfl,h,rfl,by omega,by omega,?_⟩;rw[Qx];refine Eo (λr σ H'=>∃d x2 x3 x4 x5 x6 x7 L,σ=[some<|.ref b,some<|.ref d,x2,x3,x4,x5,x6,x7,none]/\ag H H'/\H d=none/\H' d=some (.dT<|cf L)/\be r w L/\0<L.length/\∀k,Tw (Ph f h w r k) L=Wc (ae h w f) h h 0 k) ⟨p,_,_,_,_,_,_,[([],1)],rfl,s1,np,af,t0,Nat.one_pos,λk=>?_⟩ ?_ ?_
 ·show 1*Ph f h w 0 k []+0=_;rw[Int.one_mul,Yf];rfl
 ·rintro r σ H' hr ⟨d,x2,x3,x4,x5,x6,x7,L,rfl,s',nd,hd,t',l',sm⟩;rw[show 0+r=(r:Int) by omega];refine Qyz w6 hr B s' nd hd t' l' λe x3 x4 x5 x6 x7 H3 L3 s3 n3 e3 t3 l3 sm3=>⟨e,_,_,_,_,_,_,L3,rfl,s3,n3,e3,t3,l3,λk=>?_⟩
  rw[sm3,<- sm k];exact QEv λq hq=>(QyJ w6 hr (t'.mem q hq).1).symm
 ·rintro σ H' ⟨d,x2,x3,x4,x5,x6,x7,L,rfl,s',nd,hd,t',l',sm⟩;obtain⟨cc,ps,e1,_,_⟩:=(B.same s').at_;refine⟨by decide,λa3 H3 s3 n3 e3=>?_⟩;refine⟨_,rfl,b,_,_,_,rfl,rfl,aM.of<|s3 _ _ e1,QX rfl,_,rfl,b,_,_,_,rfl,rfl,aM.of<|s3 _ _ e1,QX rfl,h,w,rfl,_,1,rfl,rfl,?_⟩;have em:((if w<(h:Int) then(w:Int) else h)+1).toNat=min h w+1:=by split<;>omega
  refine⟨a3,_,_,rfl,rfl,e3,by split<;>omega,by split<;>omega,by rw[em];show 1*_<=_;omega,λg H4 s4 n4 e4=>?_⟩;rw[em,Qr0] at e4;have N6:H g=none:=by
   cases z:H g with
   |none=>rfl
   |some oo=>rw[s3 _ _<|s' _ _ z] at n4;cases n4
  have dg:=YB (s4 _ _<|s3 _ _ hd) e4 nofun;refine⟨_,rfl,d,_,rfl,s4 _ _<|s3 _ _ hd,λo=>(Vs (λi σ H'=>∃x4,σ=[some<|.ref b,some<|.ref d,x2,x3,x4,x5,x6,x7,some<|.ref g]/\ag H H'/\H' d=some (.cE o<|.dT<|cf L)/\H' g=some (.lst<|(iK (min h w)<|L.take i).map V.int)) ⟨_,rfl,λx oo hx=>?_,af,?_⟩ ?_ ?_ ?_)⟩
  ·rw[QY (λz=>by rw[z,nd] at hx;cases hx)];exact s4 _ _<|s3 _ _<|s' _ _ hx
  ·rw[QY<|iM dg];exact e4
  ·rintro i σ H5 ⟨x4,rfl,_,zC,_⟩;exact zC
  ·rintro i q a σ H5 hq ha ⟨x4,rfl,s5,zC,Cj⟩;obtain⟨ks,n,hL,rfl⟩:=P6 hq;have zI:H5 a=some (.tup<|ks.map V.int):=by
    rw[show ks.map V.int=(ks.map (Ze:Int->Key)).map kV by rw[QD];rfl];exact ha
   obtain⟨hf,hl,hb⟩:=t'.mem _<|Jb hL;have lw:ks.length<=w:=Lh ⟨w,by omega⟩ ks hf hb;have hl:ks.length<=h:=hl;refine jF zC Cj zI (Jb hL) t'.nd (by omega) ⟨_,rfl,λx oo hx=>?_,?_,?_⟩
   ·rw[QY (λz=>by rw[z,N6] at hx;cases hx)];exact s5 _ _ hx
   ·rw[QY dg];exact zC
   ·rw[af,ZV,hL];rfl
  ·rintro σ H5 ⟨x4,rfl,s5,zC,Cj⟩;rw[Ds,Zh] at Cj;refine⟨_,rfl,hN g H5 s5 N6 ?_⟩;have:iK (min h w) L=bM f h w:=by
    refine ZZ λk _=>?_
    rw[<- QB2 f h w k L,sm k]
   rw[<- this];exact Cj
end Bx
end Rk
namespace L2
open PySem.Calls Dz
section
variable{X:Cx}
def Itk(d:Xb)(o:Xo)(kvs:List (Key×V)):It:=
 ⟨λi H=>H d=some (.cE o<|.dK kvs)/\i<kvs.length,λi H x H'=>H'=H/\∃p,kvs[i]? = some p/\x=kV p.1,λi H=>H d=some (.cE o<|.dK kvs)/\kvs.length<=i⟩
def Mc:∀{es:List XD}{vs:List (Key×Xd)},Pairs (aq P w) es vs->es.length=vs.length/\∀(i:Nat)(b:Key×Xd),vs[i]? = some b->∃e,es[i]? = some e/\(aq P w).is b.1 e.key=true
 |_,_,.nil=>⟨rfl,λi b h=>by simp at h⟩
 |_,_,.cons (e:=e) h1 h2 t=>by
  obtain⟨l,g⟩:=Mc t;refine⟨by rw[Qz,Qz,l],λi b h=>?_⟩;cases i with
  |zero=>simp at h;subst h;exact⟨e,rfl,h1⟩
  |succ i=>simp only[ME] at h ⊢;exact g i b h
def Qx0(h:(aq P w).is k v=true):RelV (kV k) v:=by
 rcases Z6 h with⟨i,t,rfl,rfl⟩ | ⟨x,t,rfl,rfl⟩
 ·exact⟨t,rfl⟩
 ·exact⟨t,rfl⟩
def QlU{K:Ws}(hd:o.ExactDict/\o.data=.dict es ep):Turn P w K tg (Itk d o kvs) [it] it (λi h=>h.IsKeyIter it d i es.size ep) where
 mem:=by simp
 obj:=λi h st b hb=>by
  have e:b=it:=by simpa using hb
  subst e;obtain⟨q,e,c,dt⟩:=st;exact⟨q,e,λv z=>by rw[dt] at z;cases z⟩
 keep:=λi h h' st k=>st.at λq e=>k it (by simp) q e
 item:=by
  intro X hP hw hK hc i XI s σ H E I hf st hg;obtain⟨hg,c_⟩:=hg;obtain⟨ho,z,y,xs,r,o',nF,i9,e1,e2,e3,ek,e4,e5⟩:=I.ar d _ hg;rw[ho] at e1;cases e1;rw[hd.2] at e3;cases e3;have zr:i<xs.length:=by rw[<- xX r];exact c_
  obtain⟨p,Hd,h1,h2⟩:=br r i xs[i]<|Qc zr;obtain⟨en,Ck,hk⟩:=(Mc e4).2 i xs[i]<|Qc zr;rw[Mu] at Ck;obtain⟨f0,f1,f2,f3,f4,f5⟩:=hf it (by simp);refine Wj st ⟨o,ho,e2,hd.2⟩ Ck λh' bH sb=>?_
  have I1:=I.turned (t':=s.toks) (λb q hb e=>(sb.2 b hb).trans e) f0 f1 f3 f4 f5;obtain⟨q,e,c,dt⟩:=id bH;exact⟨_,rfl,wZ e c dt (by decide) ⟨kV p.1,H,I1,by rw[h1];exact Qx0 hk,⟨rfl,p,Hd,rfl⟩,bH,λb hb=>(hf b hb).1⟩⟩
 done:=by
  intro X hP hw hK hc i XI s σ H E I hf st hg;obtain⟨hg,c_⟩:=hg;obtain⟨ho,z,y,xs,r,o',nF,i9,e1,e2,e3,ek,e4,e5⟩:=I.ar d _ hg;rw[ho] at e1;cases e1;rw[hd.2] at e3;cases e3;have hl:es.size=kvs.length:=by rw[<- Jd,(Mc e4).1,xX r]
  obtain⟨f0,f1,f2,f3,f4,f5⟩:=hf it (by simp);refine Wb (I.ok.hd hc) st ⟨o,ho,e2,hd.2⟩ (by omega) λh' sb=>⟨rfl,?_⟩
  exact I.turned (λb q hb e=>sb b q hb e) f0 f1 f3 f4 f5
 self:=λA i s Q E st q=>PQ st q
def QBm(td:TE):TI:=λσ H R=>td σ H λv H1=>∃d kvs,v=.ref d/\H1 d=some (.dK kvs)/\∀o,R (Itk d o kvs)<|upd H1 d<|.cE o<|.dK kvs
def Qse(hl:PE X l td):PI X tg l (QBm td):=by
 intro XI s σ H R I h;refine aD (hl XI s σ H _ I h) λv s1 ⟨x,H1,I1,r1,q1⟩=>?_
 obtain⟨d,kvs,e,hq,q⟩:=q1;subst e;cases r1;obtain⟨z,y,xs,r,o,es,ep,e1,e2,e3,ek,e4,e5⟩:=(I1.ar d _ hq);refine Vx y ⟨o,e1,e2,e3⟩ ?_
 have I2:Inv X XI σ (upd H1 d<|.cE o<|.dK kvs) { s1 with heap:=s1.heap,toks:=s1.toks }:=by
  refine I1.write (by rw[hq];exact Ju) (.inl rfl) (λb q hb z=>z) ⟨o,e1⟩ ⟨e1,z,y,xs,r,o,es,ep,e1,e2,e3,ek,e4,e5⟩
 refine⟨s1.heap.objs.size,[s1.heap.objs.size],_,_,_,rfl,I2.kept λb q e=>Qf _ e,QlU ⟨e2,e3⟩,⟨_,Qs _ rfl,rfl,rfl⟩,λb hb=>?_,q o⟩;have e:b=s1.heap.objs.size:=by simpa using hb
 subst e;exact I2.h_ (Qd _)<|I2.ar.fresh<|Qd _
end
end L2
namespace Rk
open L2 _root_.Rd
open Dl
open Rt
def RZ:Sp:=λvs H Q _=>∃(b:Xb)(h w:Nat)(f:Nat->Nat->Bool),vs=[.ref b]/\Dat H (.ref b) (bQ h w<|ae h w f)/\h<=6/\w<=6/\∀t H',ag H H'->H t=none->H' t=some (.lst<|(bM f h w).map V.int)->Q (.ref t) H'
def QDX(h w:Int)(cs:List (Int×Int)):nd (bQ h w cs)=true:=by
 show(true&&(true&&(gv (cs.map pairD)&&true)))=true;rw[ZP];rfl
def QEr(h:ZK true HS vs H Q Ex):RZ vs H Q Ex:=by
 obtain⟨A,pt,args,R,EX,dm,hp,q,⟨hh,w,f,rfl,h6,w6,hR⟩,k,_⟩:=h;cases q with
 |cons q1 q2=>
  cases q2;cases q1 with
  |@tup b xs ds nb e qq=>
   refine⟨b,hh,w,f,rfl,PZ _ _ (QDX _ _ _)<|DA.tup nb e qq,h6,w6,λt H' s n e'=>k _ hR _ H' ⟨λb o _ e=>s _ _ e,λp pp=>?_⟩ (uX dm s n e'<|Vw _) λ_=>oh n⟩;obtain⟨_,m,em⟩:=hp p pp;exact⟨m,s _ _ em⟩
section
variable{P:QB}{w:Jh}{K:Ws}{mg:Str->Option Xd}{base:ZF}
def Qxs(zD:mg "dict" = none)(F:aB P w K mg base "_law_counts_by_rows" y3)(T:aC mg) :
  au P w K mg base ax 1 "_law_counts_by_rows" RZ:=by
 refine gs ["_law_board", "_law_ways", "_law_row", "_law_later", "_law_taken", "_law_line", "_law_column", "_law_more", "_law_found"] 1 F λao A outer s H vs Q E nD hr h=>?_
 obtain⟨b,h,w,f,rfl,hb,h6,w6,k⟩:=h;have un:=hr.units;refine⟨_,QC (eD 1 nD<|Qsk (rH hr) (YY Qu) Je)
  (QC (rR Jj rfl (pO rfl T.range<|Ql (Z8 nV (pv 0) Je λ_ _=>rfl) Qu) (gh 2 nD)
   (QC (eD 3 nD<|Zg QmC rfl zD QyB<|Ql (pv 1) Qu)
  (QC (rR Jj rfl (Ul<|pv 1) (gh 4 nD)
   (Q6<|rR Jj rfl (C_<|Z8 nV (pv 0) Je λ_ _=>rfl) (pC rfl<|Zz (gh 5 nD)<|Zz (gh 6 nD) pK)
   (Q6<|gj (PW.pt<|Aw (Yw rj (pv 5) (pv 2)<|JL _)<|AX<|Yw Qiw (pv 6) (pv 4) rfl) (QC (eD 7 nD<|Zg JH rfl T.tuple Yc<|Ql (Z4 QmA rfl T.sorted L2.boot_sorted<|Ql (YR Uw (pv 4)<|YY<|Y6 (pv 6) Qu) Qu) Qu)
  (Q6<|Ur (rH hr) (pv 3) (pv 7) (YR pF (Qsl (rH hr) (pv 3) (pv 7) Je ⟨rfl,rfl,rfl,rfl⟩)<|Dw (rH hr) (pv 1) (pv 4) λ_ _=>rfl) rfl)) Yh)))
  (Q6<|eD 1 nD<|pv 3))))
  (QC (eD 8 nD<|YR Qw5 (Yi<|Y6 Je Qu)<|YR pF (Z4 (L8 rfl) rfl T.min IM<|Ql (Z8 nV (pv 0) Je λ_ _=>rfl)<|Ql (Z8 nV (pv 0) Je λ_ _=>rfl) Qu) Je)
  (QC (rR Jj rfl (Ul<|pv 1) (gh 4 nD)
   (Q6<|n8 (YR pF (Z8 Za (pv 8) (Z4 Yp rfl T.len kS<|Ql (pv 4) Qu) λ_ _=>rfl)<|Dw (rH hr) (pv 1) (pv 4) λ_ _=>rfl)<|C9 (pv 8) (Z4 Yp rfl T.len kS<|Ql (pv 4) Qu) A8))
  (Q6<|JZ<|pv 8)))),?_⟩
 exact Bx.QyA h6 w6 (Bf.of hb) k
def Qo1:(["_law_size", "_law_many"]:List Str).Nodup:=by decide
def QsS(F:aB P w K mg base "_law_most" QA5)(T:aC mg)
  (c1:au P w K mg base ax 1 "_law_counts_by_rows"<|ZK true HS) :
  au P w K mg base ax 2 "_law_most" (ZK false SQ):=by
 refine cZ ["_law_board", "_law_many"] 1 false F λao A outer s H E nD hr hU hI=>?_
 refine⟨_,QJ (ZH 1 (JV<|kT c1 hr<|YM (qv 0) Zq) nD)
  (Q7<|ZN<|Y9 (Qi5 rfl) Ue rfl T.max IL<|cF (Jf<|iu ["_law_size", "_law_many"] [none,some 1] (u5 rfl T.range<|Jf<|Y9 Bi AD rfl T.len kS<|cF (qp 1) Q8) λcl ex s3 H3 C=>⟨(ZX 0 Qo1 rfl (QM rfl)<|QV rfl),(jQ<|J8 Il rQ (QU<|YX Jm J6 (qp 1) (qp 0) λ_ _=>rfl) (QU Jg)<|JL _),(qv 0)⟩) Q8),λargs R EX h=>?_⟩
 obtain⟨b,rfl,o,hR⟩:=h;obtain⟨h,w,f⟩:=b;have hR:∀m,mi (ae h w f) h w m->R (.int m):=hR
 have ln:((bM f h w).map Qp).length=min h w+1:=by unfold bM;rw[Qb,Qb,Q5]
 refine⟨_,_,_,rfl,o.h6,o.w6,⟨by omega,by rw[ln];have:=o.h6;have:h<=6:=this;omega⟩,kg (λd=>match d with | .int k=>if 0<Wc (ae h w f) h h 0 k.toNat then some (.int k) else none | _=>none) (λd hd k1 k2 h1 h2=>?_) ?_⟩
 ·obtain⟨k,hk⟩:=J3.mp hd;obtain⟨wB,rfl⟩:=u7 hk;have wB:=wB;rw[ln,Qx] at wB;have h1:(if 0<Wc (ae h w f) h h 0 (0+(k:Int)).toNat then some (Qp<|0+k) else none)=none->k1:=h1;have h2:∀e,(if 0<Wc (ae h w f) h h 0 (0+(k:Int)).toNat then some (Qp<|0+k) else none)=some e->k2 e:=h2
  rw[show(0+(k:Int)).toNat=k by omega] at h1 h2;refine⟨.int<|Wc (ae h w f) h h 0 k,?_,?_⟩
  ·rw[show 0+k=(k:Int) by omega];exact QX (by unfold bM;rw[Qq,Qq,JP<|by omega];rfl)
  ·show if decide (0<Wc (ae h w f) h h 0 k)=true then k2 (.int<|0+k) else k1
   by_cases z:0<Wc (ae h w f) h h 0 k
   ·rw[X9<|X_ z];exact h2 _<|X9 z
   ·rw[X8<|by simpa using z];exact h1<|X8 z
 ·have e:(gX 0 (((bM f h w).map Qp).length:Int).toNat).filterMap (λd=>match d with | .int k=>if 0<Wc (ae h w f) h h 0 k.toNat then some (Qp k) else none | _=>none)=(((Qv<|min h w+1).filter λk=>decide (0<Wc (ae h w f) h h 0 k)).map λ(k:Nat)=>(k:Int)).map Qp:=by
   unfold gX;rw[Z9,QD,ln,Qx];refine uM λk hk=>?_
   show(if 0<Wc (ae h w f) h h 0 (0+(k:Int)).toNat then some (Qp<|0+k) else none)=if decide (0<Wc (ae h w f) h h 0 k)=true then some (Qp k) else none
   rw[show(0+(k:Int)).toNat=k by omega,show 0+k=(k:Int) by omega];by_cases z:0<Wc (ae h w f) h h 0 k
   ·rw[X9 z,X9<|X_ z]
   ·rw[X8 z,X8<|by simpa using z]
  rw[e];have mem:∀{k:Nat},k<=min h w->0<Wc (ae h w f) h h 0 k->(k:Int)∈((Qv<|min h w+1).filter λk=>decide (0<Wc (ae h w f) h h 0 k)).map λ(k:Nat)=>(k:Int):=λ{k} h1 h2=>Qh.mpr ⟨k,QF.mpr ⟨Jl.mpr<|by omega,X_ h2⟩,rfl⟩
  refine UB (MG<|mem (Q9 _) (by rw[Iz];decide)) λm hm GJ=>?_
  obtain⟨k,hk,rfl⟩:=Qh.mp hm;have hk:=QF.mp hk;refine hR k ⟨by have:=Jl.mp hk.1;omega,Y' hk.2,λj hj hp=>?_⟩;have:=GJ _<|mem hj hp;omega
end
abbrev QA9:Zo:=top 100
abbrev TV:Zo:=top 101
def SW:(["_law_row", "_law_column"]:List Str).Nodup:=by decide
def QA0:(["_law_number"]:List Str).Nodup:=by decide
def QA1:(["_law_row", "_law_desk", "_law_due"]:List Str).Nodup:=by decide
def Ic:R2:=λx y H Q=>∃i j,x=.str i/\y=.str j/\i.length+j.length<=Xj/\Q (.str<|i++j) H
def Uv:aI X (Xr .Add) Ic:=Ql9
def wR(b c m s p:Str):List (Key×V):=[(.inr "board",.str b),(.inr "counts",.str c),(.inr "most",.str m),(.inr "stand",.str s),(.inr "pieces",.str p)]
def QEX(k:Bo)(t:Str):Prop:=∃Ls,cD (ae k.h k.w k.f) Ls/\t=Qe (toString (Ls.length:Int))
def Po:Sp:=λvs H Q _=>∃(v:V)(k:Bo),vs=[v]/\DA N0 H v k.d/\k.ok/\∀t H' b c m s p,wQ k b->uA k c->w9 k m->qW k s->QEX k p->ag H H'->H t=none->H' t=some (.dK<|wR b c m s p)->Q (.ref t) H'
def Vm:∀{F:List (Int×Int)}{j:Nat},F.Pairwise a_->F[j]? = some c->F.drop (j+1)=F.filter λo=>decide (a_ c o)
 |[],j,_,h=>by simp at h
 |a::r,0,hp,h=>by
  simp at h;subst h;have hp:=EM.mp hp;rw[J7<|by simpa using λz=>Ar z z,EN.mpr λo ho=>X_<|hp.1 o ho];rfl
 |a::r,j+1,hp,h=>by
  have hp:=EM.mp hp;rw[J7<|by simpa using λz=>Ar z<|hp.1 c<|Jb h,<- Vm hp.2 h];rfl
def QxE(hp:cs.Pairwise a_)(hc:(aX cs S)[j]? = some c):jb (aX cs S) j=aX cs (S++[c]):=by
 have hm:=Jb hc;have tY:=(QF.mp hm).2;have hrb:=Y' (QH.mp tY).1;unfold jb;rw[show(aX cs S).getD j (0,0)=c by rw[Qi,hc];rfl,Vm (F:=aX cs S) (hp.sublist S9) hc];unfold aX;rw[Tz,Tz,UQ];refine List.filter_congr λo _=>?_
 rw[Jt,Q3];simp only[Js,Bool.not_eq_true',Z',decide_eq_false_iff_not,QP,JU,A_,Qo,not_or];unfold a_;constructor
 ·rintro⟨⟨⟨h1,h2⟩,h3⟩,h4,h5⟩;exact⟨by omega,h5,h2⟩
 ·rintro⟨h1,h2,h3⟩;exact⟨⟨⟨by omega,h3⟩,.inl<|by omega⟩,by omega,h2⟩
def Qdn:∀{l:List α},(∀x∈l,f x=g x)->l.findSome? f=l.findSome? g
 |[],_=>rfl
 |a::l,h=>by rw[Z0,Z0,h a<|Q1 ..,Qdn λx hx=>h x<|QQ _ hx]
def VF(f:α->Option β)(g:β->γ):∀l:List α,(l.findSome? f).map g=l.findSome? λx=>(f x).map g
 |[]=>rfl
 |a::l=>by
  rw[Z0,Z0];cases f a with
  |none=>exact VF f g l
  |some b=>rfl
def QtC{α:Type}(f:α->Option β)(d:α)(l:List α):l.findSome? f=(Qv l.length).findSome? λj=>f (l.getD j d):=by
 conv=>lhs;rw[show l=(Qv l.length).map (λi=>l.getD i d) by rw[uV (λx=>x) d l,List.map_id'],List.findSome?_map]
 rfl
def QiN(g:α->List β):∀l:List α,(l.flatMap g)[0]? = l.findSome? λc=>(g c)[0]?
 |[]=>rfl
 |a::l=>by
  rw[Zl,Z0];cases e:g a with
  |nil=>exact QiN g l
  |cons b r=>rfl
def TL(g:GB h w cs):∀(m:Nat)(S:List (Int×Int)),(dh cs m S)[0]? = (kd m<|aX cs S).map (S++·)
 |0,S=>by show some S=some (S++[]);rw[J4]
 |m+1,S=>by
  show((aX cs S).flatMap λc=>dh cs m<|S++[c])[0]? = ((Qv (aX cs S).length).findSome?<|kJ m<|aX cs S).map (S++·);rw[QiN,QtC _ (0,0),VF];refine Qdn λj hj=>?_
  have hj:=Jl.mp hj;have ec:(aX cs S)[j]? = some ((aX cs S).getD j (0,0)):=by rw[Qi,Qc hj];rfl
  rw[TL g m];unfold kJ;rw[QxE g.kA ec,Option.map_map]
  congr 1
  funext L
  rw[LP];rfl
def QBq(g:GB h w cs)(m:Nat):kd m cs=(fL cs m)[0]? := by
 have e:=TL g m [];have ef:aX cs []=cs:=EN.mpr λc hc=>by
  have:=g.r0 c hc;show(decide (0<=c.1) && !decide (c.2∈[]))=true;rw[X_ this];rfl
 rw[Uc,ef] at e;rw[e];cases kd m cs<;>rfl
def Qto{Tt:List (List (Int×Int))}(h:cD cs Ls)(ht:∀L∈Tt,mH cs L)(cv:∀y∈cs,∃L∈Tt,y∈L)(od:Tt.Pairwise kL):Ls.length=Tt.length:=by
 let le:Int×Int->Int×Int->Bool:=λa b => !decide (a_ b a)
 have tot:=λa b=>by
  show(!decide (a_ b a) || !decide (a_ a b))=true;by_cases z:a_ b a
  ·rw[X' λy=>Ar z y,KP,Bool.or_true]
  ·rw[X' z];rfl
 have tr:=λa b c h1 h2=>by
  have h1:(!decide (a_ b a))=true:=h1;have h2:(!decide (a_ c b))=true:=h2;show(!decide (a_ c a))=true;have h1:¬a_ b a:=by simpa using h1
  have h2:¬a_ c b:=by simpa using h2
  have:¬a_ c a:=λz=>by
   rcases Uo a b with q | q | q
   ·exact h2<|QAc z q
   ·rw[q] at z;exact h2 z
   ·exact h1 q
  simpa using this
 have nf:=List.pairwise_flatten.mp h.nd;have pm:=λl=>List.mergeSort_perm l le
 have kA:∀l∈Ls,(l.mergeSort le).Pairwise a_:=λl hl=>by
  have s1:=List.pairwise_mergeSort tr tot l;have s2:=(pm l).nodup_iff.mpr<|nf.1 l hl;refine(s1.and s2).imp λ{a b} z=>?_
  have z1:¬a_ b a:=by have:=z.1;have this:=this;simpa using this
  rcases Uo a b with q | q | q
  ·exact q
  ·exact Z_ q z.2
  ·exact Z_ q z1
 have pc:=λl hl=>h.pce hl (pm l)<|kA l hl
 have yR:(Ls.map λl=>l.mergeSort le).Nodup:=by
  refine Mv _ (λa b z e=>?_)<|QDc.mp nf.2;cases a with
  |nil=>exact h.ne _ z.1 rfl
  |cons y a=>
   have:=(pm b).mem_iff.mp<|e ▸ (pm (y::a)).mem_iff.mpr (.head _);exact z.2.2 y (.head _) y this rfl
 have yQ:=od.imp λ{a b} z (e:a=b)=>Ll a (by rw[<- e] at z;exact z)
 have pp:=(JN yR yQ).mpr λS=>by
  constructor
  ·intro hS;obtain⟨l,hl,rfl⟩:=Qh.mp hS;obtain⟨y,hy⟩:=Qji _ (pc l hl).ne;have yc:=(h.mem y).mp<|ye.mpr ⟨l,hl,(pm l).mem_iff.mp hy⟩;obtain⟨L,hL,yL⟩:=cv y yc;rw[(pc l hl).same (ht L hL) hy yL];exact hL
  ·intro hS;obtain⟨y,hy⟩:=Qji _ (ht S hS).ne;obtain⟨x,xc,hx⟩:=(ht S hS).has;have yc:=((hx y).mp hy).right;obtain⟨l,hl,yl⟩:=ye.mp<|(h.mem y).mpr yc;rw[(ht S hS).same (pc l hl) hy<|(pm l).mem_iff.mpr yl];exact Qh.mpr ⟨l,hl,rfl⟩
 have:=pp.length_eq;rw[Qb] at this;exact this
def T2(p:Int×Int):kQ p=Qe (toString p.1)++Qe "-" ++ Qe (toString p.2):=by
 unfold kQ;have e:∀x:Str,r8++x=x:=λx=>by
  obtain⟨c⟩:=x;show Str.mk (#[]++c)=Str.mk c;rw[Array.empty_append]
 rw[e]
section
variable{P:QB}{w:Jh}{K:Ws}{mg:Str->Option Xd}{base:ZF}
def QAT(F:aB P w K mg base "_law_answers" QA9)(Tg:aC mg)
  (c1:au P w K mg base ax 2 "_law_most"<|ZK false SQ)
  (c2:au P w K mg base ax 8 "_law_first_stand"<|ZK false<|AA 6)
  (c3:au P w K mg base ax 1 "_law_counts_by_rows"<|ZK true HS)
  (c4:au P w K mg base ax 1 "_law_text" Kc)
  (c5:au P w K mg base ax 1 "_law_lots"<|ZK false QA3) :
  au P w K mg base ax 10 "_law_answers" Po:=by
 refine gs ["_law_board", "_law_size", "_law_stand", "_law_many", "_law_found"] 1 F λao A outer s H vs Q E nD hr h=>?_
 obtain⟨v,k,rfl,hv,o,q⟩:=h;refine' ⟨_,QC (eD 1 nD<|Zr c1 hr<|Ql (pv 0) Qu) ?p1,?rd⟩
 case p1=>
  show aV _ _ _;refine' QC (IU<|eD 2 nD<|gZ WA WD WE pJ Zf<|Ql (Y5 (M:=["_law_row", "_law_column"]) (cap:=[none,none]) (g:=Bv K 2<|rG (Yj 0)<|rG (Yj 1) Bu) (tc:=oj) (te:=cY Ic (cY Ic (fZ (λxs H Q=>∃i:Int,xs=[.int i]/\i.natAbs.log2<1920/\Q (.str<|toString i) H)<|ZM (Yu 0) bD)<|tC<|.str<|Qe "-")<|fZ (λxs H Q=>∃i:Int,xs=[.int i]/\i.natAbs.log2<1920/\Q (.str<|toString i) H)<|ZM (Yu 1) bD) rfl (by rfl) (C_<|Zr c2 hr<|Ql (Z8 nV (pv 0) Je λ_ _=>rfl)<|Ql (pv 1) Qu) λcl ex s3 H3 C=>⟨pC rfl<|Zz (YF (i:=0) SW rfl (QM rfl)<|QV rfl)<|Zz (YF (i:=1) SW rfl (QM rfl)<|QV rfl) pK,kX,YR Uv (YR Uv (Zg ZJ (by rfl) Tg.str mr<|Ql (pv 0) Qu) Zf)<|Zg ZJ (by rfl) Tg.str mr<|Ql (pv 1) Qu⟩) Qu) ?_
  show aV _ _ _;refine' QC (IU<|gj (Yw rj (pv 1) Je<|JL _) (Q6<|eD 2 nD Zf) Yh) ?_
  show aV _ _ _;refine' QC (IU<|eD 3 nD<|gZ WA WD WE pJ Zf<|Ql (Y5 (M:=["_law_number"]) (cap:=[none]) (g:=Yj 0) (tc:=oj) (te:=fZ (λxs H Q=>∃i:Int,xs=[.int i]/\i.natAbs.log2<1920/\Q (.str<|toString i) H)<|ZM (Yu 0) bD) rfl (by rfl) (AV<|Zr c3 hr<|Ql (pv 0) Qu) λcl ex s3 H3 C=>⟨YF (i:=0) QA0 rfl (QM rfl)<|QV rfl,kX,(Zg ZJ (by rfl) Tg.str mr<|Ql (pv 0) Qu)⟩) Qu) ?_
  show aV _ _ _;refine' QC ?d1 ?_
  case d1=>
   refine' ir (i:=4) (hs:=?hh) (hf:=?hf) ?hN ?hi ?hx ?he
   case hN=>exact nD
   case hi=>exact rfl
   case hx=>exact QM rfl
   case hf=>exact QM rfl
   case hh=>kernel_rfl
   case he=>exact(Uj (vn Zf (Zr c4 hr<|Ql (pv 0) Qu)<|vn Zf (pv 3)<|vn Zf (Zg ZJ (by rfl) Tg.str mr<|Ql (pv 1) Qu)<|vn Zf (pv 2) K7) rfl rfl (by decide)<|by decide)
  show aV _ _ _;refine' QC (Ur (rH hr) (pv 4) Zf (Zg ZJ (by rfl) Tg.str mr<|Ql (Zr c5 hr<|Ql (pv 0) Qu) Qu) rfl) ?_
  show aV _ _ _;exact Q6<|JZ<|pv 4
 case rd=>
  obtain⟨a,c,ps,rfl,e1,e2,dc⟩:=uI hv;have h6:=o.h6;have w6:=o.w6;have Gi:=(Aa o).2.1;refine⟨_,rfl,g9 (args:=[.v k.d]) (λd=>∃m:Nat,d=.int m/\mi (ae k.h k.w k.f) k.h k.w m) XF (.cons hv .nil) ⟨k,rfl,o,λm g=>⟨m,rfl,g⟩⟩ (λd hd v1 H1 s1 dv _=>?_) λ_ z=>z.elim⟩;obtain⟨m,rfl,gm⟩:=hd;cases dv;have m6:m<=6:=by have:=gm.1;omega
  obtain⟨L,eL⟩:=Vu o gm;obtain⟨lL,bL⟩:=HJ o eL;have ef:=(QBq (CS o) m).trans eL;refine⟨λσ' H'=>σ'=[some<|.ref a,some<|.int m,some<|.str<|jR (Qe " ")<|L.map kQ,none,none]/\ag H H',?_,?_⟩
  ·refine⟨rfl,_,rfl,a,_,2,.ref c,rfl,rfl,aM.of<|s1 _ _ e1,QX (j:=2) rfl,_,rfl,g9 (args:=[.v<|.tuple<|(ae k.h k.w k.f).map pairD,.v<|.int m]) (λd=>d=f6 L) XF (.cons (dc.same s1)<|.cons (.int _) .nil) ⟨_,ae k.h k.w k.f,m,rfl,.inl rfl,Gi,m6,Qd _,by rw[ef];rfl⟩ (λd hd v2 H2 s2 dv _=>?_) λ_ z=>z.elim⟩;subst hd;obtain⟨a2,yH,rfl,ea,dp⟩:∃a2 yH,v2=.ref a2/\H2 a2=some (.tup yH)/\aJ N0 H2 yH (L.map pairD):=by
    cases dv with
    |tup _ e qq=>exact⟨_,_,rfl,e,qq⟩
   have lp:yH.length=L.length:=by rw[dp.length,Qb]
   refine⟨a2,rfl,⟨_,aM.of ea⟩,λp hp=>?_⟩;have Hk:∀i,i<L.length->∃c,yH[i]? = some (.ref c)/\H2 c=some (.tup [.int (L.getD i (0,0)).1,.int (L.getD i (0,0)).2]):=λi hi=>by
    obtain⟨x,hx,zR⟩:=dp.get i (pairD<|L.getD i (0,0)) (by rw[Qq,Qi,Qc hi];rfl);cases zR with
    |tup _ e qq=>cases qq with
     |cons qa qq=>cases qq with
      |cons qb qq=>cases qq;cases qa;cases qb;exact⟨_,hx,e⟩
   have gL:∀i,i<L.length->L.getD i (0,0)∈L:=λi hi=>by
    rw[Qi,Qc hi];exact JQ _
   have ll:∀x y:Str,(x++y).length=x.length+y.length:=λx y=>by
    show(x++y).cps.size=_;rw[Bd,L5];rfl
   refine mF L.length (ZY<|by omega) (λi=>some<|.str<|kQ<|L.getD i (0,0)) hp (λi H3 hi s3=>?_) (λH3 s3=>?_) λH3 s3 e3=>?_
   ·obtain⟨c,hc,ec⟩:=Hk i hi;refine⟨⟨_,_,aM.of<|s3 _ _ ea,hc⟩,λx H4 ⟨eH,ev⟩ kn kv h1 h2=>?_⟩;subst eH;have ex:=ev _<|aM.of<|s3 _ _ ea;rw[hc] at ex;cases ex;have bd:=bL _<|gL i hi;have n1:=oi (n:=(L.getD i (0,0)).1) bd.1 (by omega);have n2:=oi (n:=(L.getD i (0,0)).2) bd.2.2.1 (by omega);have h2:=h2 _ rfl H4 λ_ _ z=>z
    rw[T2] at h2;have l1:(Qe "-").length=1:=by decide
    refine⟨c,_,rfl,aM.of<|s3 _ _ ec,rfl,_,_,rfl,_,_,rfl,rfl,trivial,?_⟩;refine(df (B:=kn H4) ?_:if true=true then _ else kn H4);exact⟨_,rfl,_,rfl,pN bd.1<|by omega,_,_,rfl,rfl,JG<|ZY<|by omega,_,rfl,_,rfl,pN bd.2.2.1<|by omega,_,_,rfl,rfl,JG<|ZY (by rw[ll];omega),h2⟩
   ·exact⟨_,aM.of<|s3 _ _ ea,by omega⟩
   ·rw[ny] at e3;have e4:H3 p=some (.lst<|(L.map kQ).map V.str):=by
     rw[e3,QD];exact congrArg (λz=>some<|HO.lst z)<|uV (λn=>V.str<|kQ n) (0,0) L
    refine⟨_,p,_,rfl,rfl,aA.of e4,vc (B:=70) (λy hy=>?_) ?_,rfl,(s1.trans s2).trans s3⟩
    ·obtain⟨n,hn,rfl⟩:=Qh.mp hy;exact Vj<|bL n hn
    ·rw[Qb,lL];show _*70+_*1<=_;omega
  rintro σ' H2 ⟨rfl,s2⟩;refine⟨λσ' H'=>∃st,qW k st/\σ'=[some<|.ref a,some<|.int m,some<|.str st,none,none]/\ag H H',?_,?_⟩
  ·refine⟨_,rfl,rfl,_,rfl,?_⟩;by_cases z:m=0
   ·rw[show decide (V.int (m:Int)=V.int 0)=true from X_ (by rw[z];rfl)];refine df ⟨_,⟨m,L,gm,eL,?_⟩,rfl,s2⟩;rw[X9 (by cases L with | nil=>rfl | cons x y=>rw[z] at lL;cases lL)]
   ·rw[show decide (V.int (m:Int)=V.int 0)=false from X' λe=>z (by have:=V.int.inj e;omega)];refine dO ⟨_,⟨m,L,gm,eL,?_⟩,rfl,s2⟩;rw[X8];cases L with
    |nil=>exact Z_ lL.symm z
    |cons x y=>exact λz=>nomatch z
  rintro σ' H3 ⟨st,fJ,rfl,s3⟩;refine⟨λσ' H'=>∃ct,uA k ct/\σ'=[some<|.ref a,some<|.int m,some<|.str st,some<|.str ct,none]/\ag H H',?_,?_⟩
  ·refine⟨rfl,_,rfl,g9 (fr:=true) (args:=[.v k.d]) (λd=>d=.list ((bM k.f k.h k.w).map Qp)) XF (.cons (hv.same s3) .nil) ⟨k.h,k.w,k.f,rfl,h6,w6,rfl⟩ (λd hd v4 H4 s4 dv fr=>?_) λ_ z=>z.elim⟩;subst hd;obtain⟨t,rfl,a1⟩:∃t,v4=.ref t/\H4 t=some (.lst<|(bM k.f k.h k.w).map V.int):=by
    cases dv with
    |lst _ e qq=>exact⟨_,rfl,by rw[A6 qq] at e;exact e⟩
   refine⟨t,rfl,⟨_,aA.of a1⟩,λp hp=>?_⟩;have lc:(bM k.f k.h k.w).length=min k.h k.w+1:=by unfold bM;rw[Qb,Q5]
   have nn:=IP (f:=k.f) o.h6 o.w6;have at_:∀i,i<(bM k.f k.h k.w).length->((bM k.f k.h k.w).map V.int)[i]? = some (.int<|(bM k.f k.h k.w).getD i 0):=λi hi=>by
    rw[Qq,Qi,Qc hi];rfl
   have gi:∀i,i<(bM k.f k.h k.w).length->(bM k.f k.h k.w).getD i 0∈bM k.f k.h k.w:=λi hi=>by
    rw[Qi,Qc hi];exact JQ _
   refine mF (bM k.f k.h k.w).length (ZY<|by omega) (λi=>some<|.str<|Qe<|toString<|(bM k.f k.h k.w).getD i 0) hp (λi H2 hi s2=>?_) (λH2 s2=>?_) λH2 s2 e3=>?_
   ·refine⟨⟨_,_,aA.of<|s2 _ _ a1,at_ i hi⟩,λx H3 ⟨eH,ev⟩ kn kv h1 h2=>?_⟩;subst eH;have ex:=ev _<|aA.of<|s2 _ _ a1;rw[at_ i hi] at ex;cases ex;refine⟨trivial,?_⟩;refine(df (B:=kn H3) ?_:if true=true then _ else kn H3);have nb:=nn _<|gi i hi;exact⟨_,rfl,_,rfl,T1 nb.1 nb.2,h2 _ rfl H3 λ_ _ z=>z⟩
   ·exact⟨_,aA.of<|s2 _ _ a1,by rw[Qb];exact Qd _⟩
   ·rw[ny] at e3;have e4:H2 p=some (.lst<|((bM k.f k.h k.w).map λn=>Qe<|toString n).map V.str):=by
     rw[e3,QD];exact congrArg (λz=>some<|HO.lst z)<|uV (λn=>V.str<|Qe<|toString n) 0<|bM k.f k.h k.w
    refine⟨_,p,_,rfl,rfl,aA.of e4,vc (B:=34) (λy hy=>?_) ?_,_,rfl,rfl,(s3.trans s4).trans s2⟩
    ·obtain⟨n,hn,rfl⟩:=Qh.mp hy;have nb:=nn n hn;exact oi nb.1 (by omega)
    ·rw[Qb,lc];show _*34+_*1<=_;omega
  rintro σ' H4 ⟨ct,hct,rfl,s4⟩;have up:∀{p:Xb}{H':Hp},ag H H'->H' p=none->H p=none:=λ{p H'} s' h=>by
   cases e:H p with
   |none=>rfl
   |some u=>rw[s' _ _ e] at h;cases h
  intro p np;have sp:ag H4 (upd H4 p<|.dK []):=JA np;refine⟨_,rfl,.ref a,k,rfl,(hv.same s4).same sp,o,λH5 s5=>⟨_,rfl,⟨_,rfl,_,rfl,pN (by omega)<|by omega,⟨_,rfl,s5 _ _ af,[(.inr<|Qe "board",.str<|nR k.h k.w<|ae k.h k.w k.f),(.inr<|Qe "counts",.str ct),(.inr<|Qe "most",.str<|Qe<|toString (m:Int)),(.inr<|Qe "stand",.str st)],rfl,by show 4<=15;decide,?_⟩⟩⟩⟩;have NS:ag H (upd H5 p<|.dK<|uW [] [(.inr<|Qe "board",.str<|nR k.h k.w<|ae k.h k.w k.f),(.inr<|Qe "counts",.str ct),(.inr<|Qe "most",.str<|Qe<|toString (m:Int)),(.inr<|Qe "stand",.str st)]):=λx u e=>by
   rw[QY<|QN e<|up s4 np];exact s5 _ _<|sp _ _<|s4 _ _ e
  refine⟨_,rfl,g9 (args:=[.v k.d]) (λd=>∃Ls,cD (ae k.h k.w k.f) Ls/\d=.int (Ls.length:Nat)) XF (.cons (hv.same NS) .nil) ⟨_,_,_,rfl,Aa o,λLs hL=>⟨Ls,hL,rfl⟩⟩ (λd hd v6 H6 s6 dv _=>?_) λ_ z=>z.elim⟩;obtain⟨Ls,hL,rfl⟩:=hd;cases dv;have lf:=VE hL<|(Aa o).1.imp jO;have lk:=VC hL;refine⟨_,rfl,pN (by omega)<|by omega,⟨_,rfl,p,_,rfl,iA.k (k:=.inr<|Qe "pieces") (s6 _ _ af)<|Eg<|QK (ML _ _) (by show 0+4<=1000;decide),⟨_,rfl,?_⟩⟩⟩;refine q p _ _ _ _ _ _ rfl hct ⟨m,gm,rfl⟩ fJ ⟨Ls,hL,rfl⟩ (λx u e=>?_) (up s4 np) ?_
  ·rw[QY<|QN e<|up s4 np];exact s6 _ _<|NS _ _ e
  ·rw[af]
   kernel_rfl
end
end Rk


namespace Rk
open L2 _root_.Rd
open Dl
open Rt
def kB(a b:Str):Xc:=.tuple [.str a,.str b]
def k8(e:H t=some (.tup [.str a,.str b]))(ha:Ji (.str a)=true)(hb:Ji (.str b)=true):Dat H (.ref t) (kB a b):=.tup e<|.cons (.str _ ha)<|.cons (.str _ hb) .nil
def xI:Qy (kB a b) (kB a b)=true:=by
 unfold kB;simp[Qy,Yt]
def AW(h:u+60<cLine):u+min (kB a b).depth (kB c d).depth<cLine:=by
 have:(kB a b).depth<=60:=by unfold kB;simp[YU,Yn]
 omega
def QFG:R2:=λx y H Q=>∃dx dy,Dat H x dx/\Dat H y dy/\min dx.depth dy.depth<=50/\Q (.bl<|Qy dx dy) H
def QAG(hu:X.A.units+60<cLine):aI X (Xl .Eq) QFG:=λXI s σ H x y v u Q I rx ry ⟨dx,dy,q1,q2,dp,q⟩=>Sn XI s σ H x y v u Q I rx ry ⟨dx,dy,q1,q2,by omega,q⟩
def QDI(a b c d:Str):min (kB a b).depth (kB c d).depth<=50:=by
 have:(kB a b).depth<=50:=by unfold kB;simp[YU,Yn]
 omega
def A4{n:Int}(h0:0<=n):gc (Qe<|toString n)=true:=by
 obtain⟨m,rfl⟩:=ZU h0;refine A2.mpr λc hc=>?_
 have hc:=hc;rw[PySem.W.KIN.signs_num] at hc;obtain⟨d,hd,rfl⟩:=Qh.mp hc;have:=Qh1 (by decide) (by decide) hd;have:=(QH.mp this).2;have:=Y' this;exact JK (this) (by decide)
structure HD (k:Bo) (i:Nat) (z t:Str) (R:Bo->Str->Prop):Prop where
 row:kf (.str z)=some (.alone<|5+i)
 tell:Ay (.alone<|5+i)=some R
 one:∀u,R k u->u=t
 lz:Ji (.str z)=true
 sz:z.length<=3000
 N9:Ji (.str t)=true
def QCg(o:k.ok)(hb:wQ k b)(hc:uA k c)(hm:w9 k m)(hs:qW k s)(hp:QEX k p):∀i,i<5->∃z t R,(wR b c m s p)[i]? = some (.inr z,.str t)/\jc (wR b c m s p) (.inr z)=some (.str t)/\HD k i z t R
 |0,_=>⟨_,_,wQ,rfl,by kernel_rfl,by kernel_rfl,rfl,λu h=>h.trans hb.symm,by decide,by decide,by have hb:=hb;rw[hb];exact UL _ o.h1⟩
 |1,_=>⟨_,_,uA,rfl,by kernel_rfl,by kernel_rfl,rfl,λu h=>h.trans hc.symm,by decide,by decide,by
   have hc:=hc;rw[hc];refine A3 (Kz (by decide) λt ht=>?_);obtain⟨n,hn,rfl⟩:=Qh.mp ht;exact A4 (IP o.h6 o.w6 n hn).1⟩
 |2,_=>by
  obtain⟨n,g,rfl⟩:=hm;exact⟨_,_,w9,rfl,by kernel_rfl,by kernel_rfl,rfl,λu ⟨n',g',e⟩=>by rw[e,QgO g' g],by decide,by decide,A3<|A4<|by omega⟩
 |3,_=>by
  obtain⟨n,L,g,eL,hs⟩:=hs;refine⟨_,_,qW,rfl,by kernel_rfl,by kernel_rfl,rfl,λu ⟨n',L',g',OI,e⟩=>?_,by decide,by decide,?_⟩
  ·have en:=QgO g' g;subst en;rw[eL] at OI;cases OI;rw[e,hs]
  ·rw[hs];have bL:=(HJ o eL).2;split
   ·decide
   ·refine A3 (Kz (by decide) λt ht=>?_);obtain⟨q,hq,rfl⟩:=Qh.mp ht;rw[T2];have:=bL q hq;exact DJ (DJ (A4 this.1)<|by decide)<|A4 this.2.2.1
 |4,_=>by
  obtain⟨Ls,hL,rfl⟩:=hp;exact⟨_,_,Fj,rfl,by kernel_rfl,by kernel_rfl,rfl,λu ⟨Tt,h1,h2,h3,e⟩=>by rw[e,Qto hL h1 h2 h3],by decide,by decide,A3<|A4<|by omega⟩
 |i+5,h=>Z_ h (by omega)
def V9(D C:Xb):Sp:=λvs H Q _=>∃(s b l:Xb)(es:List Bo)(k:Bo)(v:V),vs=[.ref s,v]/\eE D C H s b l es k/\k.ok/\es.length<=900/\DA N0 H v k.d/\∀H',ag H H'->Q (.bl true) H'
def UD(h:i<5):¬rO (.alone<|5+i)=some dd:=by
 have:∀i:Fin 5,rO (.alone<|5+i.val)=none
  |0=>rfl | 1=>rfl | 2=>rfl | 3=>rfl | 4=>rfl
 rw[this ⟨i,h⟩];exact nofun
section
variable{P:QB}{w:Jh}{K:Ws}{mg:Str->Option Xd}{base:ZF}
def eE.same(x:eE D C H s b l es k)(z:ag H H'):eE D C H' s b l es k:=by
 obtain⟨dx,e⟩:=x.dk;exact⟨⟨dx,z _ _ e⟩,x.bn.same z⟩
def QsM(F:aB P w K mg base "_law_right" TV)(Tg:aC mg)
  (c1:au P w K mg base ax 10 "_law_answers" Po)
  (c2:au P w K mg base ax 10 "_law_said"<|Ka D C) :
  au P w K mg base ax 12 "_law_right" (V9 D C):=by
 refine gs ["_law_desk", "_law_board", "_law_due"] 2 F λao A outer s H vs Q E nD hr h=>?_
 obtain⟨sd,b,l,es,k,v,rfl,dk,o,hl,hv,q⟩:=h;have hU:=az.qD hr;refine⟨_,QC (eD 2 nD<|Zr c1 hr<|Ql (pv 1) Qu)<|Q6<|JZ<|Z4 VN rfl Tg.all RJ<|Ql (Y5 (cap:=[none,some 0,some 2]) rfl rfl (Qse<|pv 2) λcl ex s3 H3 C=>⟨YF (i:=0) QA1 rfl (QM rfl)<|QV rfl,kX,xH (QAG hU) (Zr c2 hr<|Ql (pv 1)<|Ql (pv 0) Qu) (YY<|Y6 Zf<|Y6 (Dw (rH hr) (pv 2) (pv 0) λ_ _=>rfl) Qu)<|JL _⟩) Qu,?_⟩;refine⟨_,rfl,v,k,rfl,hv,o,λt H1 tb tc tm ts tp hb hc hm hs hp s1 nt e1=>⟨_,rfl,t,_,rfl,e1,λob pl hpl=>?_⟩⟩;have s2:ag H (upd H1 t<|.cE ob<|.dK<|wR tb tc tm ts tp):=λx u e=>by rw[QY<|QN e nt];exact s1 _ _ e
 have e2:(upd H1 t<|.cE ob<|.dK<|wR tb tc tm ts tp) t=some (.cE ob<|.dK<|wR tb tc tm ts tp):=af;have at_:=QCg o hb hc hm hs hp;refine mF 5 (ZY<|by decide) (λ_=>some<|.bl true) hpl (λi H3 hi s3=>?_) (λH3 s3=>?_) λH3 s3 e3=>?_
 ·obtain⟨z,tt,R,ea,ev,X⟩:=at_ i hi;refine⟨⟨s3 _ _ e2,hi⟩,λx H4 ⟨eH,p,hp,ex⟩ kn kv h1 h2=>?_⟩;rw[ea] at hp;cases hp;subst eH ex;refine⟨⟨rfl,rfl,trivial⟩,?_⟩;refine(df ?_:if true=true then _ else kn H4);refine⟨_,rfl,_,rfl,sd,b,l,es,k,.str z,.str z,rfl,dk.same<|s2.trans s3,o,hl,.str _ X.lz,λt e=>by cases e;exact X.sz,⟨λh=>?_,λr dd wd h hd=>?_,λr dd h hd=>?_,λr R' u h hR hu t5 H5 s5 e5=>?_⟩⟩
  ·rw[X.row] at h;cases h
  ·rw[X.row] at h;cases h;exact Z_ hd<|UD hi
  ·rw[X.row] at h;cases h;exact Z_ hd<|UD hi
  ·rw[X.row] at h;cases h;rw[X.tell] at hR;cases hR;have eu:=X.one u hu;subst eu;refine⟨_,rfl,_,rfl,t,.str u,rfl,.inl ⟨_,.inr z,.inr ⟨ob,s5 _ _<|s3 _ _ e2⟩,rfl,ev.symm⟩,by show 2<=1000;decide,λt6 H6 s6 _ e6=>?_⟩;refine⟨_,_,k8 (s6 _ _ e5) (by decide) X.N9,k8 e6 (by decide) X.N9,QDI _ _ _ _,?_⟩;rw[xI];exact h2 _ rfl H6<|s5.trans s6
 ·exact⟨s3 _ _ e2,Qd _⟩
 ·have e4:H3 pl=some (.lst<|[true,true,true,true,true].map V.bl):=by rw[e3];rfl
  exact⟨pl,_,rfl,aA.of e4,rfl,q H3<|s2.trans s3⟩
end
def Qtu:eA l z=none↔z∉l:=by
 unfold eA;rw[List.findIdx?_eq_none_iff];constructor
 ·intro h hz;have:=h z hz;simp at this
 ·intro h x hx;exact X' λe=>h<|e ▸ hx
def Qs8(h:z∈nZ):eA ji z=none:=by
 have:∀z∈nZ,eA ji z=none:=by decide
 exact this z h
def Qil(hj:eA nZ z=some j):q_ (z::ns)=if kP ns=true then some (.place j (iI<|ns.getD 0 fM)<|iI<|ns.getD 1 fM) else none:=by
 have hz:=Classical.byContradiction λh=>by rw[Qtu.mpr h] at hj;cases hj
 show(match eA ji z,ns with | some i,[]=>some (Rw.alone i) | _,ns=>match eA nZ z with | some j=>if kP ns=true then some (.place j (iI<|ns.getD 0 fM)<|iI<|ns.getD 1 fM) else none | none=>none)=_;rw[Qs8 hz,hj]
def QiB{n:Int}(h0:0<=n)(h1:n<100):(Qe<|toString n).length<=2/\gc (Qe<|toString n)=true:=by
 obtain⟨j,rfl⟩:=ZU h0;have:∀j:Fin 100,(Qe<|toString (j.val:Int)).length<=2/\gc (Qe<|toString (j.val:Int))=true:=by decide
 exact this ⟨j,by omega⟩
def UR(hw:wd.length<=10/\gc wd=true)(nl:ns.length<=2)(nb:∀n∈ns,0<=n/\n<100):(pd wd ns).length<=20/\gc (pd wd ns)=true:=by
 refine⟨?_,Kz (by decide) λt ht=>?_⟩
 ·show(QjA _ _).length<=20;rw[MC];refine QK (StrLaws.join_length_le _ _) ?_
  have l1:=λn hn=>(QiB (nb n hn).1 (nb n hn).2).1
  match ns,nl,l1 with
  |[],_,_=>show wd.length+0+(0+1)*1<=20;omega
  |[a],_,l1=>
   have:=l1 a<|Q1 ..;show wd.length+((Qe<|toString a).length+0)+(1+1)*1<=20;omega
  |[a,b],_,l1=>
   have h1:=l1 a<|Q1 ..;have h2:=l1 b<|QQ _<|Q1 ..;show wd.length+((Qe<|toString a).length+((Qe<|toString b).length+0))+(2+1)*1<=20;omega
  |_::_::_::_,h,_=>exact Z_ h (by simp)
 ·rcases Qt.mp ht with rfl | ht
  ·exact hw.2
  ·obtain⟨n,hn,rfl⟩:=Qh.mp ht;exact(QiB (nb n hn).1 (nb n hn).2).2
def QFV:Qe " " = ⟨#[32]⟩:=by decide
def Wn{n:Int}(h0:0<=n):32∉(Qe<|toString n).cps.toList:=λhc=>by
 obtain⟨m,rfl⟩:=ZU h0;have hc:=hc;rw[PySem.W.KIN.signs_num] at hc;obtain⟨d,hd,e⟩:=Qh.mp hc;have:=Qh1 (by decide) (by decide) hd;have:=Y' (QH.mp this).1;have:48<=d.toNat:=this;omega
def SX(h0:0<=n)(h1:n<100):rJ (Qe<|toString n)=true/\iI (Qe<|toString n)=n:=by
 obtain⟨m,rfl⟩:=ZU h0;refine⟨X_<|Qh.mpr ⟨m,Jl.mpr<|by omega,rfl⟩,?_⟩;unfold iI;rw[PySem.W.KIN.num_reads (by omega)<|by omega];rfl
def QBn(g:oQ wd ns)(nb:∀n∈ns,0<=n/\n<100):∃(d:a9)(r:Rw),d.wd=wd/\d.jY=ns.map Qp/\kf (.str<|pd wd ns)=some r/\rO r=some d/\(pd wd ns).length<=20/\gc (pd wd ns)=true:=by
 rcases g with⟨rfl,hw⟩ | ⟨x,y,rfl,hw⟩
 ·simp only[Qt,Jy,or_false] at hw;rcases hw with rfl | rfl | rfl | rfl | rfl
  ·exact⟨.row,.alone 0,rfl,rfl,by kernel_rfl,rfl,by decide,by decide⟩
  ·exact⟨.col,.alone 1,rfl,rfl,by kernel_rfl,rfl,by decide,by decide⟩
  ·exact⟨.turn,.alone 2,rfl,rfl,by kernel_rfl,rfl,by decide,by decide⟩
  ·exact⟨.rest,.alone 3,rfl,rfl,by kernel_rfl,rfl,by decide,by decide⟩
  ·exact⟨.bz,.alone 4,rfl,rfl,by kernel_rfl,rfl,by decide,by decide⟩
 ·have bx:=nb x<|.head _;have bY:=nb y<|.tail _<|.head _;have ix:=SX bx.1 bx.2;have iy:=SX bY.1 bY.2;have sp:∀wd:Str,32∉wd.cps.toList->YE (pd wd [x,y]) (Qe " ")=[wd,Qe<|toString x,Qe<|toString y]:=λwd h=>by
   refine QlY λp hp=>?_
   simp only[JU,A_,Qt,Jy,or_false] at hp;rcases hp with rfl | rfl | rfl
   ·exact h
   ·exact Wn bx.1
   ·exact Wn bY.1
  have two:kP [Qe<|toString x,Qe<|toString y]=true:=by
   unfold kP;rw[Bg,Bg,ix.1,iy.1];rfl
  rcases hw with rfl | rfl
  ·refine⟨.put (.int x)<|.int y,.place 0 x y,rfl,rfl,?_,rfl,UR (by decide) (Qd 2) nb⟩;show q_ (YE _ _)=_;rw[sp _<|by decide,Qil (j:=0)<|by decide,two];show some (Rw.place 0 (iI<|Qe<|toString x)<|iI<|Qe<|toString y)=_;rw[ix.2,iy.2]
  ·refine⟨.take (.int x)<|.int y,.place 1 x y,rfl,rfl,?_,rfl,UR (by decide) (Qd 2) nb⟩;show q_ (YE _ _)=_;rw[sp _<|by decide,Qil (j:=1)<|by decide,two];show some (Rw.place 1 (iI<|Qe<|toString x)<|iI<|Qe<|toString y)=_;rw[ix.2,iy.2]
def bE.keep(F:Xb->Prop)(x:bE C H b l es k)(kp:∀a o,¬F a->H a=some o->H' a=some o)(nb:¬F b)(nl:¬F l)(nt:∀a ys,H a=some (.tup ys)->¬F a):bE C H' b l es k:=by
 obtain⟨dx,v,xs,e1,e2,d1,d2⟩:=x.at_;have tp:=λa ys e=>kp a _ (nt a ys e) e
 exact⟨dx,v,xs,kp _ _ nb e1,kp _ _ nl e2,pe tp d1,uU tp d2⟩
def fq.keep(F:Xb->Prop)(x:fq H r es k)(kp:∀a o,¬F a->H a=some o->H' a=some o)(nr:¬F r)(nt:∀a ys,H a=some (.tup ys)->¬F a):fq H' r es k:=by
 obtain⟨xs,v,e,d2,d1⟩:=x.at_;have tp:=λa ys e=>kp a _ (nt a ys e) e
 exact⟨xs,v,kp _ _ nr e,uU tp d2,pe tp d1⟩
def fq.same(x:fq H r es k)(s:ag H H'):fq H' r es k:=x.keep (λ_=>False) (λa o _ e=>s a o e) id λ_ _ _=>id
def fN(S:Bool->List Bo×Bo)(i:Bool)(s:List Bo×Bo):Bool->List Bo×Bo:=λj=>if j=i then s else S j
def QAW(h:∀x∈es++[k],x.ok):∀x∈(bF d es k).1++[(bF d es k).2],x.ok:=by
 cases hd:ez d es k with
 |some wd=>rw[Er hd];exact h
 |none=>
  rw[Bb hd];by_cases hu:d.wd = "undo"
  ·have e:=Ld hu;subst e;cases es with
   |nil=>cases hd
   |cons a as=>
    obtain⟨ep,kl,ee⟩:∃ep kl,a::as=ep++[kl]:=⟨(a::as).dropLast,(a::as).getLast<|by simp,(JE _).symm⟩
    rw[ee] at h ⊢;have en:mj .bz (ep++[kl]) k=(ep,kl):=by
     show((ep++[kl]).dropLast,(ep++[kl]).getLastD k)=_;simp
    rw[en];exact λx hx=>h x<|QP.mpr<|.inl hx
  ·rw[Lw hu];rw[Dq hu] at hd;intro x hx;rcases QP.mp hx with hx | hx
   ·exact h x hx
   ·rw[Qo.mp hx];exact Qta (h k<|by simp) hd
def QxH(h:es.length<=n):(bF d es k).1.length<=n+1:=by
 cases hd:ez d es k with
 |some wd=>rw[Er hd];exact Es h
 |none=>
  rw[Bb hd];by_cases hu:d.wd = "undo"
  ·have e:=Ld hu;subst e;show es.dropLast.length<=n+1;rw[UP];omega
  ·rw[Lw hu];rw[Qj];show es.length+1<=n+1;omega
def QFq:TE:=λ_ H Q=>∀r H' v,ag H H'->H r=none->H' r=some (.lst [v])->DA N0 H' v B0.d->Q (.ref r) H'
def Sy{j1 p1 j2 p2 x3 p3 x4 p4 p5}:PE X (.List [.Tuple [.Constant (.int 1) j1 p1,.Constant (.int 1) j2 p2,.Tuple [] x3 p3] x4 p4] p5) QFq:=by
 refine PE.imp (Yi<|Y6 (YY<|Y6 Je<|Y6 Je<|Y6 (YY Qu) Qu) Qu) λσ H Q h=>?_
 refine⟨by decide,λt1 H1 s1 n1 a1=>⟨by show 3<=1000;decide,λt2 H2 s2 n2 a2=>⟨by show 1<=1000;decide,λr H3 s3 n3 a3=>?_⟩⟩⟩;refine h r H3 (.ref t2) ((s1.trans s2).trans s3) ?_ a3<|.tup (λz=>z) (s3 _ _ a2)<|.cons (.int _)<|.cons (.int _)<|.cons (.tup (λz=>z) (s3 _ _<|s2 _ _ a1) .nil) .nil
 cases z:H r with
 |none=>rfl
 |some o=>rw[s2 _ _<|s1 _ _ z] at n3;cases n3
def bI(i:Bool):Int:=if i then 1 else 0
def l_(f:Bool->Xb)(i:Bool):gb [V.ref<|f false,V.ref<|f true] (bI i)=some (.ref<|f i):=by
 cases i
 ·exact QX rfl
 ·exact QX rfl
def QFh:Option Str->Str×Str
 |some wd=>("refused",wd)
 |none=>("told", "ok")
def eE.keep(F:Xb->Prop)(x:eE D C H s b l es k)(kp:∀a o,¬F a->H a=some o->H' a=some o)(ns:¬F s)(nb:¬F b)(nl:¬F l)(nt:∀a ys,H a=some (.tup ys)->¬F a):eE D C H' s b l es k:=by
 obtain⟨dx,e⟩:=x.dk;exact⟨⟨dx,kp _ _ ns e⟩,x.bn.keep F kp nb nl nt⟩
structure Fu (H:Hp) (dl rl:Xb) (s b l r:Bool->Xb):Prop where
 d0:∀i j,s i≠b j
 d1:∀i,b i≠b (!i)
 d2:∀i,l i≠l (!i)
 d3:∀i,r i≠r (!i)
 d4:∀i j,l i≠r j
 d5:∀i,dl≠l i/\dl≠r i/\rl≠l i/\rl≠r i
 ns:∀i,H (s i)=none
 nb:∀i,H (b i)=none
 nl:∀i,H (l i)=none
 nr:∀i,H (r i)=none
structure Wl (D C:Xb) (H0 H:Hp) (dl rl:Xb) (s b l r:Bool->Xb) (S:Bool->List Bo×Bo) (n:Nat):Prop where
 hd:H dl=some (.lst [.ref<|s false,.ref<|s true])
 hr:H rl=some (.lst [.ref<|r false,.ref<|r true])
 dk:∀i,eE D C H (s i) (b i) (l i) (S i).1 (S i).2
 rw:∀i,fq H (r i) (S i).1 (S i).2
 ok:∀i,∀k∈(S i).1++[(S i).2],k.ok
 len:∀i,(S i).1.length<=n
 sm:ag H0 H
section
variable{D C:Xb}{H0 H H' sD:Hp}{dl rl:Xb}{s b l r:Bool->Xb}{S:Bool->List Bo×Bo}{n:Nat}
def Wl.same(x:Wl D C H0 H dl rl s b l r S n)(z:ag H H'):Wl D C H0 H' dl rl s b l r S n:=⟨z _ _ x.hd,z _ _ x.hr,λi=>(x.dk i).same z,λi=>(x.rw i).same z,x.ok,x.len,x.sm.trans z⟩
def Wl.oF(x:Wl D C H0 H dl rl s b l r S n)(i:Bool):(S i).2.ok:=x.ok i _ (by simp)
def Wl.zV(T:Fu H0 dl rl s b l r)(x:Wl D C H0 H dl rl s b l r S n)(k5:K1 (r w) H H')(j:Bool):eE D C H' (s j) (b j) (l j) (S j).1 (S j).2:=by
 obtain⟨xs,v,er,_,_⟩:=(x.rw w).at_;obtain⟨dx,v',Fw,e1,e2,_,_⟩:=(x.dk j).bn.at_;obtain⟨zR,e0⟩:=(x.dk j).dk;exact(x.dk j).keep (λa=>a=r w) (λa o h e=>k5 a o h e) (YB e0 er nofun) (YB e1 er nofun) (T.d4 j w) λa ys e=>YB e er nofun
def Wl.step(T:Fu H0 dl rl s b l r)(x:Wl D C H0 H dl rl s b l r S n)(w:Bool)(d:a9)(k5:K1 (r w) H H')(R5:fq H' (r w) (bF d (S w).1 (S w).2).1 (bF d (S w).1 (S w).2).2)
  (k6:K2 (b w) (l w) H' sD)(D6:eE D C sD (s w) (b w) (l w) (bF d (S w).1 (S w).2).1 (bF d (S w).1 (S w).2).2):Wl D C H0 sD dl rl s b l r (fN S w<|bF d (S w).1 (S w).2) (n+1):=by
 obtain⟨dx,v',Fw,e1,e2,_,_⟩:=(x.zV T k5 w).bn.at_;have eb:=k5 _ _ (T.d5 w).2.1 x.hd;have er:=k5 _ _ (T.d5 w).2.2.2 x.hr;have nt:∀a ys,H' a=some (.tup ys)->¬(a=b w∨a=l w):=λa ys e z=>by
  rcases z with z | z
  ·exact YB e e1 nofun z
  ·exact YB e e2 nofun z
 have nt4:∀a ys,H a=some (.tup ys)->¬a=r w:=λa ys e=>by
  obtain⟨xs,v,er,_,_⟩:=(x.rw w).at_;exact YB e er nofun
 have Oa:∀a o,¬(a=b w∨a=l w)->H' a=some o->sD a=some o:=λa o h e=>k6 a o (λz=>h<|.inl z) (λz=>h<|.inr z) e
 have ew:∀j,¬j=w->(!j)=w:=λj hj=>by cases j<;>cases w<;>first | rfl | exact Z_ rfl hj
 have rn:∀j,fq H' (r j) (fN S w (bF d (S w).1 (S w).2) j).1 (fN S w (bF d (S w).1 (S w).2) j).2:=λj=>by
  unfold fN;by_cases hj:j=w
  ·rw[X9 hj,hj];exact R5
  ·rw[X8 hj];refine(x.rw j).keep (λa=>a=r w) (λa o h e=>k5 a o h e) ?_ nt4
   have:=T.d3 j;rw[ew j hj] at this;exact this
 refine⟨k6 _ _ (YB eb e1 nofun) (T.d5 w).1 eb,k6 _ _ (YB er e1 nofun) (T.d5 w).2.2.1 er,λj=>?_,λj=>?_,λj=>?_,λj=>?_,λa u e=>?_⟩
 ·unfold fN;by_cases hj:j=w
  ·rw[X9 hj,hj];exact D6
  ·rw[X8 hj];have ej:=ew j hj;obtain⟨zR,v'',xs'',f1,f2,_,_⟩:=(x.zV T k5 j).bn.at_;obtain⟨nG,f0⟩:=(x.zV T k5 j).dk;refine(x.zV T k5 j).keep (λa=>a=b w∨a=l w) Oa (λz=>?_) (λz=>?_) (λz=>?_) nt
   ·rcases z with z | z
    ·exact T.d0 j w z
    ·exact YB f0 e2 nofun z
   ·rcases z with z | z
    ·have:=T.d1 j;rw[ej] at this;exact this z
    ·exact YB f1 e2 nofun z
   ·rcases z with z | z
    ·exact YB f2 e1 nofun z
    ·have:=T.d2 j;rw[ej] at this;exact this z
 ·obtain⟨xs,v,f,_,_⟩:=(rn j).at_;refine(rn j).keep (λa=>a=b w∨a=l w) Oa (λz=>?_) nt;rcases z with z | z
  ·exact YB f e1 nofun z
  ·exact T.d4 w j z.symm
 ·unfold fN;by_cases hj:j=w
  ·rw[X9 hj];exact QAW<|x.ok w
  ·rw[X8 hj];exact x.ok j
 ·unfold fN;by_cases hj:j=w
  ·rw[X9 hj];exact QxH<|x.len w
  ·rw[X8 hj];exact Es<|x.len j
 ·exact k6 _ _ (λz=>by rw[z,T.nb w] at e;cases e) (λz=>by rw[z,T.nl w] at e;cases e) (k5 _ _ (λz=>by rw[z,T.nr w] at e;cases e)<|x.sm _ _ e)
end
def QxG(h:rO r=some d):Ay r=none:=by
 rcases r with i | ⟨j,n,m⟩
 ·have:∀i:Fin 10,(rO<|.alone i).isNone=true∨(Ay<|.alone i).isNone=true:=by decide
  by_cases z:i<10
  ·rcases this ⟨i,z⟩ with e | e
   ·rw[h] at e;cases e
   ·exact Option.isNone_iff_eq_none.mp e
  ·obtain⟨k,rfl⟩:∃k,i=k+10:=⟨i - 10,by omega⟩
   cases h
 ·rfl
def Ra(g:oQ wd ns):wd.length<=10/\ns.length<=2:=by
 rcases g with⟨rfl,hw⟩ | ⟨x,y,rfl,hw⟩
 ·exact⟨(by
        have:∀z∈(["row", "column", "turn", "rest", "undo"]:List Str),z.length<=10:=by decide
        exact this _ hw),Q9 _⟩
 ·exact⟨(by rcases hw with rfl | rfl<;>decide),Qd _⟩
def T6:∀ns:List Int,aJ N0 H (ns.map V.int) (ns.map Qp)
 |[]=>.nil
 |_::ns=>.cons (.int _)<|T6 ns
def QFy(h:qW B0 u):u=Qe "none" := by
 obtain⟨m,L,_,e,rfl⟩:=h;cases m with
 |zero=>cases e;rfl
 |succ m=>
  have:∀X:List<|List (Int×Int),(X.flatMap λS=>(aX [] S).map λc=>S++[c])=[]:=λX=>by
   induction X with
   |nil=>rfl
   |cons a l ih=>rw[Zl,ih];rfl
  have e:(((fL [] m).flatMap λS=>(aX [] S).map λc=>S++[c]))[0]? = some L:=e;rw[this] at e;cases e
section
variable{P:QB}{w:Jh}{K:Ws}{mg:Str->Option Xd}{base:ZF}
def n9:Yx ["_law_script", "_law_desks", "_law_rows", "_law_number", "_law_pot_here", "_law_which", "_law_word", "_law_told", "_law_due", "_law_found"] ["_law_script"] (Q4 sQ):=⟨rfl,rfl,rfl,by decide,rfl,by decide,by decide⟩
def nN(K:(L2.St->Hp->Prop)->Prop)(h:∀N,K N->t { D with nx:=N } σ H)(k:K<|u D):gY t u D σ H:=h _ k
def Df(K:(L2.St->Hp->Prop)->Prop)(h:∀N,K N->t1 { D with nx:=t2 { D with nx:=N } } σ H)(k:K<|u D):gY t1 (gY t2 u) D σ H:=h _ k
def QBx{t:TS}(K:(L2.St->Hp->Prop)->Prop)(h:∀E:Ends,K E.nx->t E (σ.set i<|some v) H)(k:K D.nx):Yj i v σ H λσ2 H2=>t D σ2 H2:=h D k
def QAQ{f D C:Xb}{fd:Z3}(F:iw K "law" "law" sQ f fd)(Tg:aC mg)(GD:pT P w K mg base 3 D "Desk"<|UY D C)
  (c1:au P w K mg base ax 1 "_law_cell_at"<|V7 K)
  (c2:au P w K mg base ax 1 "_law_pot" Pp)
  (c3:au P w K mg base ax 1 "_law_take" Ec)
  (c4:au P w K mg base ax 3 "_law_good_deed" RV)
  (c5:au P w K mg base ax 4 "_law_kept" RY)
  (c6:au P w K mg base ax 1 "_law_row_of" UZ)
  (c7:au P w K mg base ax 12 "_law_right"<|V9 D C)
  (c8:au P w K mg base ax 10 "_law_said"<|Ka D C)
  (c9:au P w K mg base ax 1 "_law_text" Kc) :
  aO P w K mg base ax 13 f fd ["_law_script"] (J' K):=by
 refine F.ok n9 (λvs H Q E h=>?_) λao A outer s H vs Q E hr h=>?_
 ·obtain⟨a,ns,rfl,_⟩:=h;rfl
 ·obtain⟨a,ns,rfl,hS,hlen,k⟩:=h;have hU:=az.qD hr;refine' ⟨_,QC (eD 1 n9.nd<|Yi<|Y6 (IS GD hr)<|Y6 (IS GD hr) Qu) ?p1,?rd⟩
  case p1=>
   show aV _ _ _;refine' QC ?a1 ?_
   case a1=>
    refine' ir (i:=2) (hs:=?hh) (hf:=?hf) ?hN ?hi ?hx ?he
    case hN=>exact n9.nd
    case hi=>exact rfl
    case hx=>exact QM rfl
    case hf=>exact QM rfl
    case hh=>kernel_rfl
    case he=>exact Yi<|Y6 Sy<|Y6 Sy Qu
   show aV _ _ _;refine' QC (gj (PW.pt<|H_ (Yw Aq (Zr c8 hr<|Ql (Z8 Za (pv 1) Je λ_ _=>rfl)<|Ql Zf Qu) (YY<|Y6 Zf<|Y6 Zf Qu)<|JL _)<|IV<|Yw Aq (Zr c8 hr<|Ql (Z8 Za (pv 1) Je λ_ _=>rfl)<|Ql Zf Qu) (YY<|Y6 Zf<|Y6 Zf Qu)<|JL _) (Q6<|JZ uJ) Yh) ?_
   show aV _ _ _;refine' QC (rR Jj rfl (pO (by rfl) Tg.range<|Ql (Z4 (Qp5 rfl) (by rfl) Tg.max IL<|Ql Je<|Ql (Z4 (L8 rfl) (by rfl) Tg.min IM<|Ql (Z4 Yp (by rfl) Tg.len kS<|Ql (pv 0) Qu)<|Ql Je Qu) Qu) Qu) (gh 3 n9.nd) ?body) ?_
   case body=>
    show aV _ _ _;refine' QC (eD 4 n9.nd<|Zr c2 hr<|Ql (Zr c1 hr<|Ql (pv 0)<|Ql (pv 3) Qu) Qu) ?_
    show aV _ _ _;refine' QC (eD 5 n9.nd<|Zg D2 (by rfl) Tg.int rN<|Ql (xH rj (Zr c3 hr<|Ql (pv 4)<|Ql Je Qu) Je<|JL _) Qu) ?_
    show aV _ _ _;refine' QC (n8 (Zr c4 hr<|Ql (pv 4)<|Ql (Z8 Za (Z8 Za (pv 2) (pv 5) λ_ _=>rfl) (rm rT Je) λ_ _=>rfl) Qu)<|pC rfl<|Zz (gh 6 n9.nd)<|Zz (gh 7 n9.nd) pK) ?_
    show aV _ _ _;refine' QC (eD 8 n9.nd<|Zr c5 hr<|Ql (Z8 Za (pv 2) (pv 5) λ_ _=>rfl)<|Ql (pv 6)<|Ql (Zg EL (by rfl) Tg.list DN<|Ql (pv 7) Qu) Qu) ?_
    show aV _ _ _;refine' QC (eD 9 n9.nd<|Zr c8 hr<|Ql (Z8 Za (pv 1) (pv 5) λ_ _=>rfl)<|Ql (Zr c6 hr<|Ql (pv 6)<|Ql (pv 7) Qu) Qu) ?_
    show aV _ _ _;refine' QC (gj (Yw Aq (pv 9) (Z8 Za (Yi<|Y6 (YY<|Y6 Zf<|Y6 (pv 8) Qu)<|Y6 (YY<|Y6 Zf<|Y6 Zf Qu) Qu) (Zg D2 (by rfl) Tg.int rN<|Ql (xH Sr (pv 8) xw<|JL _) Qu) λ_ _=>rfl)<|JL _) (Q6<|JZ uJ) Yh) ?_
    show aV _ _ _;refine' QC (gj (xx<|Dd<|Zr c7 hr<|Ql (Z8 Za (pv 1) (pv 5) λ_ _=>rfl)<|Ql (Z8 Za (Z8 Za (pv 2) (pv 5) λ_ _=>rfl) (rm rT Je) λ_ _=>rfl) Qu) (Q6<|JZ uJ) Yh) ?_
    show aV _ _ _;exact Q6<|gj (Yw Aq (Zr c8 hr<|Ql (Z8 Za (pv 1) (YR mn Je<|pv 5) λ_ _=>rfl)<|Ql Zf Qu) (YY<|Y6 Zf<|Y6 (Zr c9 hr<|Ql (Z8 Za (Z8 Za (pv 2) (YR mn Je<|pv 5) λ_ _=>rfl) (rm rT Je) λ_ _=>rfl) Qu) Qu)<|JL _) (Q6<|JZ uJ) Yh
   show aV _ _ _;exact Q6<|JZ<|IQ (Zr c7 hr<|Ql (Z8 Za (pv 1) Je λ_ _=>rfl)<|Ql (Z8 Za (Z8 Za (pv 2) Je λ_ _=>rfl) (rm rT Je) λ_ _=>rfl) Qu)<|IT<|Zr c7 hr<|Ql (Z8 Za (pv 1) Je λ_ _=>rfl)<|Ql (Z8 Za (Z8 Za (pv 2) Je λ_ _=>rfl) (rm rT Je) λ_ _=>rfl) Qu
  case rd=>
   refine Df (λN=>∀dl rl sd b l r H6,Fu H dl rl sd b l r->Wl D C H H6 dl rl sd b l r (λ_=>([],B0)) 0->N [some<|.ref a,some<|.ref dl,some<|.ref rl,none,none,none,none,none,none,none] H6) (λN k=>?_) ?_
   intro s0 nG Ga tj ne0;refine⟨s0,nG,rfl,af,λb0 l0 H1 qG Cb bU Nr=>⟨rfl,?_⟩⟩;have v9:ag H (upd (upd H nG<|.own s0) s0<|.ins D nG []):=λa u e=>by rw[QY<|QN e Ga,QY<|QN e tj];exact e
   have sR:ag H H1:=λa u e=>bU a u (QN e Ga)<|v9 a u e
   have up:∀{x:Xb}{G G':Hp},ag G G'->G' x=none->G x=none:=λ{x G G'} s' h=>by
    cases z:G x with
    |none=>rfl
    |some u=>rw[s' _ _ z] at h;cases h
   have sb0:s0≠b0:=QN af qG;have hb0:=up v9 qG;have GP:=up v9 Cb;intro s1 Hg Ca Ge ne1;refine⟨s1,Hg,rfl,af,λb1 l1 H2 N5 nl1 bC Nq=>⟨rfl,?_⟩⟩;have FP:ag H1 (upd (upd H1 Hg<|.own s1) s1<|.ins D Hg []):=λa u e=>by rw[QY<|QN e Ca,QY<|QN e Ge];exact e
   have eG:ag H1 H2:=λa u e=>bC a u (QN e Ca)<|FP a u e
   have sb1:s1≠b1:=QN af N5;have zG:=up FP N5;have Ot:=up FP nl1;have FQ:=sR.trans eG;obtain⟨dxs,es0⟩:=id Nr.dk;obtain⟨dxt,es1⟩:=id Nq.dk;obtain⟨OJ,va,xa,Cq,wJ,_,_⟩:=id Nr.bn.at_;obtain⟨dxb,vb,xb,eb1,OH,_,_⟩:=id Nq.bn.at_;refine⟨by show 2<=1000;decide,λdl H3 s3 n3 e3=>?_⟩;refine λr0 H4 v0 s4 n4 e4 q4 r1 H5 v1 s5 n5 e5 q5=>⟨by show 2<=1000;decide,λrl H6 s6 n6 e6=>?_⟩
   have Cd:H3 r1=none:=up s4 n5;have Gm:=s3 _ _<|eG _ _ wJ;have Gj:=s3 _ _ OH;have FO:=s5.trans s6;have B7:=s4.trans FO;have bb:b0≠b1:=QN Cq zG;have ll:l0≠l1:=QN wJ Ot;have rr:r0≠r1:=QN e4 n5;have dst:Fu H dl rl (λi=>if i then s1 else s0) (λi=>if i then b1 else b0) (λi=>if i then l1 else l0) (λi=>if i then r1 else r0):=by
    refine⟨λi j=>?_,λi=>?_,λi=>?_,λi=>?_,λi j=>?_,λi=>?_,λi=>?_,λi=>?_,λi=>?_,λi=>?_⟩
    ·cases i<;>cases j
     ·exact sb0
     ·exact QN es0 zG
     ·exact(QN Cq Ca).symm
     ·exact sb1
    ·cases i
     ·exact bb
     ·exact bb.symm
    ·cases i
     ·exact ll
     ·exact ll.symm
    ·cases i
     ·exact rr
     ·exact rr.symm
    ·cases i<;>cases j
     ·exact QN Gm n4
     ·exact QN Gm Cd
     ·exact QN Gj n4
     ·exact QN Gj Cd
    ·cases i
     ·exact⟨(QN (eG _ _ wJ) n3).symm,QN e3 n4,(QN (s5 _ _<|s4 _ _ Gm) n6).symm,(QN (s5 _ _ e4) n6).symm⟩
     ·exact⟨(QN OH n3).symm,QN e3 Cd,(QN (s5 _ _<|s4 _ _ Gj) n6).symm,(QN e5 n6).symm⟩
    ·cases i
     ·exact Ga
     ·exact up sR Ca
    ·cases i
     ·exact hb0
     ·exact up sR zG
    ·cases i
     ·exact GP
     ·exact up sR Ot
    ·cases i
     ·exact up (FQ.trans s3) n4
     ·exact up (FQ.trans s3) Cd
   have W0:Wl D C H H6 dl rl (λi=>if i then s1 else s0) (λi=>if i then b1 else b0) (λi=>if i then l1 else l0) (λi=>if i then r1 else r0) (λ_=>([],B0)) 0:=by
    refine⟨B7 _ _ e3,e6,λi=>?_,λi=>?_,λi k hk=>?_,λi=>Qd _,FQ.trans<|s3.trans B7⟩
    ·cases i
     ·exact(Nr.same eG).same<|s3.trans B7
     ·exact Nq.same<|s3.trans B7
    ·cases i
     ·exact⟨[],v0,FO _ _ e4,.nil,q4.same FO⟩
     ·exact⟨[],v1,s6 _ _ e5,.nil,q5.same s6⟩
    ·rw[Qo.mp hk];exact HL
   exact k _ _ _ _ _ _ _ dst W0;intro dl rl sd b l r H6 dst W0;refine nN (λN=>∀H',Wl D C H H' dl rl sd b l r (λ_=>([],B0)) 0->N [some<|.ref a,some<|.ref dl,some<|.ref rl,none,none,none,none,none,none,none] H') (λN k=>?_) ?_
   ·have ru:kf (.str<|Qe "undo")=some (.alone 4):=by kernel_rfl
    have rs:kf (.str<|Qe "stand")=some (.alone 8):=by kernel_rfl
    refine⟨_,rfl,dl,_,1,.ref<|sd true,rfl,rfl,aA.of W0.hd,QX (j:=1) rfl,sd true,b true,l true,[],B0,.str<|Qe "undo",.str<|Qe "undo",rfl,W0.dk true,HL,Q9 _,.str _<|by decide,λt e=>by cases e;decide,⟨λh=>?_,λrr dd wd h hd hw t H7 s7 e=>?_,λrr dd h hd hn=>?_,λrr R u h hR=>?_⟩⟩
    ·rw[ru] at h;cases h
    ·rw[ru] at h;cases h;cases hd;cases hw;refine⟨by show 2<=1000;decide,λt8 H8 s8 _ e8=>⟨_,_,k8 (s8 _ _ e) (by decide)<|by decide,k8 e8 (by decide)<|by decide,AW hU,_,rfl,?_⟩⟩;rw[xI];have W8:=W0.same<|s7.trans s8;refine dO ⟨_,rfl,dl,_,0,.ref<|sd false,rfl,rfl,aA.of W8.hd,QX (j:=0) rfl,sd false,b false,l false,[],B0,.str<|Qe "stand",.str<|Qe "stand",rfl,W8.dk false,HL,Q9 _,.str _<|by decide,λt e=>by cases e;decide,⟨λh=>?_,λrr dd wd h hd=>?_,λrr dd h hd=>?_,λrr R u h hR hu t H9 s9 e=>?_⟩⟩
     ·rw[rs] at h;cases h
     ·rw[rs] at h;cases h;cases hd
     ·rw[rs] at h;cases h;cases hd
     ·rw[rs] at h;cases h;cases hR;have eu:=QFy hu;subst eu;refine⟨by show 2<=1000;decide,λt8 yo nk _ e8=>⟨_,_,k8 (nk _ _ e) (by decide)<|by decide,k8 e8 (by decide)<|by decide,AW hU,_,rfl,?_⟩⟩;rw[xI];exact dO<|k _<|W8.same<|s9.trans nk
    ·rw[ru] at h;cases h;cases hd;cases hn
    ·rw[ru] at h;cases h;cases hR
   intro H7 W7;clear W0;have mx:∀n:Int,0<=n->(if(if 24<n then 24 else n) > 1 then(if 24<n then 24 else n) else 1)<=24/\0<=(if(if 24<n then 24 else n) > 1 then(if 24<n then 24 else n) else 1):=λn hn=>by
    split<;>split<;>omega
   have mx:=mx ((ns.map V.int).length:Int) (by omega);refine⟨_,rfl,a,_,rfl,.inl<|W7.sm.seq hS,_,_,rfl,_,_,rfl,_,rfl,?lo,?hi,?lp⟩
   case lo=>have:=mx.2;omega
   case hi=>have:=mx.1;omega
   refine Eo (λi σ H'=>∃S x3 x4 x5 x6 x7 x8 x9,σ=[some<|.ref a,some<|.ref dl,some<|.ref rl,x3,x4,x5,x6,x7,x8,x9]/\Wl D C H H' dl rl sd b l r S i) ⟨_,_,_,_,_,_,_,_,rfl,W7⟩ ?_ ?_
   ·rintro i σ H' hi ⟨S,x3,x4,x5,x6,x7,x8,x9,rfl,W⟩;have hi:i<24:=by have:=mx.1;have:=mx.2;omega
    clear mx W7;refine QBx (λN=>∀S x3 x4 x5 x6 x7 x8 x9 H',Wl D C H H' dl rl sd b l r S (i+1)->N [some<|.ref a,some<|.ref dl,some<|.ref rl,x3,x4,x5,x6,x7,x8,x9] H') (λE kE=>?_) λS x3 x4 x5 x6 x7 x8 x9 H' W=>⟨S,x3,x4,x5,x6,x7,x8,x9,rfl,W⟩;refine Df (λN=>∀p m w,H' p=none->N [some<|.ref a,some<|.ref dl,some<|.ref rl,some<|.int<|0+(i:Int),some<|.ref p,some<|.int<|bI w,x6,x7,x8,x9] (upd H' p<|.lst [.int m])) (λN k=>?_) ?_
    ·refine⟨_,rfl,_,rfl,a,ns,_,rfl,W.sm.seq hS,by omega,by omega,λc=>⟨c,rfl,λp n np=>?_⟩⟩;refine⟨_,rfl,p,n,5,rfl,af,by decide,by decide,λt m t0 t5=>⟨rfl,.inr ⟨_,rfl,?_⟩⟩⟩;rw[UJ];exact k p m _ np
    intro p m w np;have s1:ag H' (upd H' p<|.lst [.int m]):=λx u e=>by rw[QY<|QN e np];exact e
    have W1:=W.same s1;refine nN (λN=>∀H2 wd gP l1,Wl D C H H2 dl rl sd b l r S i->oQ wd gP->(∀n∈gP,0<=n/\n<100)->H2 l1=some (.lst<|gP.map V.int)->(∀j,l1≠r j)->N [some<|.ref a,some<|.ref dl,some<|.ref rl,some<|.int<|0+(i:Int),some<|.ref p,some<|.int<|bI w,some<|.str wd,some<|.ref l1,x8,x9] H2) (λN k=>?_) ?_
    ·obtain⟨xs,v,er,_,dr1⟩:=(W1.rw w).at_;refine⟨_,rfl,_,rfl,_,rfl,rl,_,_,_,rfl,rfl,aA.of W1.hr,l_ r w,_,rfl,r w,_,_,v,rfl,rfl,aA.of er,sf _ _,p,m,v,_,rfl,af,dr1,W1.oF w,λt l1 wd gP H2 G=>?_⟩;have s2:ag H' H2:=λx u e=>G.k1 x u (QN e np)<|s1 _ _ e
     refine⟨t,_,rfl,aM.of G.ht,rfl,_,_,rfl,_,_,rfl,rfl,k _ _ _ _ (W.same s2) G.gd G.nb G.hl λj z=>?_⟩;obtain⟨_,_,f,_,_⟩:=(W1.rw j).at_;rw[<- z,G.nw] at f;cases f
    intro H2 wd gP l1 W2 g nb e1 n1;clear W1 W s1;obtain⟨dd,rr,ew,et,erw,ed,t20,ta⟩:=QBn g nb;refine Df (λN=>∀H7 t9,Wl D C H H7 dl rl sd b l r (fN S w<|bF dd (S w).1 (S w).2) (i+1)->H7 t9=some (.tup [.str (QFh<|ez dd (S w).1 (S w).2).1,.str (QFh<|ez dd (S w).1 (S w).2).2])->N [some<|.ref a,some<|.ref dl,some<|.ref rl,some<|.int<|0+(i:Int),some<|.ref p,some<|.int<|bI w,some<|.str wd,some<|.ref l1,some<|M3<|ez dd (S w).1 (S w).2,some<|.ref t9] H7) (λN k=>?_) ?_
    ·refine⟨_,rfl,_,rfl,rl,_,_,_,rfl,rfl,aA.of W2.hr,l_ r w,_,rfl,_,rfl,l1,_,rfl,.inl<|aA.of e1,λl' H3 s3 n3 e3=>?_⟩;have W3:=W2.same s3;have l3:=W3.len w;refine⟨r w,(S w).1,(S w).2,dd,.ref l',by rw[ew];rfl,W3.rw w,W3.oF w,by omega,by rw[et];exact .lst (λz=>z) e3<|T6 _,λH4 k4 R4=>?_⟩;have lT:=k4 _ _ (n1 w)<|s3 _ _ e1;have D4:=W3.zV dst k4;have hd4:=k4 _ _ (dst.d5 w).2.1 W3.hd;refine⟨_,rfl,_,rfl,dl,_,_,_,rfl,rfl,aA.of hd4,l_ sd w,_,rfl,_,rfl,wd,l1,gP,rfl,lT,nb,(Ra g).2,(Ra g).1,λH5 s5=>?_⟩;refine⟨sd w,b w,l w,(S w).1,(S w).2,.str<|pd wd gP,.str<|pd wd gP,rfl,(D4 w).same s5,W3.oF w,by omega,.str _<|A3 ta,λt e=>by cases e;omega,⟨λh=>?_,λr' d' Fx h hd hw t6 H6 s6 e6=>?_,λr' d' h hd hn t6 H6 k6 B6 e6=>?_,λr' R u h hR=>?_⟩⟩
     ·rw[erw] at h;cases h
     ·rw[erw] at h;cases h;rw[ed] at hd;cases hd;refine k _ t6 (W3.step dst w _ k4 R4 (K2.of<|s5.trans s6) ?_) ?_
      ·rw[Er hw];exact(D4 w).same<|s5.trans s6
      ·rw[hw];exact e6
     ·rw[erw] at h;cases h;rw[ed] at hd;cases hd;have kk:K2 (b w) (l w) H4 H6:=(K2.of s5).trans k6;obtain⟨nG,f0⟩:=(D4 w).dk;obtain⟨_,_,_,_,f2,_,_⟩:=(D4 w).bn.at_;refine k _ t6 (W3.step dst w _ k4 R4 kk ?_) ?_
      ·rw[Bb hn];exact⟨⟨nG,kk _ _ (dst.d0 w w) (YB f0 f2 λz=>nomatch z) f0⟩,B6⟩
      ·rw[hn];exact e6
     ·rw[erw] at h;cases h;rw[QxG ed] at hR;cases hR
    intro H7 t9 W8 e9;clear W2 e1;refine nN (λN=>∀H8 y8 x9,Wl D C H H8 dl rl sd b l r (fN S w<|bF dd (S w).1 (S w).2) (i+1)->N [some<|.ref a,some<|.ref dl,some<|.ref rl,some<|.int<|0+(i:Int),some<|.ref p,some<|.int<|bI w,some<|.str wd,some<|.ref l1,y8,x9] H8) (λN k=>?_) ?_
    ·refine⟨_,rfl,_,rfl,by show 2<=1000;decide,λta Ha sa na ea=>⟨by show 2<=1000;decide,λtb Hb sb nb eb=>⟨by show 2<=1000;decide,λlc Hc sc nc ec=>⟨_,rfl,rfl,.inr ⟨_,rfl,?_⟩⟩⟩⟩⟩;have FN:=(sa.trans sb).trans sc;have WC:=W8.same FN;cases oP:ez dd (S w).1 (S w).2 with
     |none=>
      have te:H7 t9=some (.tup [.str "told",.str "ok"]):=by rw[oP] at e9;exact e9
      refine⟨lc,_,1,.ref tb,rfl,rfl,aA.of ec,QX (j:=1) rfl,_,_,k8 (FN _ _ te) (by decide)<|by decide,k8 (sc _ _ eb) (by decide)<|by decide,AW hU,_,rfl,?_⟩;rw[xI];exact dO<|k _ _ _ WC
     |some Fx=>
      have te:H7 t9=some (.tup [.str "refused",.str Fx]):=by rw[oP] at e9;exact e9
      rw[oP] at ea;have wl:Ji (.str Fx)=true:=by rcases UK oP with rfl | rfl | rfl | rfl | rfl<;>decide
      refine⟨lc,_,0,.ref ta,rfl,rfl,aA.of ec,QX (j:=0) rfl,_,_,k8 (FN _ _ te) (by decide) wl,k8 (sc _ _<|sb _ _ ea) (by decide) wl,AW hU,_,rfl,?_⟩;rw[xI];exact dO<|k _ _ _ WC
    intro H8 y8 y9 W9;clear W8 e9;generalize fN S w (bF dd (S w).1 (S w).2)=S' at W9;have l9:=W9.len w;have l9':=W9.len (!w);refine nN (λN=>∀H9 x9,Wl D C H H9 dl rl sd b l r S' (i+1)->N [some<|.ref a,some<|.ref dl,some<|.ref rl,some<|.int<|0+(i:Int),some<|.ref p,some<|.int<|bI w,some<|.str wd,some<|.ref l1,y8,x9] H9) (λN k=>?_) ?_
    ·obtain⟨_,v7,e7,_,d7⟩:=(W9.rw w).at_;exact⟨_,rfl,_,rfl,dl,_,_,_,rfl,rfl,aA.of W9.hd,l_ sd w,_,rfl,_,rfl,rl,_,_,_,rfl,rfl,aA.of W9.hr,l_ r w,_,rfl,r w,_,_,v7,rfl,rfl,aA.of e7,sf _ _,sd w,b w,l w,_,_,v7,rfl,W9.dk w,W9.oF w,by omega,d7,λH9 s9=>⟨true,rfl,dO<|k _ _<|W9.same s9⟩⟩
    intro H9 z9 qU;clear W9;have eo:(1:Int) - bI w=bI (!w):=by cases w<;>rfl
    have hb:kf (.str<|Qe "board")=some (.alone 5):=by kernel_rfl
    obtain⟨_,v7,e7,_,d7⟩:=(qU.rw (!w)).at_;refine⟨_,rfl,_,rfl,1,bI w,rfl,rfl,dl,_,_,_,rfl,rfl,aA.of qU.hd,by rw[eo];exact l_ sd (!w),sd (!w),b (!w),l (!w),_,_,.str<|Qe "board",.str<|Qe "board",rfl,qU.dk (!w),qU.oF (!w),by omega,.str _<|by decide,λt e=>by cases e;decide,⟨λh=>?_,λrr dd wd h hd=>?_,λrr dd h hd=>?_,λrr R u h hR hu t' yo nk e=>?_⟩⟩
    ·rw[hb] at h;cases h
    ·rw[hb] at h;cases h;cases hd
    ·rw[hb] at h;cases h;cases hd
    ·rw[hb] at h;cases h;cases hR;have hu:u=nR (S' (!w)).2.h (S' (!w)).2.w (ae (S' (!w)).2.h (S' (!w)).2.w (S' (!w)).2.f):=hu;have wo:=UL (w:=(S' (!w)).2.w) (ae (S' (!w)).2.h (S' (!w)).2.w (S' (!w)).2.f) (qU.oF (!w)).h1;rw[<- hu] at wo;refine⟨_,rfl,_,rfl,1,bI w,rfl,rfl,rl,_,_,_,rfl,rfl,aA.of<|nk _ _ qU.hr,by rw[eo];exact l_ r (!w),_,rfl,r (!w),_,_,v7,rfl,rfl,aA.of<|nk _ _ e7,sf _ _,v7,_,rfl,d7.same nk,qU.oF (!w),λH11 yE=>⟨by show 2<=1000;decide,λt12 H12 eG _ jC=>?_⟩⟩;rw[<- hu] at jC;refine⟨_,_,k8 (eG _ _<|yE _ _ e) (by decide) wo,k8 jC (by decide) wo,AW hU,_,rfl,?_⟩;rw[xI];exact dO<|kE _ _ _ _ _ _ _ _ _<|qU.same<|(nk.trans yE).trans eG
   ·rintro σ' H8 ⟨S,x3,x4,x5,x6,x7,x8,x9,rfl,W⟩;have lw:=W.len;obtain⟨_,v7,e7,_,d7⟩:=(W.rw false).at_;have lf:=lw false;have lt:=lw true;have ub:∀n:Int,0<=n->n<=24->n.toNat<=24:=λn h1 h2=>by omega
    have mb:=ub _ mx.2 mx.1;refine⟨_,rfl,dl,_,0,_,rfl,rfl,aA.of W.hd,l_ sd false,_,rfl,rl,_,0,_,rfl,rfl,aA.of W.hr,l_ r false,_,rfl,r false,_,_,v7,rfl,rfl,aA.of e7,sf _ _,sd false,b false,l false,_,_,v7,rfl,W.dk false,W.oF false,by omega,d7,λH9 s9=>⟨true,rfl,df ?_⟩⟩;have W9:=W.same s9;obtain⟨_,v8,e8,_,d8⟩:=(W9.rw true).at_;exact⟨_,rfl,dl,_,1,_,rfl,rfl,aA.of W9.hd,l_ sd true,_,rfl,rl,_,1,_,rfl,rfl,aA.of W9.hr,l_ r true,_,rfl,r true,_,_,v8,rfl,rfl,aA.of e8,sf _ _,sd true,b true,l true,_,_,v8,rfl,W9.dk true,W9.oF true,by omega,d8,λyo nk=>k yo⟩
end
end Rk
namespace Rk
open L2 _root_.Rd
section
variable{P:QB}{w:Jh}{K:Ws}{mg:Str->Option Xd}{base:ZF}
def rS:Yx ["_law_e", "_law_some", "_law_words"] ["_law_e"] (Q4 HR):=⟨rfl,rfl,rfl,by decide,rfl,by decide,by decide⟩
def Qxt{f c1 c2 c3 c4 c5 c6 c7 c8 c9 Hv Hu Ht Hs Hr Hq Ho Hn Hm Hl:Xb}{fd:Z3}(F:iw K "_law_kind_of" "_law_kind_of" HR f fd)(T:aC mg)(mV:mg "ValueError" = none)
  (m1:mg "NoText" = some (.ref c1))(m2:mg "NoOrder" = some (.ref c2))(m3:mg "NoLines" = some (.ref c3))(m4:mg "TooFew" = some (.ref c4))(m5:mg "NoSize" = some (.ref c5))(m6:mg "TooMany" = some (.ref c6))(m7:mg "NoNumber" = some (.ref c7))(m8:mg "NoStand" = some (.ref c8))(m9:mg "NoCell" = some (.ref c9))(m10:mg "NotSquare" = some (.ref Hv))(m11:mg "NoHits" = some (.ref Hu))(m12:mg "NoCounts" = some (.ref Ht))(m13:mg "NoStairs" = some (.ref Hs))(m14:mg "NotAlike" = some (.ref Hr))(m15:mg "NoParting" = some (.ref Hq))(m16:mg "NoPlace" = some (.ref Ho))(m17:mg "Double" = some (.ref Hn))(m18:mg "NoDeed" = some (.ref Hm))(m19:mg "NoRow" = some (.ref Hl)) :
  Rx.BJ P w K mg base 1 f fd ["_law_e"] (xA K [c1,c2,c3,c4,c5,c6,c7,c8,c9,Hv,Hu,Ht,Hs,Hr,Hq,Ho,Hn,Hm,Hl]):=by
 refine Rx.okM F rS (λvs H Q E h=>?_) λao A outer s H vs Q E hr h=>?_
 ·obtain⟨a,C,bs,j,wd,rfl,_⟩:=h;rfl
 ·obtain⟨a,C,bs,j,wd,rfl,ha,hc,pb,eV,GY,hj,hm,hw,k⟩:=h;obtain⟨b1,bs1,rfl,q1,pb1⟩:=JJ pb;obtain⟨b2,bs2,rfl,q2,pb2⟩:=JJ pb1;obtain⟨b3,bs3,rfl,q3,pb3⟩:=JJ pb2;obtain⟨b4,bs4,rfl,q4,pb4⟩:=JJ pb3;obtain⟨b5,bs5,rfl,q5,pb5⟩:=JJ pb4;obtain⟨b6,bs6,rfl,q6,pb6⟩:=JJ pb5;obtain⟨b7,bs7,rfl,q7,pb7⟩:=JJ pb6;obtain⟨b8,bs8,rfl,q8,pb8⟩:=JJ pb7;obtain⟨b9,bs9,rfl,q9,pb9⟩:=JJ pb8;obtain⟨CD,bs10,rfl,q10,F8⟩:=JJ pb9;obtain⟨CC,bs11,rfl,q11,F7⟩:=JJ F8;obtain⟨CB,bs12,rfl,q12,F6⟩:=JJ F7;obtain⟨HA,bs13,rfl,q13,F5⟩:=JJ F6;obtain⟨Hz,bs14,rfl,q14,F4⟩:=JJ F5;obtain⟨Hy,bs15,rfl,q15,F3⟩:=JJ F4;obtain⟨Hx,bs16,rfl,FY,F2⟩:=JJ F3;obtain⟨OS,bs17,rfl,FX,F1⟩:=JJ F2;obtain⟨OR,bs18,rfl,FW,F0⟩:=JJ F1;obtain⟨OQ,bs19,rfl,FV,FZ⟩:=JJ F0;cases Ql5 FZ;refine' ⟨_,QC (ir (i:=1) rS.nd rfl (QM rfl)<|Yi<|xv (x := "_law_e") (ns:=["NoText", "NoOrder", "NoLines", "TooFew"]) (cs:=[c1,c2,c3,c4]) rfl (QM rfl) (by decide) (by decide) (by rfl) T.isinstance (by decide) (by rfl)<|.cons m1<|.cons m2<|.cons m3<|.cons m4 .nil) ?p1,?rd⟩
  case p1=>
   show aV _ _ _;refine' QC (ir (i:=1) rS.nd rfl (QM rfl)<|YR xF (pv 1)<|Yi<|xv (x := "_law_e") (ns:=["NoSize", "TooMany", "NoNumber", "NoStand"]) (cs:=[c5,c6,c7,c8]) rfl (QM rfl) (by decide) (by decide) (by rfl) T.isinstance (by decide) (by rfl)<|.cons m5<|.cons m6<|.cons m7<|.cons m8 .nil) ?_
   show aV _ _ _;refine' QC (ir (i:=1) rS.nd rfl (QM rfl)<|YR xF (pv 1)<|Yi<|xv (x := "_law_e") (ns:=["NoCell", "NotSquare", "NoHits", "NoCounts"]) (cs:=[c9,Hv,Hu,Ht]) rfl (QM rfl) (by decide) (by decide) (by rfl) T.isinstance (by decide) (by rfl)<|.cons m9<|.cons m10<|.cons m11<|.cons m12 .nil) ?_
   show aV _ _ _;refine' QC (ir (i:=1) rS.nd rfl (QM rfl)<|YR xF (pv 1)<|Yi<|xv (x := "_law_e") (ns:=["NoStairs", "NotAlike", "NoParting", "NoPlace"]) (cs:=[Hs,Hr,Hq,Ho]) rfl (QM rfl) (by decide) (by decide) (by rfl) T.isinstance (by decide) (by rfl)<|.cons m13<|.cons m14<|.cons m15<|.cons m16 .nil) ?_
   show aV _ _ _;refine' QC (ir (i:=1) rS.nd rfl (QM rfl)<|YR xF (pv 1)<|Yi<|xv (x := "_law_e") (ns:=["Double", "NoDeed", "NoRow"]) (cs:=[Hn,Hm,Hl]) rfl (QM rfl) (by decide) (by decide) (by rfl) T.isinstance (by decide) (by rfl)<|.cons m17<|.cons m18<|.cons m19 .nil) ?_
   show aV _ _ _;refine' QC (gj (H_ (Yw QAD (gZ Wz PySem.F.slot_list_count PySem.F.type_list_count Rx.Qtk (pv 1)<|Ql uJ Qu) Je<|JL _)<|IV<|xx<|Dd<|Z4 Rx.Qi7 (by rfl) T.isinstance MP<|Ql (pv 0)<|Ql (Ui (v:=.ty "ValueError") (by rfl) mV QEt rfl) Qu).pt (Q6<|JZ Zf) Yh) ?_
   show aV _ _ _;refine' QC ?a1 ?_
   case a1=>
    refine' ir (i:=2) (hs:=?hh) (hf:=?hf) ?hN ?hi ?hx ?he
    case hN=>exact rS.nd
    case hi=>exact rfl
    case hx=>exact QM rfl
    case hf=>exact QM rfl
    case hh=>kernel_rfl
    case he=>
     refine' Yi ?ww
     case ww=>exact K0 (ws:=xB.take 10) (by kernel_rfl)
   show aV _ _ _;refine' QC ?a2 ?_
   case a2=>
    refine' ir (i:=2) (hs:=?hh) (hf:=?hf) ?hN ?hi ?hx ?he
    case hN=>exact rS.nd
    case hi=>exact rfl
    case hx=>exact QM rfl
    case hf=>exact QM rfl
    case hh=>kernel_rfl
    case he=>
     refine' YR xF (pv 2) ?ww
     case ww=>
      refine' Yi ?w2
      case w2=>exact K0 (ws:=xB.drop 10) (by kernel_rfl)
   show aV _ _ _;exact Q6<|JZ<|Z8 Za (pv 2) (gZ Wz PySem.F.slot_list_index PySem.F.type_list_index Rx.Qtj (pv 1)<|Ql uJ Qu) λ_ _=>rfl
  refine nN (λN=>∀l H',ag H H'->H' l=some (.lst<|([b1,b2,b3,b4]:List Bool).map V.bl)->N [some<|.ref a,some<|.ref l,none] H') (λN kN=>⟨a,C,[b1,b2,b3,b4],rfl,ha,hc,(.cons q1<|.cons q2<|.cons q3<|.cons q4 .nil),by show 4<=1000;decide,λl H1 s n e=>kN l H1 s e⟩) ?_
  intro l H1 s e;refine nN (λN=>∀l H',ag H H'->H' l=some (.lst<|([b1,b2,b3,b4,b5,b6,b7,b8]:List Bool).map V.bl)->N [some<|.ref a,some<|.ref l,none] H') (λN kN=>⟨_,rfl,a,C,[b5,b6,b7,b8],rfl,s _ _ ha,hc,(.cons q5<|.cons q6<|.cons q7<|.cons q8 .nil),by show 4<=1000;decide,λl2 H2 s2 n2 e2=>⟨l,l2,_,_,rfl,rfl,s2 _ _ e,e2,by show 8<=1000;decide,λl3 H3 s3 n3 e3=>kN l3 H3 ((s.trans s2).trans s3) e3⟩⟩) ?_
  clear e s l H1;intro l H1 s e;refine nN (λN=>∀l H',ag H H'->H' l=some (.lst<|([b1,b2,b3,b4,b5,b6,b7,b8,b9,CD,CC,CB]:List Bool).map V.bl)->N [some<|.ref a,some<|.ref l,none] H') (λN kN=>⟨_,rfl,a,C,[b9,CD,CC,CB],rfl,s _ _ ha,hc,(.cons q9<|.cons q10<|.cons q11<|.cons q12 .nil),by show 4<=1000;decide,λl2 H2 s2 n2 e2=>⟨l,l2,_,_,rfl,rfl,s2 _ _ e,e2,by show 12<=1000;decide,λl3 H3 s3 n3 e3=>kN l3 H3 ((s.trans s2).trans s3) e3⟩⟩) ?_
  clear e s l H1;intro l H1 s e;refine nN (λN=>∀l H',ag H H'->H' l=some (.lst<|([b1,b2,b3,b4,b5,b6,b7,b8,b9,CD,CC,CB,HA,Hz,Hy,Hx]:List Bool).map V.bl)->N [some<|.ref a,some<|.ref l,none] H') (λN kN=>⟨_,rfl,a,C,[HA,Hz,Hy,Hx],rfl,s _ _ ha,hc,(.cons q13<|.cons q14<|.cons q15<|.cons FY .nil),by show 4<=1000;decide,λl2 H2 s2 n2 e2=>⟨l,l2,_,_,rfl,rfl,s2 _ _ e,e2,by show 16<=1000;decide,λl3 H3 s3 n3 e3=>kN l3 H3 ((s.trans s2).trans s3) e3⟩⟩) ?_
  clear e s l H1;intro l H1 s e;refine nN (λN=>∀l H',ag H H'->H' l=some (.lst<|([b1,b2,b3,b4,b5,b6,b7,b8,b9,CD,CC,CB,HA,Hz,Hy,Hx,OS,OR,OQ]:List Bool).map V.bl)->N [some<|.ref a,some<|.ref l,none] H') (λN kN=>⟨_,rfl,a,C,[OS,OR,OQ],rfl,s _ _ ha,hc,(.cons FX<|.cons FW<|.cons FV .nil),by show 3<=1000;decide,λl2 H2 s2 n2 e2=>⟨l,l2,_,_,rfl,rfl,s2 _ _ e,e2,by show 19<=1000;decide,λl3 H3 s3 n3 e3=>kN l3 H3 ((s.trans s2).trans s3) e3⟩⟩) ?_
  clear e s l H1;intro l H1 s e;refine nN (λN=>N [some<|.ref a,some<|.ref l,none] H1) (λN kN=>?_) ?_
  ·refine⟨_,rfl,.inl ⟨rfl,_,aA.of e⟩,l,_,rfl,rfl,e,rfl,_,rfl,?_⟩;rw[GY];refine QD3 rfl ?_
   exact⟨_,rfl,a,C,.ty "ValueError",.type "ValueError",true,rfl,s _ _ ha,hc,(λu r=>r),eV,_,rfl,kN⟩
  refine Df (λN=>∀l2 H',ag H1 H'->H' l2=some (.lst<|xB.map V.str)->N [some<|.ref a,some<|.ref l,some<|.ref l2] H') (λN kN=>?_) ?_
  ·exact⟨by show 10<=1000;decide,λl10 yo nk n10 lV=>⟨_,rfl,by show 9<=1000;decide,λl11 H11 yE n11 lU=>⟨l10,l11,_,_,rfl,rfl,yE _ _ lV,lU,by show 19<=1000;decide,λl12 H12 eG n12 jC=>kN l12 H12 ((nk.trans yE).trans eG) jC⟩⟩⟩
  intro l2 H2 s2 e2;have e1:=s2 _ _ e;exact⟨_,rfl,_,rfl,.inl ⟨rfl,_,aA.of e1⟩,l,_,j,rfl,rfl,e1,hj,hm,⟨l2,_,_,.str wd,rfl,rfl,aA.of e2,QX (by rw[Qq,hw];rfl),k H2<|s.trans s2⟩⟩
end
end Rk


namespace L2
section
variable{K:Ws}{x:Str}{f:Xb}{h:ZF}{mg:Str->Option Xd}{P:QB}{w:Jh}{base:ZF}
def au.al(c:au P w K mg base CX k x sp)(X:K.In h)(G:h.Ns Xf mg)(e:Wt K Xf x=some (some<|.ref f))(e2:Wt K Xf y=some (some<|.ref f)):au P w K mg base CX k y sp:=
 let ⟨g,fd,ps,hm,r⟩:=c.ex;⟨g,fd,ps,by rw[WJ X G e2,<- hm,WJ X G e],r⟩
def au.at_(c:au P w K mg base CX k x sp)(X:K.In h)(G:h.Ns Xf mg)(e:Wt K Xf x=some (some<|.ref f))(hk:k<=8:=by decide):∃k gd qs,k<=8/\aO P w K mg base CX k f gd qs sp/\Wu K (.ref f)=true/\Binds K gd qs []:=by
 obtain⟨g,fd,ps,hm,F,b,kp⟩:=c.ex;rw[WJ X G e] at hm;cases hm;exact⟨k,fd,ps,hk,F,kp,b⟩
def au.zO(c:au P w K mg base ax k x sp):au P w K mg base (Rx.aY P w) k x sp:=let ⟨g,fd,ps,hm,F,r⟩:=c.ex;⟨g,fd,ps,hm,F.ex,r⟩
def au.imp(c:au P w K mg base CX k x sp)(hs:∀vs H Q E,FJ vs H Q E->sp vs H Q E):au P w K mg base CX k x FJ:=let ⟨g,fd,ps,hm,F,r⟩:=c.ex;⟨g,fd,ps,hm,F.imp hs,r⟩
end
end L2
namespace Rk
open L2
structure FnAt (K:Ws) (x:Str) (st:Zo):Prop where
 ex:∃f fd,Wt K Xf x=some (some<|.ref f)/\iw K x x st f fd
structure bS (K:Ws) (C:Xb) (m q:Str) (st:Zo):Prop where
 ex:∃f fd,jl K C m f/\iw K m q st f fd
structure BL (K:Ws) (x:Str) (C:Xb):Prop where
 a:Wt K Xf x=some (some<|.ref C)
 pg:WK K C r8=true
 hd:WS K C=true
 po:WY K C=true
 sa:Wv K (.ref C) "__setattr__" = some (some<|.builtin "object.__setattr__")
 ms:W4 K C=true
 kc:Wu K (.ref C)=true
structure pR (K:Ws):Prop where
 isinstance:Wt K Xf "isinstance" = some none
 int:Wt K Xf "int" = some none
 bool:Wt K Xf "bool" = some none
 str:Wt K Xf "str" = some none
 tuple:Wt K Xf "tuple" = some none
 list:Wt K Xf "list" = some none
 all:Wt K Xf "all" = some none
 len:Wt K Xf "len" = some none
 zip:Wt K Xf "zip" = some none
 enumerate:Wt K Xf "enumerate" = some none
 range:Wt K Xf "range" = some none
 max:Wt K Xf "max" = some none
 min:Wt K Xf "min" = some none
 sorted:Wt K Xf "sorted" = some none
 sum:Wt K Xf "sum" = some none
 set:Wt K Xf "set" = some none
 any:Wt K Xf "any" = some none
 reversed:Wt K Xf "reversed" = some none
 divmod:Wt K Xf "divmod" = some none
section
variable{K:Ws}{x m q:Str}{st:Zo}{f C:Xb}{oc kV dc pm cd ct:Xd}{od an:Option Xb}{sl:Array (Option Xd)}{h:ZF}{mg:Str->Option Xd}{P:QB}{w:Jh}{base:ZF}
def QEd(a:Wt K Xf x=some (some<|.ref f))(l:K.lookup f=some ⟨oc,od,.func<|WB x x (u_ st) (Yk st) (Q4 st) .none kV dc pm an cd ct,sl⟩)(c:WN K cd x=true)(k:Wu K (.ref f)=true):FnAt K x st:=⟨f,_,a,Q_ l c k⟩
def QDY(a:Wv K (.ref C) m=some (some<|.ref f))(i:WT K (.ref f)=true)(l:K.lookup f=some ⟨oc,od,.func<|WB m q (u_ st) (Yk st) (Q4 st) .none kV dc pm an cd ct,sl⟩)(c:WN K cd q=true)(k:Wu K (.ref f)=true):bS K C m q st:=⟨f,_,⟨a,i,k⟩,Q_ l c k⟩
def FnAt.c(d:FnAt K x st)(X:K.In h)(G:h.Ns Xf mg):aB P w K mg base x st:=let ⟨f,fd,a,F⟩:=d.ex;⟨f,fd,WJ X G a,F⟩
def bS.c(d:bS K C m q st):bR P w K mg base C m q st:=⟨d.ex⟩
def BL.i(d:BL K x C)(X:K.In h)(G:h.Ns Xf mg)(c:aL P w K mg base ax k C "__init__" sp):pT P w K mg base k C x sp:=let ⟨f,fd,ps,M,F,b⟩:=c.ex;⟨f,fd,ps,⟨d.ms,M.at_,M.fn,d.kc⟩,F,b,WJ X G d.a⟩
def pR.c(n:pR K)(X:K.In h)(G:h.Ns Xf mg):aC mg:=by
 have z:∀{y:Str},Wt K Xf y=some none->mg y=none:=λe=>XS X G e
 exact⟨z n.1,z n.2,z n.3,z n.4,z n.5,z n.6,z n.7,z n.8,z n.9,z n.10,z n.11,z n.12,z n.13,z n.14,z n.15,z n.16,z n.17,z n.18,z n.19⟩
def Cy(j:Nat):List Bool:=Jc j false++true::Jc (18 - j) false
def xn(j:Nat)(r1:W5 K (.ref R)=some (.type "type"))(r2:WQ K R=some dR)(r3:WI K R (.type "BaseException")=some true)(qr:WI K C (.ref R)=some true)
  (qg:Wv K (.ref C) "__getattribute__" = some (some<|.builtin "BaseException.__getattribute__"))(qh:Wv K (.ref C) "__getattr__" = some none)(qb:WI K C (.type "BaseException")=some true)(qc:WQ K C=some dC)(qa:Wv K (.ref C) "__class__" = some (some<|.builtin "object.__class__"))
  (u1:XX K (.builtin "object.__class__") "__get__" = some (some<|.builtin "getset_descriptor.__get__"))(u2:XY K (.builtin "object.__class__")=some true)(qo:WI K C (.type "object")=some true)(qv:Wy K (.ref C) (.type "ValueError")=some true)
  (p:Zw (λc b=>Wy K (.ref C) (.ref c)=some b) cs<|Cy j)(hc:(Cy j).countP id=1/\(Cy j)[j]? = some true/\(∀m,m<j->(Cy j)[m]? = some false)/\xB[j]? = some wd):ot K cs R C wd:=
 ⟨⟨r1,by rw[r2];rfl,r3,qr⟩,_,j,⟨qg,qh,qb,by rw[qc];rfl,qa,u1,u2,qo⟩,p,qv,hc⟩
end
end Rk
namespace PySem.W.Fast
def tw4573337787396366418:=0
def tw12327207154230093953:=0
def tw3109846282391594681:=0
def tw14609163267949359242:=0
def tw7650015370020398165:=0
def tw12523919902778180761:=0
def tw18343829469859977376:=0
def tw8998253257641403252:=0
def tw10038414073798629658:=0
def tw17735680861993013068:=0
def tw8233287480190392590:=0
def tw9120646258567364937:=0
def tw12181066629218395310:=0
def tw9736040771352860272:=0
def tw18365093888968014276:=0
def tw16404695710181732198:=0
def tw17011483988548697100:=0
def tw8256127956108095649:=0
def tw5599297936251354284:=0
def tw5041431147351142414:=0
def tw13459035826783873076:=0
def tw18189511970891179438:=0
def tw16024228674149961803:=0
def tw7032504364303758235:=0
def tw1350959166931019795:=0
def tw12957759150781036841:=0
def tw14448380579334188169:=0
def tw1613358808995531450:=0
def tw13061356291987482239:=0
def tw9045441202258251155:=0
def tw14182868288846707138:=0
def tw11415214976499263587:=0
def tw14177454288975715999:=0
def tw14895252299012866648:=0
def tw17671047383337769902:=0
def tw424857791706207780:=0
def tw2088177178473544514:=0
def tw9196590188999449048:=0
def tw9417530958728935257:=0
def tw7208019886002632047:=0
def tw4140947422507938064:=0
def tw10525137042765054212:=0
def tw12332822088906333512:=0
def tw13132981497996843667:=0
def tw17237881861715967775:=0
def tw5311305258274430817:=0
def tw6704286510248616575:=0
def tw8371583481913093277:=0
def tw15524086876708307003:=0
def tw6536924664205167226:=0
def tw4685163396237470446:=0
def tw482603008963540189:=0
def tw3921698125433945999:=0
def tw5301607154710281203:=0
def tw54178042923156288:=0
def tw9344382468718273928:=0
def tw550196508881414695:=0
def tw5651469508430886289:=0
def tw10444042723573409577:=0
def tw12859257013274115590:=0
def tw11897812465978031298:=0
def tw7659684062806553949:=0
def tw11426449218391506007:=0
def tw2015319967807672154:=0
def tw5896948148122492982:=0
def tw15915599269344122905:=0
def tw8881080477239223050:=0
def tw14497444171128759142:=0
def tw10933574496595538660:=0
def tw6323002848477043435:=0
def tw16865962952449840804:=0
def tw487524608920514693:=0
def tw8148704448826373101:=0
def tw17070641616201692974:=0
def tw2143149412448418985:=0
def tw3633439218408159998:=0
def tw7877168459301781154:=0
def tw14102273259386465482:=0
def tw17790973572540343084:=0
def tw6490944195712537562:=0
def tw9145872806123885967:=0
def tw6426634194391168784:=0
def tw14449873550520458938:=0
def tw3922112993271248813:=0
def tw3046610977732542529:=0
def tw8999748900270582589:=0
def tw3870725906785923554:=0
def tw5194257842764467770:=0
def tw487579818812922448:=0
def tw17033076786303063731:=0
def tw49331306979819636:=0
def tw10695565124573035078:=0
def tw6270247468728120787:=0
def tw3779660151272545062:=0
def tw8810486992842093574:=0
def tw10343748001109245760:=0
def tw2533303008569917204:=0
def tw9834111400652539616:=0
def tw18403797696871988344:=0
def tw14485796494736151291:=0
def tw14149354791079268837:=0
def tw5547553836324319953:=0
def tw3665999190075181259:=0
def tw3933205112371036155:=0
def tw8899104713588306006:=0
def tw12332256563223052689:=0
def tw195743616120080464:=0
def tw124299694908643007:=0
def tw15240134544693461194:=0
def tw11817978442894401131:=0
def tw12852788139597624817:=0
def tw18379743535279276870:=0
def tw723025895256723394:=0
def tw595452362130251362:=0
def tw9207495245306282205:=0
def tw14576457492554740292:=0
def tw7823549526239746265:=0
def tw10488380655792084348:=0
def tw6584514541295612275:=0
def tw16307078478387109816:=0
def tw8133611466936425368:=0
def tw7734983892156981980:=0
def tw6978526857823117519:=0
def tw3634595475200969380:=0
def tw14589106004491342758:=0
def tw12997639575114666150:=0
def tw3343674878195587631:=0
def tw1154633306185793208:=0
def tw15855943199260596797:=0
def tw14197988195118523934:=0
def tw3613043269905200656:=0
def tw11506093862801484127:=0
def tw18241642262530784844:=0
def tw2090545356707742652:=0
def tw1170367620347211205:=0
def tw10377408183505872020:=0
def tw17946839334831707672:=0
def tw6478960468802828388:=0
def tw7101504980956084566:=0
def tw12775396658168145018:=0
def tw12264798065327316379:=0
def tw4361124001854507868:=0
def tw13788691215925361572:=0
def tw2764458977543877610:=0
def tw5703396090473485795:=0
def tw7844301876474612400:=0
def tw3785017725321002419:=0
def tw14355317359734689251:=0
def tw6173304433407170044:=0
def tw6818666820383548984:=0
def tw17059449270200689605:=0
def tw13308026278913642090:=0
def tw16214440586959722623:=0
def tw10884176209771921188:=0
def tw9317940916365714931:=0
def tw17414045738254130812:=0
def tw13237471007506047783:=0
def tw4749569995756553109:=0
def tw3212811774852784587:=0
def tw7404291273348352291:=0
def tw6006315311735387441:=0
def tw16328585511663697518:=0
def tw6063053090171255941:=0
def tw3077976551864553364:=0
def tw189333283971926821:=0
def tw17197738898838204122:=0
def tw11284927796493382983:=0
def tw13370645248415177362:=0
def tw10797009935980641484:=0
def tw10008833462036618278:=0
def tw6294770429754749763:=0
def tw18056000252212941483:=0
def tw6917698693897563954:=0
def tw12760844348578692370:=0
def tw482822536557897830:=0
def tw6184184019335278202:=0
def tw1479661896457281772:=0
def tw8857666919285235670:=0
def tw16133898137853543034:=0
def tw9446013009013681225:=0
def tw1721107723658711407:=0
def tw3099543346522264990:=0
def tw11685035067332564315:=0
def tw11105865085829669909:=0
def tw10927267010998102798:=0
def tw1472433856330123527:=0
def tw6942313942439956051:=0
def tw10263544930458663866:=0
def tw5960916296684235741:=0
def tw1679056340201219870:=0
def tw1273608626196454539:=0
def tw17168255781848333321:=0
def tw4527372424258501288:=0
def tw15143460594073292429:=0
def tw17336928961128674384:=0
def tw9038674175291510891:=0
def tw14320423601729805556:=0
def tw2718574161190831467:=0
def tw14161343513743539234:=0
def tw1870737575809221000:=0
def tw15960541699760850692:=0
def tw16764104693628405631:=0
def tw13183198530182758152:=0
def tw18052203266342467859:=0
def tw6417998623633960964:=0
def tw8849775365998677628:=0
def tw12183048806394314905:=0
def tw8624224867092635339:=0
def tw7013118946319816354:=0
def tw15459254729581700157:=0
def tw18001108738352093580:=0
def tw11644429521848499594:=0
def tw5200433564681943781:=0
def tw3165873250934781174:=0
def tw8314151017229789574:=0
def tw2113667347749414867:=0
def tw15209900248081552309:=0
def tw16296589857917904463:=0
def tw3580903078856569639:=0
def tw12958288924626993441:=0
def tw10719691593044283582:=0
def tw6385318128444409111:=0
def tw10796851491538747140:=0
def tw11796619511587129401:=0
def tw1908958778715110442:=0
def tw9133076025056531994:=0
def tw17440371573748907507:=0
def tw14716505617073526857:=0
def tw2197098610227997916:=0
def tw4039085586030597993:=0
def tw15117503176830363770:=0
def tw17075539075646941732:=0
def tw17235202370916062299:=0
def tw12602246923232524651:=0
def tw10196600989609689707:=0
def tw7459578150023911510:=0
def tw6172173680059837925:=0
def tw7942130155131535249:=0
def tw14900905010548738501:=0
def tw17860558281065750760:=0
def tw7479081628286405590:=0
def tw10650391318152163383:=0
def tw4676936184986365252:=0
def tw8721459295545928045:=0
def tw11360839886818817647:=0
def tw4221601676456977400:=0
def tw819225521054088867:=0
def tw1801643512078051216:=0
def tw10055150481839166588:=0
def tw6029625254723691972:=0
def tw4940709585125154026:=0
def tw10435371834557969923:=0
def tw7235420810258760411:=0
def tw18138537701773196840:=0
def tw15856562635548961310:=0
def tw15086323538240214444:=0
def tw3551736221405471885:=0
def tw13797213097948470025:=0
def tw12870205761859694093:=0
def tw13279242975937770651:=0
def tw15586866396507141069:=0
def tw16078187041539638515:=0
def tw16286549988778999209:=0
def tw5027616292772056714:=0
def tw9439357718060706602:=0
def tw12378470050406123141:=0
def tw6753434891292247812:=0
def tw223359078269734195:=0
def tw18347459055165019625:=0
def tw10039925396468162467:=0
def tw2184093339135363803:=0
def tw15106212135571839698:=0
def tw15007066784547711648:=0
def tw1330276095112356648:=0
def tw7668343296569521018:=0
def tw12001048378513124124:=0
def tw8092544071883654177:=0
def tw10332774248487089150:=0
def tw15186632075289139690:=0
def tw14506951160906508719:=0
def tw2990116553538245977:=0
def tw3849861620589251574:=0
def tw6070648257582569177:=0
def tw16215138045989537802:=0
def tw15207968894872653048:=0
def tw569324193317594077:=0
def tw15165025656055712052:=0
def tw9374437279800361694:=0
def tw7558765226374445545:=0
def tw18017280029106890871:=0
def tw11359843753382031464:=0
def tw6742923424796508675:=0
def tw8622652846620173773:=0
def tw15217068975955330932:=0
def tw17521747053316894082:=0
def tw1396825694690283012:=0
def tw11829245339249613440:=0
def tw1531353595909239056:=0
def tw4145522848609104852:=0
def tw14427599015083685530:=0
def tw3543353275368323344:=0
def tw5112099885662209476:=0
def tw17846947983222979642:=0
def tw8470996069734760533:=0
def tw15821755083569207771:=0
def tw10905272339101245127:=0
def tw14865860042387068368:=0
def tw270464491356318325:=0
def tw17234740137028929884:=0
def tw14101202135737835764:=0
def tw17303019936997535167:=0
def tw4565382688433932777:=0
def tw443488289677251042:=0
def tw435620178301213313:=0
def tw4481997043067248848:=0
def tw180433128332068060:=0
def tw8987358749282924547:=0
def tw11835116336819810011:=0
def tw4557618094545551007:=0
def tw2950921951028762357:=0
def tw7768697105006777377:=0
def tw13851442129881960601:=0
def tw7465807630805653902:=0
def tw17924443636414962858:=0
def tw1917033421421761944:=0
def tw11087030649408697995:=0
def tw17925597765860484373:=0
def tw2064039172275973970:=0
def tw14587877122324888713:=0
def tw10363084917655559381:=0
def tw4845156110372030342:=0
def tw12796999879230421972:=0
def tw14349480231090419456:=0
def tw2170050440302913966:=0
def tw6490402866312210052:=0
def tw4429633516037549259:=0
def tw14122361690363633983:=0
def tw526564169576985298:=0
def tw4531328625550041329:=0
def tw14338181959920403513:=0
def tw16625045238166928374:=0
def tw2488650375188457339:=0
def tw7045172216532989911:=0
def tw7696230473511485604:=0
def tw10585684161380122348:=0
def tw5790348714867508365:=0
def tw15936222069319416228:=0
def tw578927007002435927:=0
def tw16604067787799362311:=0
def tw5580530701068038418:=0
def tw12910890190506674792:=0
def tw13584081183810049132:=0
def tw17476178394067645453:=0
def tw310343544781412126:=0
def tw13098762932922681380:=0
def tw11497224963850408312:=0
def tw18104012890276027866:=0
def tw8866397232012826184:=0
def tw6596764844501977467:=0
def tw14534951781177197031:=0
def tw8323070187009265910:=0
def tw4515930185772243032:=0
def tw9927887308918018382:=0
def tw13314928012696061576:=0
def tw7668860281687100946:=0
def tw8095679804337714681:=0
def tw3452183385472028270:=0
def tw13154636744257960601:=0
def tw17901085465693163649:=0
def tw12970040260574765227:=0
def tw7496936982210284924:=0
def tw13942718753966261995:=0
def tw14071263075384317575:=0
def tw17678811955592864240:=0
def tw2910909008114455739:=0
def tw10111739412295881711:=0
def tw2254825808012938479:=0
def tw5260920622106155314:=0
def tw14974409359920206259:=0
def tw7467003218973614252:=0
def tw5552485253890977908:=0
def tw13206161336021911184:=0
def tw8658017267335161519:=0
def tw1521366458581269266:=0
def tw9655578621497451955:=0
def tw18195799154971471786:=0
def tw1829507580553751494:=0
def tw15380835573340140845:=0
def tw12764819817211322780:=0
def tw18167720712894722984:=0
def tw12339797124466323866:=0
def tw1431063264485552000:=0
def tw7055140850427772870:=0
def tw11281387962827923175:=0
def tw10764126689091386246:=0
def tw243036461481452033:=0
def tw11947900938614862729:=0
def tw5894492113987296342:=0
def tw13152114505127936151:=0
def tw16809400645143692948:=0
def tw9214490247136106715:=0
def tw15733851355629209193:=0
def tw7425666780783089819:=0
def tw8006637762932508721:=0
def tw10585024682855897132:=0
def tw10708093866743965842:=0
def tw3753297927105685583:=0
def tw12271169705402984454:=0
def tw15603516024442820991:=0
def tw12370660768416551160:=0
def tw17038061165013239432:=0
def tw13153088032607640578:=0
def tw14914368606007503510:=0
def tw8972165424119592197:=0
def tw5356810468500934856:=0
def tw5873927840169024760:=0
def tw6800595372809822977:=0
def tw15476790448141051896:=0
def tw10053426236339037422:=0
def tw3342349913467635572:=0
def tw17904738855089807172:=0
def tw13703886298207764807:=0
def tw1015812791338252950:=0
def tw13310780129946598980:=0
def tw5594728740186433123:=0
def tw3791322241669415804:=0
def tw13583624564114464837:=0
def tw2319638040023079850:=0
def tw14176024356126063698:=0
def tw13435172700769243624:=0
def tw16165923741249783082:=0
def tw16540495869909354067:=0
def tw9064700876987537550:=0
def tw10407175615703590282:=0
def tw14758206300522707401:=0
def tw1260425038448360892:=0
def tw12591242996237610741:=0
def tw3119484031922708834:=0
def tw5721345630878501091:=0
def tw18109587990306098992:=0
end PySem.W.Fast
namespace Rk
open L2 Dl
def gf(a0 a1 a2 a3 a4 a5:Xb):Str->Xb:=λs=>if s = "place" then a0 else if s = "double" then a1 else if s = "cell" then a2 else if s = "many" then a3 else if s = "row" then a4 else a5
def QrM(a0 a1 a2 a3 a4 a5:Xb):gf a0 a1 a2 a3 a4 a5 "place" = a0:=X9 rfl
def Qne(a0 a1 a2 a3 a4 a5:Xb):gf a0 a1 a2 a3 a4 a5 "double" = a1:=(X8<|by decide).trans<|X9 rfl
def QvZ(a0 a1 a2 a3 a4 a5:Xb):gf a0 a1 a2 a3 a4 a5 "cell" = a2:=(X8<|by decide).trans ((X8<|by decide).trans<|X9 rfl)
def QvX(a0 a1 a2 a3 a4 a5:Xb):gf a0 a1 a2 a3 a4 a5 "many" = a3:=(X8<|by decide).trans ((X8<|by decide).trans<|(X8<|by decide).trans<|X9 rfl)
def Qzj(a0 a1 a2 a3 a4 a5:Xb):gf a0 a1 a2 a3 a4 a5 "row" = a4:=(X8<|by decide).trans ((X8<|by decide).trans<|(X8<|by decide).trans<|(X8<|by decide).trans<|X9 rfl)
def QvY(a0 a1 a2 a3 a4 a5:Xb):gf a0 a1 a2 a3 a4 a5 "deed" = a5:=(X8<|by decide).trans ((X8<|by decide).trans<|(X8<|by decide).trans<|(X8<|by decide).trans<|(X8<|by decide))
def QCi{l:XQ}{w:Jh}{K:Ws}{h:ZF}{mg:Str->Option Xd}{fa aR iD fR fC gD gF eT eW eS gC gB eO gz gA gE eU dA dW e1 e2 e3 e4 e5 e6 e7 e8 e9 lV lU jC oU lT oT dN dM dJ dI eR:Xb}{tgM FG FE FD FA FF FC FH NM NL NK NJ NI NH NG NF ND NC Nz Ny:_}{zA zW:Nat}(X:K.In h)(G:h.Ns Xf mg)(hfa:mg "law" = some (.ref fa))
  (cU:BL K "Bench" aR)
  (hV:Wv K (.ref aR) "kept" = some none)
  (fh:Wv K (.ref aR) "earlier" = some none)
  (fj:BL K "Desk" iD)
  (hG:Wv K (.ref iD) "bench" = some none)
  (d5:FnAt K "is_whole" RU)
  (d6:FnAt K "is_whole_within" UX)
  (d7:FnAt K "is_place" RR)
  (d8:FnAt K "turned" Pf)
  (d9:FnAt K "rest" RT)
  (d10:FnAt K "without" NQ)
  (d11:FnAt K "refuse_no_cell" Pd)
  (d12:FnAt K "pieces" UW)
  (d13:FnAt K "piece_with" NR)
  (d14:FnAt K "meets_one" RQ)
  (d15:FnAt K "counts" UT)
  (d16:FnAt K "most_size" Pc)
  (d17:FnAt K "stand_at" V5)
  (d18:FnAt K "refuse_no_size" RS)
  (d19:FnAt K "followers" yB)
  (d20:FnAt K "row_behind" Pe)
  (d21:FnAt K "cell_at" US)
  (d22:FnAt K "ways_behind" Pj)
  (d23:FnAt K "ways_to_go_on" Pl)
  (d24:FnAt K "ways_with_row" yy)
  (d25:FnAt K "greatest_size" RP)
  (d26:FnAt K "refuse_no_place" yz)
  (d27:FnAt K "refuse_too_many" yx)
  (d28:bS K aR "__init__" "Bench.__init__" QCe)
  (d29:bS K aR "put" "Bench.put" z6)
  (d30:bS K aR "take" "Bench.take" QB9)
  (d31:bS K aR "row" "Bench.row" z5)
  (d32:bS K aR "column" "Bench.column" z7)
  (d33:bS K aR "turn" "Bench.turn" QB8)
  (d34:bS K aR "rest" "Bench.rest" QCa)
  (d35:bS K aR "undo" "Bench.undo" QB7)
  (d36:bS K aR "keep" "Bench.keep" QCd)
  (d37:bS K aR "board" "Bench.board" RI)
  (d38:bS K aR "counts" "Bench.counts" To)
  (d39:bS K aR "most" "Bench.most" QCc)
  (d40:bS K iD "__init__" "Desk.__init__" QBe)
  (d41:bS K iD "say" "Desk.say" y7)
  (d42:FnAt K "written" Pm)
  (d43:FnAt K "written_row" Pn)
  (d44:FnAt K "put_cell" QBN)
  (d45:FnAt K "take_cell" RO)
  (d46:FnAt K "put_row" QBL)
  (d47:FnAt K "put_column" QBT)
  (d48:FnAt K "turn_board" PX)
  (d49:FnAt K "put_rest" RN)
  (d50:FnAt K "undo_deed" PY)
  (d51:FnAt K "tell_board" UE)
  (d52:FnAt K "tell_counts" We)
  (d53:FnAt K "tell_most" R9)
  (d54:FnAt K "tell_stand" UG)
  (d55:FnAt K "tell_pieces" VO)
  (d56:FnAt K "are_two_numbers" Pg)
  (d57:FnAt K "_law_cell_at" TU)
  (d58:FnAt K "_law_pot" yZ)
  (d59:FnAt K "_law_take" QA4)
  (d60:FnAt K "_law_deed" QA8)
  (d61:FnAt K "_law_good_deed" Rh)
  (d62:FnAt K "_law_whole" Rm)
  (d63:FnAt K "_law_is_place" Ri)
  (d64:FnAt K "_law_refused_as" yY)
  (d65:FnAt K "_law_behind" y4)
  (d66:FnAt K "_law_kept" QA7)
  (d67:FnAt K "_law_row_of" TY)
  (d68:FnAt K "_law_kind_of" HR)
  (d69:FnAt K "_law_said" Rj)
  (d70:FnAt K "_law_text" Rl)
  (d71:FnAt K "_law_counts_by_rows" y3)
  (d72:FnAt K "_law_most" QA5)
  (d73:FnAt K "_law_first_stand" AB)
  (d74:FnAt K "_law_lots" QA6)
  (d75:FnAt K "_law_answers" QA9)
  (d76:FnAt K "_law_right" TV)
  (d77:FnAt K "law" sQ)
  (gl:pR K)
  (vE:Wt K Xf "ValueError" = some none)
  (zD:Wt K Xf "dict" = some none)
  (gM:Wt K Xf "MOST_LINES" = some (some<|.int 6 tgM))
  (G8:Wt K Xf "BLANK" = some (some<|.str " " FG))
  (uf:Wt K Xf "DONE" = some (some<|.str "ok" FE))
  (gNo:Wt K Xf "NO_CELLS" = some (some<|.str "none" FD))
  (gTw:Wt K Xf "BEYOND_TWO_FIGURES" = some (some<|.int 100 FA))
  (gCe:Wt K Xf "CELL" = some (some<|.str zZ FF))
  (gOt:Wt K Xf "OTHER" = some (some<|.str zY FC))
  (gBe:Wt K Xf "BETWEEN" = some (some<|.str qT FH))
  (r1:Wt K Xf "rest" = some (some<|.ref fR))
  (r2:Wt K Xf "rest_boards" = some (some<|.ref fR))
  (r3:Wt K Xf "counts" = some (some<|.ref fC))
  (r4:Wt K Xf "counts_stands" = some (some<|.ref fC))
  (uw:Wt K Xf "put_row" = some (some<|.ref gD))
  (uy:Wt K Xf "put_column" = some (some<|.ref gF))
  (o6:Wt K Xf "turn_board" = some (some<|.ref eT))
  (o8:Wt K Xf "put_rest" = some (some<|.ref eW))
  (o5:Wt K Xf "undo_deed" = some (some<|.ref eS))
  (uv:Wt K Xf "tell_board" = some (some<|.ref gC))
  (uu:Wt K Xf "tell_counts" = some (some<|.ref gB))
  (o4:Wt K Xf "tell_most" = some (some<|.ref eO))
  (uq:Wt K Xf "tell_stand" = some (some<|.ref gz))
  (ur:Wt K Xf "tell_pieces" = some (some<|.ref gA))
  (ux:Wt K Xf "put_cell" = some (some<|.ref gE))
  (o7:Wt K Xf "take_cell" = some (some<|.ref eU))
  (nA:Wt K Xf "ALONE" = some (some<|.ref dA))
  (oA:K.lookup dA=some ⟨.type "dict",none,.dict (wW w.params [("row",NM,gD),("column",NL,gF),("turn",NK,eT),("rest",NJ,eW),("undo",NI,eS),("board",NH,gC),("counts",NG,gB),("most",NF,eO),("stand",ND,gz),("pieces",NC,gA)]).toArray zA,#[]⟩)
  (yA:(dA == Xq)=false)
  (nW:Wt K Xf "WITH_PLACE" = some (some<|.ref dW))
  (oW:K.lookup dW=some ⟨.type "dict",none,.dict (wW w.params [("put",Nz,gE),("take",Ny,eU)]).toArray zW,#[]⟩)
  (yW:(dW == Xq)=false)
  (E1:Wt K Xf "NoText" = some (some<|.ref e1))
  (E2:Wt K Xf "NoOrder" = some (some<|.ref e2))
  (E3:Wt K Xf "NoLines" = some (some<|.ref e3))
  (E4:Wt K Xf "TooFew" = some (some<|.ref e4))
  (E5:Wt K Xf "NoSize" = some (some<|.ref e5))
  (E6:Wt K Xf "TooMany" = some (some<|.ref e6))
  (E7:Wt K Xf "NoNumber" = some (some<|.ref e7))
  (E8:Wt K Xf "NoStand" = some (some<|.ref e8))
  (E9:Wt K Xf "NoCell" = some (some<|.ref e9))
  (E10:Wt K Xf "NotSquare" = some (some<|.ref lV))
  (E11:Wt K Xf "NoHits" = some (some<|.ref lU))
  (E12:Wt K Xf "NoCounts" = some (some<|.ref jC))
  (E13:Wt K Xf "NoStairs" = some (some<|.ref oU))
  (E14:Wt K Xf "NotAlike" = some (some<|.ref lT))
  (E15:Wt K Xf "NoParting" = some (some<|.ref oT))
  (E16:Wt K Xf "NoPlace" = some (some<|.ref dN))
  (E17:Wt K Xf "Double" = some (some<|.ref dM))
  (E18:Wt K Xf "NoDeed" = some (some<|.ref dJ))
  (E19:Wt K Xf "NoRow" = some (some<|.ref dI))
  (ER:Wt K Xf "RookError" = some (some<|.ref eR))
  (k6:ot K [e1,e2,e3,e4,e5,e6,e7,e8,e9,lV,lU,jC,oU,lT,oT,dN,dM,dJ,dI] eR e6 "many")
  (q6:Ww K e6 Rx.cu "ValueError.__new__" = true)
  (k9:ot K [e1,e2,e3,e4,e5,e6,e7,e8,e9,lV,lU,jC,oU,lT,oT,dN,dM,dJ,dI] eR e9 "cell")
  (q9:Ww K e9 Rx.cu "ValueError.__new__" = true)
  (k16:ot K [e1,e2,e3,e4,e5,e6,e7,e8,e9,lV,lU,jC,oU,lT,oT,dN,dM,dJ,dI] eR dN "place")
  (FY:Ww K dN Rx.cu "ValueError.__new__" = true)
  (k17:ot K [e1,e2,e3,e4,e5,e6,e7,e8,e9,lV,lU,jC,oU,lT,oT,dN,dM,dJ,dI] eR dM "double")
  (FX:Ww K dM Rx.cu "ValueError.__new__" = true)
  (k18:ot K [e1,e2,e3,e4,e5,e6,e7,e8,e9,lV,lU,jC,oU,lT,oT,dN,dM,dJ,dI] eR dJ "deed")
  (FW:Ww K dJ Rx.cu "ValueError.__new__" = true)
  (k19:ot K [e1,e2,e3,e4,e5,e6,e7,e8,e9,lV,lU,jC,oU,lT,oT,dN,dM,dJ,dI] eR dI "row")
  (FV:Ww K dI Rx.cu "ValueError.__new__" = true)
  : ∃fd:Z3,(∀(s:Xe)(v:Xd),pB s fd ⟨[v],[]⟩ [("_law_script",v)])/\∀base:ZF,K.In base->base.Ns Xf mg->aO l.prog w K mg base ax 13 fa fd ["_law_script"] (J' K):=by
 obtain⟨f,fd,a,F⟩:=d77.ex;cases hfa.symm.trans (WJ X G a);refine⟨fd,λs v=>?_,λbase _ _=>?_⟩
 ·obtain⟨oc,od,kV,doc,pm,an,ao,ct,oC,rfl,lk,bG⟩:=F.ex;exact .of_eq rfl
 have T:=gl.c X G;have dc:∀{x st},FnAt K x st->aB l.prog w K mg base x st:=λd=>d.c X G
 have dm:∀{C m q st},bS K C m q st->bR l.prog w K mg base C m q st:=λd=>d.c
 have mo:∀{x v},Wt K Xf x=some (some v)->mg x=some v:=λe=>WJ X G e
 have Tb:eF K aR:=⟨⟨cU.pg,cU.hd,cU.po,cU.sa⟩,hV,fh⟩;have Td:Fv K iD:=⟨⟨fj.pg,fj.hd,fj.po,fj.sa⟩,hG⟩;have iW:(gf dN dM e9 e6 dI dJ) "place" = dN:=QrM _ _ _ _ _ _;have gn:(gf dN dM e9 e6 dI dJ) "double" = dM:=Qne _ _ _ _ _ _;have lq:(gf dN dM e9 e6 dI dJ) "cell" = e9:=QvZ _ _ _ _ _ _;have lh:(gf dN dM e9 e6 dI dJ) "many" = e6:=QvX _ _ _ _ _ _;have lj:(gf dN dM e9 e6 dI dJ) "deed" = dJ:=QvY _ _ _ _ _ _;have sI:(gf dN dM e9 e6 dI dJ) "row" = dI:=Qzj _ _ _ _ _ _;have oE:∀wd:Str,wd = "row" ∨ wd = "place" ∨ wd = "double" ∨ wd = "cell" ∨ wd = "many" ∨ wd = "deed" -> ot K [e1,e2,e3,e4,e5,e6,e7,e8,e9,lV,lU,jC,oU,lT,oT,dN,dM,dJ,dI] eR ((gf dN dM e9 e6 dI dJ) wd) wd:=by
  rintro wd (rfl | rfl | rfl | rfl | rfl | rfl)
  ·rw[sI];exact k19
  ·rw[iW];exact k16
  ·rw[gn];exact k17
  ·rw[lq];exact k9
  ·rw[lh];exact k6
  ·rw[lj];exact k18
 have pU:=QsJ (dc d5) T;have cX:=QoP (dc d6) T pU;have p0:=QsP (dc d7) T cX;have vF:=Qxg (dc d8) T;have pY:=QsN (dc d9) T;have vK:=Qxo (CN:=(gf dN dM e9 e6 dI dJ) "cell") (dc d11) T p0 (by rw[lq];exact mo E9) (by rw[lq];exact q9);have Nt:=QDT (dc d10) T vK;have p_:=QsQ (dc d14) T;have mQ:=QoQ (dc d13) T p_;have mS:=QoR (dc d12) T mQ;have mT:=Qxq (dc d16) T;have vB:=Qxc (dc d24) T;have mJ:=Qxe (dc d23) T vB;have mZ:=QoV (dc d15) T mJ mT;have BR:=mZ.al X G r3 r4;have qe:=QsT (dc d25) T BR;have mP:=Qxn (dc d20) T;have BQ:=QAR (dc d19) T mP;have pZ:=QsO (dc d18) T cX mT;have vC:=Qxd (dc d22) T mP;have m_:=QoW (dc d21) T BQ vC;have km:=Qma (dc d17) T pZ mJ cX m_;have sG:=QAN (CP:=(gf dN dM e9 e6 dI dJ) "place") (dc d26) T cX (by rw[iW];exact mo E16) (by rw[iW];exact FY);have sF:=QAM (CM:=(gf dN dM e9 e6 dI dJ) "many") ⟨_,mo gM⟩ (dc d27) T (by rw[lh];exact mo E6) (by rw[lh];exact q6);have iB:=Qxw (dm d28) Tb;have cn:=Qxv (dm d36) Tb;have vU:=QAO (dm d29) Tb T sG cn (by rw[gn];exact mo E17) (by rw[gn];exact FX);have qw:=Qs3 (dm d30) Tb sG Nt cn;have vT:=QxB (dm d31) Tb sF cn;have kr:=QxC (dm d32) Tb sF cn;have qu:=Qs2 (xc:=(gf dN dM e9 e6 dI dJ)) (dm d33) Tb vF cn;have Nu:=pY.al X G r1 r2;have qz:=Qs4 (xc:=(gf dN dM e9 e6 dI dJ)) (dm d34) Tb Nu cn;have qt:=Qs1 (xc:=(gf dN dM e9 e6 dI dJ)) (dm d35) Tb (by rw[lj];exact mo E18) (by rw[lj];exact FW);have fE:=QoY (dm d37) Tb;have ko:=Qmb (dm d38) Tb BR;have jT:=Qs5 (dm d39) Tb qe;have BM:=QAJ (dc d43) T (mo gCe)<|mo gOt;have BN:=QAK (dc d42) T (mo gBe) BM;have vQ:=Qxz (dc d44) T Tb (mo uf) vU;have qk:=QsX (dc d45) T Tb (mo uf) qw;have vP:=Qxy (dc d46) T Tb (mo uf) vT;have vS:=QxA (dc d47) T Tb (mo uf) kr;have qj:=QsW (dc d48) T Tb (mo uf) qu;have qm:=QsY (dc d49) T Tb (mo uf) qz;have qi:=QsV (dc d50) T Tb (mo uf) qt;have vJ:=Qxk (dc d51) T Tb fE BN;have vI:=Qxj (dc d52) T Tb (mo G8) ko;have pV:=QsK (dc d53) T Tb jT;have vG:=Qxh (dc d54) T Tb (mo G8) (mo gNo) fE jT km;have vH:=Qxi (dc d55) T Tb fE mS;have vD:=Qxf (dc d56) T<|mo gTw;have qA:=QsZ (dm d40) Td<|cU.i X G iB;have vV:=QAL (xc:=(gf dN dM e9 e6 dI dJ)) (dm d41) T Td (mo G8) (mo nA) (mo nW) (as:=[gD,gF,eT,eW,eS,gC,gB,eO,gz,gA]) (ps:=[gE,eU]) (QB6 [("row",NM,gD),("column",NL,gF),("turn",NK,eT),("rest",NJ,eW),("undo",NI,eS),("board",NH,gC),("counts",NG,gB),("most",NF,eO),("stand",ND,gz),("pieces",NC,gA)] oA (show ji.Nodup by decide) yA) (QB6 [("put",Nz,gE),("take",Ny,eU)] oW (show nZ.Nodup by decide) yW) rfl rfl (As<|.cons (au.at_ vP X G uw)<|.cons (au.at_ vS X G uy)<|.cons (au.at_ qj X G o6)<|.cons (au.at_ qm X G o8)<|.cons (au.at_ qi X G o5)<|.cons (au.at_ vJ.zO X G uv)<|.cons (au.at_ vI.zO X G uu)<|.cons (au.at_ pV.zO X G o4)<|.cons (au.at_ vG.zO X G uq)<|.cons (au.at_ vH.zO X G ur) .nil) (As<|.cons (au.at_ vQ X G ux)<|.cons (au.at_ qk X G o7) .nil) vD (by rw[sI];exact mo E19) (by rw[sI];exact FV);have nh:=QoX (dc d57) T;have BP:=QAP (dc d58) T;have jo:=Qxl (dc d59) T;have BO:=jo.imp λ_ _ _ _ h=>Dl.Qzq h
 have vR:=Qs0 (dc d60) T BO;have vO:=Qxx (dc d61) T vR jo;have mU:=QoS (dc d62) T;have mX:=QoT (dc d63) T mU;have vL:=Qxp (dc d64) T mX;have BS:=QAS (dc d65) T;have vN:=Qxu (C:=aR) (dc d66) T vL BS;have pW:=QsL (dc d67) T;obtain⟨fk,fdk,ak,Fk⟩:=d68.ex;have Gk:Rx.BJ l.prog w K mg base 1 fk fdk ["_law_e"] (xA K [e1,e2,e3,e4,e5,e6,e7,e8,e9,lV,lU,jC,oU,lT,oT,dN,dM,dJ,dI]):=Qxt Fk T (XS X G vE) (mo E1) (mo E2) (mo E3) (mo E4) (mo E5) (mo E6) (mo E7) (mo E8) (mo E9) (mo E10) (mo E11) (mo E12) (mo E13) (mo E14) (mo E15) (mo E16) (mo E17) (mo E18)<|mo E19;have mL:=Qxm (dc d69) Td vV (mo ak) Gk (Fk.binds λ_ _ _ _ _ _=>qB λ_=>rfl) Fk.kp (mo ER) oE;have jS:=QsR (dc d70) T;have mY:=(Qxs (XS X G zD) (dc d71) T).imp λ_ _ _ _ h=>QEr h
 have qd:=QsS (dc d72) T mY;have qf:=QiA (dc d73) T 6;have vM:=Qxr (dc d74) T;have BU:=QAT (dc d75) T qd qf mY jS vM;have pX:=QsM (dc d76) T BU mL;exact QAQ F T (fj.i X G qA) nh BP jo vO vN pW pX mL jS
def QFo{l:XQ}{XP:(Str->Option Xd)->ZF->Prop}{K:Params->Ws}(hn:l.most=some 63)(zy:d.params.defaults=[])
  (hY:∀(w:Jh)(h:ZF),YP w h->(K w.params).In h)
  (F:∀(w:Jh)(mg:Str->Option Xd)(fa:Xb)(h:ZF),(K w.params).In h->h.Ns Xf mg->mg d.name=some (.ref fa) ->
   ∃fd:Z3,(∀(s:Xe)(u:Xd),pB s fd ⟨[u],[]⟩ [("_law_script",u)])/\∀base:ZF,(K w.params).In base->base.Ns Xf mg->aO l.prog w (K w.params) mg base ax 13 fa fd ["_law_script"] (J'<|K w.params)) :
  PySem.W.WalkO q loose XP YP l.row.toRowW d [] (λf vs=>XO f vs):=
 L2.Qv1 hn (by decide) zy ⟨rfl,by decide,by decide,rfl⟩ hY F (λ_ _ a ns hl _ hS=>⟨a,ns,rfl,hS,hl,λ_=>rfl⟩) λ_ _ _ _ _ z=>z
end Rk
open PySem.W
set_option maxRecDepth 100000 in
set_option maxHeartbeats 0 in
theorem PySem.Challenge.cw_rooklands_k92_desks_answer_holds : PySem.Challenge.rw_rooklands_k92_desks_answer.Holds := by
 w_on;o_law;k_head;(case hw=>w_witness2)
 k_fill
 refine Rk.QFo rfl rfl (λw h Y=>PySem.W.kIn_of Y) ?F
 case F=>
  intro w mg fa h KX G zp;refine' Rk.QCi KX G zp ?_ ?_ ?_ ?_ ?_ ?_ ?_ ?_ ?_ ?_ ?_ ?_ ?_ ?_ ?_ ?_ ?_ ?_ ?_ ?_ ?_ ?_ ?_ ?_ ?_ ?_ ?_ ?_ ?_ ?_ ?_ ?_ ?_ ?_ ?_ ?_ ?_ ?_ ?_ ?_ ?_ ?_ ?_ ?_ ?_ ?_ ?_ ?_ ?_ ?_ ?_ ?_ ?_ ?_ ?_ ?_ ?_ ?_ ?_ ?_ ?_ ?_ ?_ ?_ ?_ ?_ ?_ ?_ ?_ ?_ ?_ ?_ ?_ ?_ ?_ ?_ ?_ ?_ ?_ ?_ ?_ ?_ ?_ ?_ ?_ ?_ ?_ ?_ ?_ ?_ ?_ ?_ ?_ ?_ ?_ ?_ ?_ ?_ ?_ ?_ ?_ ?_ ?_ ?_ ?_ ?_ ?_ ?_ ?_ ?_ ?_ ?_ ?_ ?_ ?_ ?_ ?_ ?_ ?_ ?_ ?_ ?_ ?_ ?_ ?_ ?_ ?_ ?_ ?_ ?_ ?_ ?_ ?_ ?_ ?_ ?_ ?_ ?_ ?_ ?_ ?_ ?_ ?_
  all_goals first
   |(refine' Rk.QEd ?a ?l ?c ?k;(case a=>k_is);(case l=>k_is);(case c=>k_is);(case k=>k_is);done)
   |(refine' Rk.QDY ?a ?i ?l ?c ?k;(case a=>k_is);(case i=>k_is);(case l=>k_is);(case c=>k_is);(case k=>k_is);done)
   |(refine' Rk.BL.mk ?a ?b ?c ?d ?e ?f ?g;(case a=>k_is);(case b=>k_is);(case c=>k_is);(case d=>k_is);(case e=>k_is);(case f=>k_is);(case g=>k_is);done)
   |(refine' Rk.pR.mk ?_ ?_ ?_ ?_ ?_ ?_ ?_ ?_ ?_ ?_ ?_ ?_ ?_ ?_ ?_ ?_ ?_ ?_ ?_<;>k_is;done)
   |k_exc
   |(first | refine' Rk.xn 5 ?a ?b ?c ?d ?e ?f ?g ?h ?i ?j ?k ?l ?m ?n ⟨by decide,by decide,by decide,by decide⟩ | refine' Rk.xn 8 ?a ?b ?c ?d ?e ?f ?g ?h ?i ?j ?k ?l ?m ?n ⟨by decide,by decide,by decide,by decide⟩ | refine' Rk.xn 15 ?a ?b ?c ?d ?e ?f ?g ?h ?i ?j ?k ?l ?m ?n ⟨by decide,by decide,by decide,by decide⟩ | refine' Rk.xn 16 ?a ?b ?c ?d ?e ?f ?g ?h ?i ?j ?k ?l ?m ?n ⟨by decide,by decide,by decide,by decide⟩ | refine' Rk.xn 17 ?a ?b ?c ?d ?e ?f ?g ?h ?i ?j ?k ?l ?m ?n ⟨by decide,by decide,by decide,by decide⟩ | refine' Rk.xn 18 ?a ?b ?c ?d ?e ?f ?g ?h ?i ?j ?k ?l ?m ?n ⟨by decide,by decide,by decide,by decide⟩
     (case a=>k_is);(case b=>k_is);(case c=>k_is);(case d=>k_is);(case e=>k_is);(case f=>k_is);(case g=>k_is);(case h=>k_is);(case i=>k_is);(case j=>k_is);(case k=>k_is);(case l=>k_is);(case m=>kit_is);(case n=>repeat (first | exact .nil | refine .cons (by kit_is) ?_));done)
   |k_is
   |rfl
   |decide
   |skip



