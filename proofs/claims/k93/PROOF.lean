import PyProof.Rows.All
import Wide.All
import OpenK.AllK
import Wide.FinOn
import Lean
import PyProof.EqAt
import PyProof.EqKinds
import PyProof.TupleCall
import PyProof.P3Eq
import PyProof.Draws
import PyProof.EnumMake
import PyProof.NeData
import KE.LcSums
import PyProof.WalkInts
import PyProof.SeqI3
import PyProof.StrWalks
import PyProof.StrBlockH
import PyProof.StrLawsTight
import PyProof.NeKinds
import KE.KIntText
import KE.KDictOf
import PyProof.Rows.TupDisplay
import PyProof.Rows.SortRuns
import PyProof.Rows.SortShellK
import KE.KSortTup
import KE.KRevIter
import PyProof.FactsAll.range_2
import PyProof.DictCompW
import PyProof.SetRoads
import PyProof.FactsAll.set_1
import PyProof.Rows.SetFrom
import PyProof.CollectWalk
import PyProof.Walks
import PyProof.TupleIter
import PyProof.TupleKey
import PySem.Challenge.RW_rooklands_k93_rows_that_are_none
import PyProof.ReprReads
import PyProof.FitsInt
local macro_rules | `(tactic| decide) => `(tactic| decide +kernel)
local macro_rules | `(tactic| omega) => `(tactic| first | lia | omega +splitDisjunctions)
open PySem.W renaming Frag->Qa,nsIn->Qi,keepIn->Jq,findIn->Jw,excIn->JN,kia_one->J5,emptyDict->Zg,kitOne->Zh,instObj->ZW,fnOf->Yq,mroIn->Qab,mg_of->Qac,callWith_K->Qad,plainGet->QaJ,codeIn->Qbx,hasDictIn->QbJ,clsIn->QbX,cellsFrom_some->Qb4,methodCall_KW->Qcr,lookIn->QcT,plainGet_of->Qc3,plainOver->Qef,methodObj->Qeg,isFn->Qem,takerIn->Qfq,makesIn->Qfr,OpenLaw->Qfs,typeIn->Qf4,looks_mroIn->Qkb,hideAll_get->Qkc,callWith_K0->Qkd,of_hideAll->Qk1,mg_none_of->Qk2,codeRec_of->Qk3,specialIn->Qlh,kitx_list->Qli,kitx_dict->Qlj,handedIn->Qod,takesIn->Qor,hideAll->Qos,WalkO->Qtd,Looks->Qte
open PySem renaming PyData->Qb,Program->Qm,wpAny_pure->Qo,Expr->QV,World->QZ,Around->Q1,FuncData->JQ,Heap->JS,Stmt->J7,wpAny_truthy_bool->Zp,wpAny_newObj_type->Zq,Paired->Zw,wpAny_holding->ZJ,wpAny_Call_Name_kw->Z1,sizeLine_eq->Z7,wpAny_passesOwn->YN,intText?->YO,call_meets->YT,mem_of_lookup->YU,Scope->Qai,SetTable->Qal,wpAny_of_eq->Qar,codeAny_mono->Qay,wpAny_getItem_str_slice->QaH,wpAny_execs_nil->QaI,NameKind->Qbd,wpAny_comprehension_free->QcD,typeIs_str->QcE,Fin->QcF,wpAny_field->Qc0,Operator->Qc5,wpAny_execs_cons->Qdx,wpAny_call_entry->Qdy,wpAny_pyIter_rangeiter->Qdz,codeAny_compStart_list->QdA,post_val_or_str->Qee,wpAny_call->Qel,wpAny_newFunctionEnv->Qey,Keyword->Qfv,Builtin->Qfx,BindsTo->Qfy,PassesOwn->Qf6,Comprehension->Qga,wpAny_pyIter_list->QgX,wpAny_Return_some->QgY,seqIndex_neg->Qh7,IsPart->Qh9,wpAny_eqBool_int->Qic,noFill_tuple_add->Qid,seqIndex_of->Qj8,Within->Qka,IsRangeIter->Qkf,DictEntry->Qki,wpAny_newFunctionEnv_cells->QkZ,wpAny_loadPart->Qlb,Model->Qlm,wpAny_callSpecial?_slot->Qol,seq_tuple_add->Qom,rangeSize_one->Qon,call->Qoq,wpAny_pyNext_range_end->QrB,wpAny_getItem_list_neg->QrC,wpAny_typeOf->Qs6,wpAny_formatField_int->Qs7,exec_Assign_Name_used->Qs8,concat_meets->Qs9,codeAny_call_function->Qta,Result->Qtc,CmpOp->Qth,wpAny_loadName_local->Qv3,codeAny_call_builtin->Qv4,wpAny_loadName_cell->Qwm,wpAny_Tuple_spliced->Qwn,wpAny_List_spliced->Qzq,wpAny_sequenceKey->QzJ,wpAny_pyIter_enum->QzK,wpAny_assign_Name->QzL,wpAny_Name->QzM,typeIs_int->QzN,slot_list_getitem->QzO
open List renaming length_map->Qc,getElem?_eq_getElem->Qd,getD_eq_getElem?_getD->Qg,length_append->Qj,size_toArray->Ql,length_cons->Qu,mem_map->Qw,mem_singleton->Qy,getElem?_map->Qz,mem_append->QC,mem_cons->QM,range->QN,mem_cons_of_mem->QX,length_range->Q5,getElem?_eq_some_iff->Q6,map_map->Q8,replicate->Jc,map_append->Je,mem_cons_self->Jl,lookup_cons->Jm,mem_filter->Ju,getElem_mem->Jz,all_eq_true->JA,map_cons->JB,getElem?_eq_none->JC,mem_append_right->JJ,mem_range->JM,dropLast_concat_getLast->JP,mem_of_getElem?->J4,getElem?_range->Zb,replicate_succ->Zk,mem_iff_getElem?->Zm,append_nil->Zn,length_set->ZH,mem_toArray->ZO,filterMap_map->ZP,pairwise_iff_getElem->ZV,flatten_cons->Z6,toArray->Ya,lookup->Yc,not_mem_nil->Yi,length_filter_le->Yx,nodup_append->YF,perm_ext_iff_of_nodup->YI,dropLast_concat->YM,take_length->YW,mem_flatMap->YX,length_take->YY,filterMap_cons->Y9,getElem?_replicate->Qam,getElem?_cons_succ->Qan,find?_cons->Qao,any_cons->Qap,getElem?_set_self->QaB,take_add_one->QaF,length_replicate->QaM,any_eq_true->Qa1,pairwise_append->Qa4,mem_append_left->Qa5,getElem?_set_ne->Qa6,nodup_cons->Qbw,mem_filterMap->QbL,getElem?_append_left->QbS,flatMap_cons->Qb2,ext_getElem?->Qb3,filter_cons_of_neg->Qci,all_cons->Qcj,length_drop->Qcs,getElem_map->Qct,filter_eq_nil_iff->Qcx,take_left'->QcU,of_mem_zip->QcV,filterMap_append->QcW,drop_left'->QcX,any_map->QcY,toList_toArray->QdX,map_congr_left->QdY,flatMap_append->QdZ,findIdx?_eq_some_iff_getElem->Qen,pairwise_map->Qfm,getElem?_set->Qfn,map_nil->Qfu,eq_nil_of_length_eq_zero->QfI,range_succ->QgU,getElem?_append_right->Qg2,length_filterMap_le->Qii,sum_cons->Qi0,map_take->Qi1,getElem?_cons_zero->Qi2,flatMap_singleton'->Qi3,filter_cons_of_pos->Qi4,take_of_length_le->Qke,zipWith->Qk4,getElem?_toArray->Qk5,all_map->Qk6,length_dropLast->Qln,getLast?_append->Qlo,filter_sublist->Qof,foldl->QrG,find?->QrH,flatMap_map->Qtg,take_range->Qv9,nil_append->Qwa,length_nil->Qwb,foldl_cons->Qwc,drop_zero->Qwv,take_nil->Qzt,drop_nil->Qzu
open PySem.Str renaming ofString->Qe,join->Qbo,empty->Qc2,cps_append->QdW
open Nat renaming le_refl->Qf,le_trans->Qt,lt_of_lt_of_le->QR,ne_of_lt->Q2,le_of_lt->Ji,zero_le->Jn,lt_of_le_of_lt->Jt,mul_le_mul->ZX,pow_le_pow_right->Z5,lt_irrefl->Yg,le_of_eq->YA,le_add_right->Qa3,lt_trichotomy->Qb6,add_sub_cancel->QeA,lt_succ_of_lt->Qft,succ_mul->QfG,ne_of_gt->QfH,min_le_right->Qf7,two_pow_pos->Qg0,not_lt_zero->Qg1,succ_pos->Qll,mul_le_mul_right->Qoe,pow_le_pow_left->Qov,log2_lt->Qow,add_le_add_left->Qox,le_succ_of_le->Qtf,succ_le_succ->Qv6,lt_succ_self->Qv7,log2_le_self->Qv8,min_eq_left->Qwu
open PySem.Heap renaming get?_push_of_some->Qh,lt_size->Qs,get?_push_size->QD,SameBut->QaN,size_push->QbT,get?_update_other->Qkg,FlyingW->Qz9
open Bool renaming false_ne_true->Qp,and_eq_true_iff->QP,eq_iff_iff->JD,and_eq_true->JY,false_eq_true->Qaq,true_and->Qbe,false_and->QbU,or_eq_true->Qwe,and_false->Qwx
open Or renaming inl->Qx,inr->QL
open Int renaming toNat_natCast->QB,eq_ofNat_of_zero_le->Zc,zero_add->QaP,toNat_of_nonneg->Qeh,add_zero->QfK,le_refl->Qg5,natCast_nonneg->QrI,emod_lt_of_pos->QrJ,emod_nonneg->Qww
open Option.some renaming inj->QH
open PySem.PyData renaming int->QJ,eqv->QY,str->Jk,canLay0->Jx,canLayAll0->Yw,list->YS,tuple->YV,bool->Qaz,depth->Qcw,depthAll->QrF,strOk->Qwt
open PySem.F renaming plainAttrs_str->Q4,plainAttrs_list->Jy,type_str_join->JT,slot_str_join->JU,type_str_split->Ye,slot_str_split->Yf,type_list_append->YQ,slot_list_append->YR,args_tuple_add_2->QbK,entry_tuple_add->QbY,slot_tuple_add->Qb5,slot_range_reversed->QdB,args_str_split_2->Qfw,excBase_ValueError->QfF,slot_dict_getitem->Qf5,entry_str_split->Qf9,slot_str_split->Qg6,type_list_pop->Qig,slot_list_pop->Qih,plain_reversed_new->QrK,excAttr_ValueError->QrL,slot_int_rmul->QAa
open PySem.NameKind renaming free->Jg,cell->Yt
open Array renaming length_toList->Jh,getElem?_eq_getElem->ZS,getD_eq_getD_getElem?->Yu,mem_toList_iff->YJ,toList_append->YZ,getElem_toList->Qa2,perm_iff_toList_perm->QgW,toList->Qkj,mem_of_getElem?->Qkk,getElem?_toList->Qkl,size_append->Qoy,all_toList->QrM
open PySem.Value renaming ref->Jj,none->J6,bool->ZM,int->Qag,builtin->Qah,type->QcS,str->Qf3,float->Qld,isStrOf->Qwq,isInt->QzS,bytes->QzT
open False renaming elim->Jr
open Sum renaming inr->Js,inl->Qc1
open PySem.Builtin.Range renaming rangeFitsLong->JE,rangeSize->Zl,rangeFields->QAf
open True renaming intro->JF
open Option renaming map_eq_some_iff->JG,getD_some->Qot,getD_none->Qou,none->Qzs
open PyProof.Rows renaming slot_tuple_getitem->JR,callWith_type1->Zv,Keyed->Qbz,SortKind->Qcg,AllBare->Qei,assignInOrder_cons->Qf2,IntsAre->Qg4,joinParts_cons->Qlc,listUpdate_at->Qoo,subscriptTail_builtinR->QrD,FormattedValue_plain->Qwd,seqEpoch_at->Qwo,entry_tuple_getitem->Qwp,args_tuple_getitem->Qzr,assignInOrder_nil->QzP,Subscript_->QzU
open PySem.PassesOwn renaming never->J3
open PySem.Builtin.Int renaming intBits->Zd,intTooBig->Qgb
open Prod.mk renaming inj->Zr
open PySem.Txt renaming split->Zy,join->Qez,slice->Qle
open ForInStep renaming yield->Zz
open PySem.Builtin.Str renaming occurrences->ZY,glued->Qc6,partsBetween->Qfo,strKind->Qg7
open PySem.Builtin.Slice renaming slicePlaces->Yr,sliceAdjust->QaQ,sliceApplied->Qd1,slicePartIndex->QAd,sliceFields->QAe
open PySem.Builtin.Tuple renaming tupleExact->Yy,tupleItemsOf->Qd0,tupleIsExact->QAc
open PySem.Builtin.List renaming listTooLong->YB
open PySem.Obj renaming mapSeq->YH
open PySem.Unicode renaming upperOf->Qaa
open PySem.Challenge renaming rw_rooklands_k93_rows_that_are_none->Qas,pw_rooklands_k93_rows_that_are_none->Qws
open PySem.StrLaws renaming glued_eq_join->QaA,partsBetween_eq->QgZ,join_length_le->Qh8,join_split->Qk0,partsFrom->Qlf,upperOf_le3->QzX,found_one->QzY
open List.Pairwise renaming imp_of_mem->Qa7,filter->QfJ,map->Qg3,nil->Qz7
open Classical renaming byContradiction->Qbp
open PySem.SetTable renaming Probe->Qbv,runEnd->Qob
open List.Perm renaming eq_of_pairwise->Qby,refl->Qog
open PySem.Calls renaming spliced_cons->QbI,spliced_nil->QeB,Name_function_global->QgV,callWith_builtin->Qi5,evalArgs_plain->Qk8,Constant_str->Qoh
open Ne renaming symm->Qb1
open PySem.SeqAt.EqAt renaming bool_bool->Qch,str_int->Qie,int_str->Qif
open PySem.Builtin renaming bitAnd->QcZ,bitOr->QdC
open Prod renaming ext->Qc4
open PySem.Around renaming under->QeC
open List.cons renaming inj->Qf8
open Sum.inr renaming inj->Qj9
open PySem.Heap.DictOf renaming new->Qkh
open PySem.Code renaming isFrame->Qk7,isGuard->QAb
open PySem.SeqAt renaming notIn_tupleAt->Qlg,notIn_listAt->Qoc,EqAt->Qop,in_tupleAt->QrE,in_listAt->Qtb
open PySem.PyData.int renaming inj->Qlk
open PySem.Paired renaming length->Qv5
open Sum.inl renaming inj->Qwr
open PySem.Heap.UpToSlots renaming of_keeps->Qzv
open PySem.Heap.IsSliceOf renaming new->Qzw
open PySem.Walks renaming range->QzQ
open PySem.W.WShape renaming has->QzR
open PySem.W.Looks renaming of_pure->QzV,here->QzW
open PySem.EqMixed renaming ne_str_int->QzZ,ne_str_bool->Qz0,ne_int_str->Qz1,ne_bool_str->Qz2,eq_str_int->Qz3,eq_str_bool->Qz4,eq_int_str->Qz5,eq_bool_str->Qz6
open PyProof.Rows.LSm renaming kept_iter->Qz8
open PySem PySem.Spec PyProof.Rows
set_option Elab.async false
set_option linter.all false
set_option maxRecDepth 100000
namespace L2
abbrev Key:=Sum Int Str
def QkK:Key->Value->Bool
 |.inl k,v=>QzS k v
 |.inr x,v=>Qwq x v
def QCL(w:QZ):Key->Int
 |.inl k=>hashInt k
 |.inr x=>hashStr w x
theorem Z3:∀{k:Key}{v:Value},QkK k v=true->(∃i t,k=Qc1 i/\v=Qag i t)∨(∃x t,k=Js x/\v=Qf3 x t)
 |.inl i,v,h=>by
  obtain⟨t,e⟩:=Value.isInt_shape (k:=i) (v:=v) h;exact .inl ⟨i,t,rfl,e⟩
 |.inr x,v,h=>by
  obtain⟨t,e⟩:=Value.isStrOf_shape (x:=x) (v:=v) h;exact .inr ⟨x,t,rfl,e⟩
theorem Qnd(i:Int)(t:Tok):QkK (.inl i) (.int i t)=true:=by simp[QkK,QzS]
theorem Qnc(x:Str)(t:Tok):QkK (.inr x) (.str x t)=true:=by simp[QkK,Qwq]
theorem Qys(a b:Int):decide ((Qc1 a:Key)=Qc1 b)=(a == b):=by
 by_cases e:a=b
 ·subst e;simp
 ·have h:¬(Qc1 a:Key)=Qc1 b:=λq=>e (Qwr q)
  rw[decide_eq_false h];exact(beq_eq_false_iff_ne.mpr e).symm
theorem Qyp(a b:Str):decide ((Js a:Key)=Js b)=decide (a=b):=by
 by_cases e:a=b
 ·subst e;simp
 ·have h:¬(Js a:Key)=Js b:=λq=>e (Qj9 q)
  rw[decide_eq_false h,decide_eq_false e]
theorem Qyr(a:Int)(b:Str):decide ((Qc1 a:Key)=Js b)=false:=decide_eq_false (λq=>nomatch q)
theorem Qyq(a:Str)(b:Int):decide ((Js a:Key)=Qc1 b)=false:=decide_eq_false (λq=>nomatch q)
def mixKind(prog:Qm)(w:QZ):PySem.KeyKind prog w Key where
 is:=QkK
 hash:=QCL w
 inj:=λv a b ha hb=>by
  rcases Z3 ha with⟨i,t,rfl,rfl⟩ | ⟨x,t,rfl,rfl⟩
  ·rcases Z3 hb with⟨j,u,rfl,e⟩ | ⟨y,u,rfl,e⟩
   ·injection e with e1 _;rw[e1]
   ·exact nomatch e
  ·rcases Z3 hb with⟨j,u,rfl,e⟩ | ⟨y,u,rfl,e⟩
   ·exact nomatch e
   ·injection e with e1 _;rw[e1]
 byValue:=λk v h=>by
  rcases Z3 h with⟨i,t,rfl,rfl⟩ | ⟨x,t,rfl,rfl⟩<;>rfl
 pyHash:=λhv h=>by
  rcases Z3 hv with⟨i,t,rfl,rfl⟩ | ⟨x,t,rfl,rfl⟩
  ·exact wpAny_pyHash_int h
  ·exact wpAny_pyHash_str h
 eqBool:=λhu hv h=>by
  rcases Z3 hu with⟨i,t,rfl,rfl⟩ | ⟨x,t,rfl,rfl⟩
  ·rcases Z3 hv with⟨j,u,rfl,rfl⟩ | ⟨y,u,rfl,rfl⟩
   ·rw[Qys] at h;exact Qic h
   ·rw[Qyr] at h;exact Qif i t y u _ _ _ _ h
  ·rcases Z3 hv with⟨j,u,rfl,rfl⟩ | ⟨y,u,rfl,rfl⟩
   ·rw[Qyq] at h;exact Qie x t j u _ _ _ _ h
   ·rw[Qyp] at h;exact wpAny_eqBool_str h
 «strs» := λk x t v h=>by
  rcases Z3 h with⟨i,u,rfl,e⟩ | ⟨y,u,rfl,e⟩
  ·exact nomatch e
  ·injection e with e1 _
   subst e1;cases v<;>rfl
theorem QiE(prog:Qm)(w:QZ)(i:Int)(t:Tok):(mixKind prog w).is (.inl i) (.int i t)=true:=Qnd i t
theorem QaZ(prog:Qm)(w:QZ)(x:Str)(t:Tok):(mixKind prog w).is (.inr x) (.str x t)=true:=Qnc x t
inductive V where
 |non | bl (b:Bool) | int (i:Int) | str (x:Str) | byt (b:Array UInt8) | flt (b:UInt64) | ref (a:Addr) | ty (n:String)
 deriving DecidableEq
def RelV:V->Value->Prop
 |.non,u=>u=J6
 |.bl b,u=>u=ZM b
 |.int i,u=>∃t,u=Qag i t
 |.str x,u=>∃t,u=Qf3 x t
 |.byt b,u=>∃t,u=QzT b t
 |.flt b,u=>∃t,u=Qld b t
 |.ref a,u=>u=Jj a
 |.ty n,u=>u=QcS n
abbrev Vals:List V->List Value->Prop:=Zw RelV
theorem Vals.length{xs:List V}{us:List Value}(r:Vals xs us):xs.length=us.length:=Qv5 r
theorem Vals.get:∀{xs:List V}{us:List Value}{i:Nat}{x:V},Vals xs us->xs[i]? = some x->∃u,us[i]? = some u/\RelV x u
 |_,_,_,_,.nil,e=>by simp at e
 |_,_,0,_,.cons r _,e=>by simp at e;subst e;exact⟨_,rfl,r⟩
 |_,_,i+1,x,.cons _ t,e=>by
  obtain⟨u,h1,h2⟩:=Vals.get (i:=i) (x:=x) t (by simpa using e);exact⟨u,by simpa using h1,h2⟩
theorem Vals.set{x:V}{u:Value}(r:RelV x u):∀{xs:List V}{us:List Value}(i:Nat),Vals xs us->Vals (xs.set i x) (us.set i u)
 |_,_,_,.nil=>.nil
 |_,_,0,.cons _ t=>.cons r t
 |_,_,i+1,.cons q t=>.cons q (Vals.set r i t)
theorem Vals.append:∀{xs ys:List V}{us ws:List Value},Vals xs us->Vals ys ws->Vals (xs++ys) (us++ws)
 |_,_,_,_,.nil,s=>s
 |_,_,_,_,.cons r t,s=>.cons r (Vals.append t s)
theorem Vals.take:∀{xs:List V}{us:List Value}(n:Nat),Vals xs us->Vals (xs.take n) (us.take n)
 |_,_,0,_=>.nil
 |_,_,_+1,.nil=>.nil
 |_,_,n+1,.cons r t=>.cons r (Vals.take n t)
theorem Vals.drop:∀{xs:List V}{us:List Value}(n:Nat),Vals xs us->Vals (xs.drop n) (us.drop n)
 |_,_,0,r=>r
 |_,_,_+1,.nil=>.nil
 |_,_,n+1,.cons _ t=>Vals.drop n t
def RelO:Option V->Option Value->Prop
 |some v,some u=>RelV v u
 |none,none=>True
 |_,_=>False
def KV{κ:Type}:List (κ×V)->List (κ×Value)->Prop:=Zw λ(p:κ×V)(q:κ×Value)=>p.1=q.1/\RelV p.2 q.2
def kV:Key->V
 |.inl i=>.int i
 |.inr x=>.str x
inductive HO where
 /-- a list -/
 |lst (xs:List V)
 /-- a tuple (never changes) -/
 |tup (xs:List V)
 /-- a dict whose keys are ints and texts;one whose keys are tuples of ints and texts (the empty one is both) -/
 |dK (kvs:List (Key×V)) | dT (kvs:List (List Key×V))
 /-- a set of ints: its members,its size -/
 |set (S:Int->Bool) (n:Nat)
 /-- an instance of the class at C,its dict at dx,its attributes -/
 |ins (C dx:Addr) (fs:List (Str×V))
 /-- the dict of the instance at x -/
 |own (x:Addr)
 /-- the dict of an exception -/
 |xd (fs:List (Str×V))
 /-- a bound method,f of x -/
 |met (f x:Addr)
 /-- a range object lo,lo+1,.. below hi -/
 |rng (lo hi:Int)
 /-- a thing that is known to the object (the script;a dict while a loop walks it): read,never written while it is so -/
 |frz (o:Obj) (u:HO)
 /-- a code object's table -/
 |tbl (ps:Array Value)
 /-- any other thing,by what is true of its one object (a def of one's own: SetO a S n:=HO.ext λh=>..) -/
 |ext (φ:JS->Prop)
abbrev Hp:=Addr->Option HO
def upd(H:Hp)(a:Addr)(o:HO):Hp:=λb=>if b=a then some o else H b
theorem upd_same{H:Hp}{a:Addr}{o:HO}:upd H a o a=some o:=by unfold upd;rw[if_pos rfl]
theorem QK{H:Hp}{a b:Addr}{o:HO}(h:b≠a):upd H a o b=H b:=by unfold upd;rw[if_neg h]
theorem Qtr{H:Hp}{a:Addr}{o u:HO}:upd (upd H a o) a u=upd H a u:=by
 funext b;unfold upd;split<;>rfl
theorem QaY{H:Hp}{a b:Addr}{o u:HO}(h:H a=some o)(h':H b=some u)(d:o≠u):a≠b:=by
 intro e;subst e;rw[h] at h';exact d (QH h')
theorem Q7{H:Hp}{a b:Addr}{o:HO}(h:H a=some o)(h':H b=none):a≠b:=by
 intro e;subst e;rw[h] at h';cases h'
def TupN(h:JS)(a:Addr)(items:Array Value):Prop:=∃o,h.get? a=some o/\o.cls=.type "tuple" /\ o.dict=none/\∃n,o.data=.seq items n
theorem TupN.tup{h:JS}{a:Addr}{items:Array Value}(x:TupN h a items):IsTup h a items:=let ⟨o,e,c,_,d⟩:=x;⟨o,e,c,d⟩
theorem TupN.lt{h:JS}{a:Addr}{items:Array Value}(x:TupN h a items):a<h.objs.size:=let ⟨_,e,_⟩:=x;Qs e
theorem TupN.new(h:JS)(items:Array Value):TupN (h.push { cls:=.type "tuple",data:=.seq items }) h.objs.size items:=⟨_,QD _ rfl,rfl,rfl,_,rfl⟩
section
variable(P:Qm)(w:QZ)
def ObjOk(H:Hp)(h:JS)(a:Addr):HO->Prop
 |.lst xs=>xs.length<=sizeLine/\∃(its:List Value)(n:Nat),Vals xs its/\h.get? a=some { cls:=.type "list",data:=.seq its.toArray n }
 |.tup xs=>xs.length<=sizeLine/\∃its:List Value,Vals xs its/\TupN h a its.toArray
 |.dK kvs=>kvs.length<=sizeLine/\(a == sysModules)=false/\∃vs,KV kvs vs/\h.DictOf (mixKind P w) a vs
 |.dT kvs=>kvs.length<=sizeLine/\(a == sysModules)=false/\∃xs:List (List Key×Addr×Value),
   Zw (λ(p:List Key×V)(q:List Key×Addr×Value)=>p.1=q.1/\H q.2.1=some (.tup (p.1.map kV))/\RelV p.2 q.2.2) kvs xs /\
   ∃o es ep,h.get? a=some o/\o.ExactDict/\o.data=.dict es ep/\es.toList=xs.map (entryOfKey (tupleKind (mixKind P w)))/\(xs.map (·.1)).Nodup
 |.set S n=>h.SetOf (intKind P w) a S n
 |.ins C dx fs=>H dx=some (.own a)/\fs.length<=1000/\dx≠a/\h.get? a=some (PySem.W.instObj C dx) /\
   ∃mA,h.Ns1 dx mA/\(∀f,RelO (fs.lookup f) (mA f))/\PySem.Within mA (fs.map (·.1))
 |.own _=>∃o,h.get? a=some o
 |.xd fs=>∃mA,h.Ns1 a mA/\∀f,RelO (fs.lookup f) (mA f)
 |.rng lo hi=>∃t u v,h.get? a=some { cls:=.type "range",data:=.fields #[.int lo t,.int hi u,.int 1 v] }
 |.frz o u=>h.get? a=some o/\ObjOk H h a u
 |.tbl ps=>h.get? a=some { cls:=.none,data:=.fields ps }
 |.met f x=>h.get? a=some (PySem.W.methodObj (.ref f) (.ref x))
 |.ext φ=>φ h/\(∃o,h.get? a=some o)/\∀h1 h2:JS,φ h1->(∀o,h1.get? a=some o->h2.get? a=some o)->φ h2
def HOk(H:Hp)(h:JS):Prop:=∀a o,H a=some o->ObjOk P w H h a o
end
section
variable{P:Qm}{w:QZ}{H H':Hp}{h h':JS}{a:Addr}{o:HO}
theorem ObjOk.lt(x:ObjOk P w H h a o):a<h.objs.size:=by
 cases o with
 |lst xs=>obtain⟨_,_,_,_,e⟩:=x;exact Qs e
 |tup xs=>obtain⟨_,_,_,p⟩:=x;exact p.lt
 |dK kvs=>obtain⟨_,_,_,_,o,_,_,e,_⟩:=x;exact Qs e
 |dT kvs=>obtain⟨_,_,_,_,o,_,_,e,_⟩:=x;exact Qs e
 |set S n=>obtain⟨o,_,_,_,e,_⟩:=x;exact Qs e
 |ins C dx fs=>obtain⟨_,_,_,e,_⟩:=x;exact Qs e
 |own y=>obtain⟨_,e⟩:=x;exact Qs e
 |xd fs=>obtain⟨_,⟨_,_,_,e,_⟩,_⟩:=x;exact Qs e
 |rng lo hi=>obtain⟨_,_,_,e⟩:=x;exact Qs e
 |frz ob u=>obtain⟨e,_⟩:=x;exact Qs e
 |tbl ps=>exact Qs (show h.get? a=some _ from x)
 |met f y=>exact Qs (show h.get? a=some _ from x)
 |ext φ=>obtain⟨_,⟨_,e⟩,_⟩:=x;exact Qs e
theorem Zw.mapP{α β:Type}{F G:α->β->Prop}:∀{l₁:List α}{l₂:List β},Zw F l₁ l₂->(∀a b,F a b->G a b)->Zw G l₁ l₂
 |_,_,.nil,_=>.nil
 |_,_,.cons r t,f=>.cons (f _ _ r) (Zw.mapP t f)
theorem ObjOk.stay(x:ObjOk P w H h a o)(k:∀b u,(b=a∨H b=some (.own a))->h.get? b=some u->h'.get? b=some u)
  (ho:∀b,H b=some (.own a)->H' b=some (.own a))(ht:∀b xs,H b=some (.tup xs)->H' b=some (.tup xs)):ObjOk P w H' h' a o:=by
 induction o with
 |lst xs=>obtain⟨z,its,n,r,e⟩:=x;exact⟨z,its,n,r,k _ _ (.inl rfl) e⟩
 |tup xs=>obtain⟨z,its,r,ob,e,c⟩:=x;exact⟨z,its,r,ob,k _ _ (.inl rfl) e,c⟩
 |dK kvs=>obtain⟨z,y,vs,r,ob,es,ep,e,c⟩:=x;exact⟨z,y,vs,r,ob,es,ep,k _ _ (.inl rfl) e,c⟩
 |dT kvs=>
  obtain⟨z,y,xs,r,ob,es,ep,e,c⟩:=x;exact⟨z,y,xs,Zw.mapP r λp q z=>⟨z.1,ht _ _ z.2.1,z.2.2⟩,ob,es,ep,k _ _ (.inl rfl) e,c⟩
 |set S n=>obtain⟨ob,es,ep,t,e,c⟩:=x;exact⟨ob,es,ep,t,k _ _ (.inl rfl) e,c⟩
 |ins C dx fs=>
  obtain⟨d,z,ne,e,mA,⟨od,es,ep,e2,c⟩,r⟩:=x;exact⟨ho _ d,z,ne,k _ _ (.inl rfl) e,mA,⟨od,es,ep,k _ _ (.inr d) e2,c⟩,r⟩
 |own y=>obtain⟨ob,e⟩:=x;exact⟨ob,k _ _ (.inl rfl) e⟩
 |xd fs=>obtain⟨mA,⟨od,es,ep,e,c⟩,r⟩:=x;exact⟨mA,⟨od,es,ep,k _ _ (.inl rfl) e,c⟩,r⟩
 |rng lo hi=>obtain⟨t,u,v,e⟩:=x;exact⟨t,u,v,k _ _ (.inl rfl) e⟩
 |frz ob u ih=>obtain⟨e,q⟩:=x;exact⟨k _ _ (.inl rfl) e,ih q⟩
 |tbl ps=>
  have e:h.get? a=some { cls:=.none,data:=.fields ps }:=x;show h'.get? a=some { cls:=.none,data:=.fields ps };exact k a _ (.inl rfl) e
 |met f y=>
  have e:h.get? a=some (PySem.W.methodObj (.ref f) (.ref y)):=x;show h'.get? a=some (PySem.W.methodObj (.ref f) (.ref y));exact k a _ (.inl rfl) e
 |ext φ=>obtain⟨p,⟨o,e⟩,st⟩:=x;exact⟨st _ _ p λo q=>k _ _ (.inl rfl) q,⟨o,k _ _ (.inl rfl) e⟩,st⟩
theorem HOk.lt(x:HOk P w H h)(e:H a=some o):a<h.objs.size:=(x a o e).lt
theorem HOk.fresh(x:HOk P w H h)(e:h.objs.size<=a):H a=none:=by
 cases q:H a with
 |none=>rfl
 |some u=>exact absurd (QR (x.lt q) e) (Yg _)
theorem HOk.kept(x:HOk P w H h)(k:∀b u,h.get? b=some u->h'.get? b=some u):HOk P w H h':=λa o e=>
 (x a o e).stay (λb u _ q=>k b u q) (λ_ q=>q) λ_ _ q=>q
theorem HOk.laid(x:HOk P w H h)(k:∀b u,h.get? b=some u->h'.get? b=some u)(hp:h.objs.size<=a)(new:ObjOk P w (upd H a o) h' a o):HOk P w (upd H a o) h':=λb u e=>by
 have hn:=x.fresh hp;by_cases hb:b=a
 ·subst hb;rw[upd_same] at e;cases e;exact new
 ·rw[QK hb] at e;exact(x b u e).stay (λc v _ q=>k c v q) (λc q=>by rw[QK (Q7 q hn)];exact q) λc xs q=>by rw[QK (Q7 q hn)];exact q
end
def Rd(H:Hp)(a:Addr)(u:HO):Prop:=H a=some u∨∃o,H a=some (.frz o u)
theorem Rd.ok{P:Qm}{w:QZ}{H:Hp}{h:JS}{a:Addr}{u:HO}(r:Rd H a u)(x:HOk P w H h):ObjOk P w H h a u:=by
 rcases r with r | ⟨o,r⟩
 ·exact x a u r
 ·obtain⟨_,q⟩:=x a _ r;exact q
def Mut:Option HO->Prop
 |some (.lst _)=>True
 |some (.dK _)=>True
 |some (.dT _)=>True
 |some (.set _ _)=>True
 |some (.ins _ _ _)=>True
 |some (.ext _)=>True
 |_=>False
section
variable{P:Qm}{w:QZ}{H:Hp}{h h':JS}{x e:Addr}{o':HO}
theorem HOk.write(ok:HOk P w H h)(mu:Mut (H x))(he:e=x∨H e=some (.own x))(k:∀b u,b≠e->h.get? b=some u->h'.get? b=some u)(heo:∃u,h'.get? e=some u)
  (new:ObjOk P w (upd H x o') h' x o'):HOk P w (upd H x o') h':=λb u q=>by
 have nown:∀c y,H c=some (.own y)->c≠x:=λc y r z=>by subst z;rw[r] at mu;exact mu
 have ntup:∀c xs,H c=some (.tup xs)->c≠x:=λc xs r z=>by subst z;rw[r] at mu;exact mu
 by_cases hb:b=x
 ·subst hb;rw[upd_same] at q;cases q;exact new
 ·rw[QK hb] at q;by_cases hbe:b=e
  ·have q':H b=some (.own x):=by
    rcases he with z | z
    ·exact absurd (hbe.trans z) hb
    ·rw[hbe];exact z
   rw[q] at q';cases q';obtain⟨v,hv⟩:=heo;exact⟨v,by rw[hbe];exact hv⟩
  ·refine(ok b u q).stay (λc v hc r=>k c v ?_ r) (λc r=>by rw[QK (nown c b r)];exact r) λc xs r=>by rw[QK (ntup c xs r)];exact r
   rcases hc with rfl | hc
   ·exact hbe
   ·rintro rfl;rcases he with z | z
    ·exact nown c b hc z
    ·rw[hc] at z;cases z;exact hb rfl
end
structure Un (fs ex:List Addr) (H H':Hp) (h h':JS):Prop where
 keep:∀b o,h.get? b=some o->H b=none->b∉fs->b∉ex->h'.get? b=some o
 slot:∀b o,h.get? b=some o->H b=none->b∈fs->b∉ex->∃sl,h'.get? b=some { o with slots:=sl }
 free:∀b o,h.get? b=some o->H b=none->b∉ex->H' b=none
 there:∀b o,h.get? b=some o->b∉ex->∃o',h'.get? b=some o'
 tups:∀b xs,H b=some (.tup xs)->H' b=some (.tup xs)
 frzs:∀b o u,H b=some (.frz o u)->H' b=some (.frz o u)
 tbls:∀b ps,H b=some (.tbl ps)->∃more,H' b=some (.tbl (ps++more))
section
variable{fs fs' ex ex':List Addr}{H H1 H2:Hp}{h h1 h2 h':JS}{a x e:Addr}{o:HO}
theorem Un.any(u:Un fs ex H H1 h h1){b:Addr}{ob:Obj}(q:h.get? b=some ob)(n:H b=none)(hx:b∉ex):∃sl,h1.get? b=some { ob with slots:=sl }:=by
 by_cases hb:b∈fs
 ·exact u.slot b ob q n hb hx
 ·exact⟨ob.slots,u.keep b ob q n hb hx⟩
theorem Un.kept(k:∀b u,h.get? b=some u->h'.get? b=some u):Un fs ex H H h h':=
 ⟨λb ob q _ _ _=>k b ob q,λb ob q _ _ _=>⟨ob.slots,k b ob q⟩,λ_ _ _ n _=>n,λb ob q _=>⟨ob,k b ob q⟩,λ_ _ q=>q,λ_ _ _ q=>q,λ_ ps q=>⟨#[],by rw[q];simp⟩⟩
theorem Un.refl:Un fs ex H H h h:=Un.kept λ_ _ q=>q
theorem Un.laid(k:∀b u,h.get? b=some u->h'.get? b=some u)(hp:h.objs.size<=a)(hn:H a=none):Un fs ex H (upd H a o) h h' where
 keep:=λb u q _ _ _=>k b u q
 slot:=λb u q _ _ _=>⟨u.slots,k b u q⟩
 free:=λb u q n _=>by rw[QK (Q2 (QR (Qs q) hp))];exact n
 there:=λb u q _=>⟨u,k b u q⟩
 tups:=λb xs q=>by rw[QK (Q7 q hn)];exact q
 frzs:=λb u xs q=>by rw[QK (Q7 q hn)];exact q
 tbls:=λb ps q=>⟨#[],by rw[QK (Q7 q hn),q];simp⟩
theorem Un.write(mu:Mut (H x))(he:e=x∨H e=some (.own x))(k:∀b u,b≠e->h.get? b=some u->h'.get? b=some u)(heo:∃u,h'.get? e=some u):Un fs ex H (upd H x o) h h':=by
 have hx:∀b,H b=none->b≠x:=λb n z=>by subst z;rw[n] at mu;exact mu
 have hb:∀b,H b=none->b≠e:=λb n z=>by
  subst z;rcases he with r | r
  ·exact hx b n r
  ·rw[n] at r;cases r
 have hm:∀b u,H b=some u->¬Mut (some u)->b≠x:=λb u q nm z=>by subst z;rw[q] at mu;exact nm mu
 refine⟨λb u q n _ _=>k b u (hb b n) q,λb u q n _ _=>⟨u.slots,k b u (hb b n) q⟩,λb u q n _=>by rw[QK (hx b n)];exact n,λb u q _=>?_,
  λb xs q=>by rw[QK (hm b _ q λz=>z)];exact q,λb u xs q=>by rw[QK (hm b _ q λz=>z)];exact q,λb ps q=>⟨#[],by rw[QK (hm b _ q λz=>z),q];simp⟩⟩
 by_cases hbe:b=e
 ·subst hbe;exact heo
 ·exact⟨u,k b u hbe q⟩
end
def trk(h:JS)(H:Hp):List Addr:=(QN h.objs.size).filter λa=>(H a).isSome
def Qp8(h:JS)(H:Hp):JS:=PySem.W.hideAll h (trk h H)
theorem Qnn(h:JS)(H:Hp):(Qp8 h H).objs.size=h.objs.size:=PySem.W.hideAll_size _ _
theorem Qp7{h:JS}{H:Hp}{b:Addr}{o:Obj}(e:h.get? b=some o)(n:H b=none):(Qp8 h H).get? b=some o:=
 PySem.W.hideAll_get _ e λhm=>by
  have q:(H b).isSome=true:=(Ju.mp hm).2;rw[n] at q;simp at q
theorem Qu3{h:JS}{H:Hp}{b:Addr}{o:Obj}(e:(Qp8 h H).get? b=some o):h.get? b=some o/\H b=none:=by
 have e':h.get? b=some o:=PySem.W.of_hideAll (trk h H) e;refine⟨e',?_⟩;cases q:H b with
 |none=>rfl
 |some x=>
  have hm:b∈trk h H:=Ju.mpr ⟨JM.mpr (Qs e'),by simp[q]⟩;have z:(Qp8 h H).get? b=none:=PySem.W.hideAll_none (trk h H) hm;rw[z] at e;cases e
def QvZ(g h:JS)(L:Addr):List (Addr×Obj):=(QN h.objs.size).filterMap λa=>if a=L∨(g.get? a).isSome=true then none else(h.get? a).map λo=>(a,o)
def rest(g h:JS)(L d:Addr):List (Addr×Obj):=(QvZ g h L).filter λp=>decide (p.1≠d)
structure Mod (K:PySem.W.Frag) (mg:Str->Option Value) (base:JS):Prop where
 kin:K.In base
 glob:base.Ns mainGlobals mg
 blt:∃mb,base.Ns builtinsNs mb/\∀x:Str,x ≠ "__name__" -> mb x=bootBuiltins x
 nolimit:base.NoLimit
structure Cx where
 prog:Qm
 w:QZ
 K:PySem.W.Frag
 mg:Str->Option Value
 base:JS
 A:Q1
 N:List Str
 s₀:Shared
 H₀:Hp
 env:Env
 outer:List Env
 stack:List Env
 ex:List Addr
 fn:Str->Bool
 calm:Bool
 pn:List (Addr×Obj)
 xe:Value->Shared->Prop
def frs(l:List Env):List Addr:=l.filterMap (·.frame)
abbrev Cx.fs (X:Cx):List Addr:=frs X.outer
def Vis(sc:Qai)(x:Str):Prop:=sc.names.lookup x=some .local∨sc.names.lookup x=some .cell∨sc.names.lookup x=some .free
def Loc(sc:Qai)(x:Str):Prop:=sc.names.lookup x=some .local∨sc.names.lookup x=some .cell
def Look(env:Env)(h:JS)(m:Str->Option Value)(x:Str)(u:Value):Prop:=
 (env.kindOf x=some .local/\m x=some u)∨((env.kindOf x=some .cell∨env.kindOf x=some .free)/\∃c,env.cells.lookup x=some c/\h.IsCell c (some u))
structure Cx.Ok (X:Cx):Prop where
 mod:Mod X.K X.mg X.base
 kind:X.env.scope.kind=.function
 glob:X.env.globals=mainGlobals
 blt:X.env.builtins=builtinsNs
 above:X.s₀.heap.objs.size<=X.env.locals
 inj:∀x y c,X.env.cells.lookup x=some c->X.env.cells.lookup y=some c->x=y
 has:∀x,(X.env.kindOf x=some .cell∨X.env.kindOf x=some .free)->∃c,X.env.cells.lookup x=some c
 cab:∀x c,X.fn x=true->X.env.cells.lookup x=some c->X.s₀.heap.objs.size<=c
 hd:X.calm=true->X.A.handled=none
 frames:X.A.frames=some X.stack
 stk:X.stack=X.outer∨(X.stack=X.env::X.outer/\X.env.frame=some X.env.locals)
 exf:∀b∈X.ex,b≠X.env.locals/\∀x c,X.env.cells.lookup x=some c->c≠b
 bs:∀b o,X.base.get? b=some o->X.s₀.heap.get? b=some o/\X.H₀ b=none
 bsz:X.base.objs.size<=X.s₀.heap.objs.size
 noex:∀b o,X.base.get? b=some o->b∉X.ex
 exfs:∀b∈X.ex,b∉X.fs
 funs:X.s₀.heap.FunFrames X.base X.outer
 frf:∀b∈X.fs,X.H₀ b=none
structure Inv (X:Cx) (pins:List (Addr×Obj)) (σ:List (Option V)) (H:Hp) (s:Shared):Prop where
 ok:X.Ok
 os:s.os=X.s₀.os
 bare:Qei s.gens
 base:Un X.fs X.ex X.H₀ H X.s₀.heap s.heap
 loc:∃m,s.heap.Ns X.env.locals m/\∀(i:Nat)(x:Str)(v:V),X.N[i]? = some x->σ[i]? = some (some v)->Vis X.env.scope x->∃u,RelV v u/\Look X.env s.heap m x u
 cell:∀x c,X.env.cells.lookup x=some c->∃v,s.heap.IsCell c v
 free:H X.env.locals=none
 freeC:∀x c,X.env.cells.lookup x=some c->H c=none
 pin:∀p∈X.pn++pins,s.heap.get? p.1=some p.2/\H p.1=none/\p.1≠X.env.locals/\p.1∉X.fs/\∀v,p.2.data≠.cell v
 hok:HOk X.prog X.w H s.heap
 len:σ.length=X.N.length
section
variable{X:Cx}{pins:List (Addr×Obj)}{σ:List (Option V)}{H H':Hp}{s:Shared}{h':JS}
theorem Cx.Ok.nofr(ok:X.Ok){b:Addr}{o:Obj}(e:X.base.get? b=some o):b∉X.fs:=λhb=>by
 have:=(ok.funs.mem hb).1;rw[e] at this;cases this
theorem Inv.bs(I:Inv X pins σ H s):∀b o,X.base.get? b=some o->s.heap.get? b=some o/\H b=none:=λb o e=>
 ⟨I.base.keep b o (I.ok.bs b o e).1 (I.ok.bs b o e).2 (I.ok.nofr e) (I.ok.noex b o e),I.base.free b o (I.ok.bs b o e).1 (I.ok.bs b o e).2 (I.ok.noex b o e)⟩
theorem Inv.bk(I:Inv X pins σ H s):∀b o,X.base.get? b=some o->s.heap.get? b=some o:=λb o e=>(I.bs b o e).1
theorem Inv.mod(I:Inv X pins σ H s):Mod X.K X.mg X.base:=I.ok.mod
theorem Inv.kIn(I:Inv X pins σ H s):X.K.In s.heap:=I.ok.mod.kin.keeps I.bk
theorem Inv.fr(I:Inv X pins σ H s):∃m,Fr X.base X.env.locals s.heap m:=
 let ⟨m,hn,_⟩:=I.loc
 ⟨m,hn,I.bk,Qt I.ok.bsz I.ok.above⟩
theorem Inv.lt(I:Inv X pins σ H s):X.env.locals<s.heap.objs.size:=let ⟨_,hn,_⟩:=I.loc;hn.lt
theorem Inv.sz(I:Inv X pins σ H s):X.s₀.heap.objs.size<=s.heap.objs.size:=Qt I.ok.above (Ji I.lt)
theorem Inv.nofs(I:Inv X pins σ H s){a:Addr}(h:s.heap.objs.size<=a):a∉X.fs:=λhb=>by
 obtain⟨_,o,ho,_⟩:=I.ok.funs.mem hb;exact absurd (QR (Qs ho) (Qt I.sz h)) (Yg _)
theorem Inv.cne(I:Inv X pins σ H s):∀x c,X.env.cells.lookup x=some c->c≠X.env.locals:=λx c e z=>by
 obtain⟨v,o,ho,hd⟩:=I.cell x c e;obtain⟨m,⟨o',es,ep,ho',hd',_⟩,_⟩:=I.loc;rw[z,ho'] at ho;cases ho;rw[hd'] at hd;cases hd
theorem Inv.funs(I:Inv X pins σ H s):s.heap.FunFrames X.base X.outer:=by
 have all:∀(l:List Env),(∀b∈frs l,b∈X.fs)->X.s₀.heap.FunFrames X.base l->s.heap.FunFrames X.base l:=by
  intro l;induction l with
  |nil=>intro _ _;trivial
  |cons env r ih=>
   intro hs hl;obtain⟨hk,⟨L,o,hf,hn,ho,hd⟩,hr⟩:=hl;have hL:L∈X.fs:=hs L (by unfold frs;rw[Y9,hf];exact Jl);obtain⟨sl,e⟩:=I.base.slot L o ho (I.ok.frf L hL) hL λz=>I.ok.exfs L z hL
   exact⟨hk,⟨L,_,hf,hn,e,hd⟩,ih (λb hb=>hs b (by unfold frs;rw[Y9,hf];exact QX _ hb)) hr⟩
 exact all X.outer (λ_ hb=>hb) I.ok.funs
theorem Inv.stack(I:Inv X pins σ H s):s.heap.FunFrames X.base X.stack:=by
 rcases I.ok.stk with e | ⟨e,hf⟩
 ·rw[e];exact I.funs
 ·rw[e];obtain⟨m,hn,_⟩:=I.loc;refine .cons (by rw[I.ok.kind];decide) hf hn ?_ I.funs
  exact Heap.get?_none_of_le (Qt I.ok.bsz I.ok.above)
theorem Inv.stkSub(I:Inv X pins σ H s):∀b∈frs X.stack,b∈X.env.locals::X.fs:=λb hb=>by
 rcases I.ok.stk with e | ⟨e,hf⟩
 ·rw[e] at hb;exact QX _ hb
 ·rw[e] at hb;unfold frs at hb;rw[Y9,hf] at hb;exact hb
theorem Inv.stkFree(I:Inv X pins σ H s):∀b∈frs X.stack,H b=none:=λb hb=>by
 rcases QM.mp (I.stkSub b hb) with e | hb
 ·rw[e];exact I.free
 ·obtain⟨_,o,ho,_⟩:=I.ok.funs.mem hb;exact I.base.free b o ho (I.ok.frf b hb) λz=>I.ok.exfs b z hb
theorem Inv.step{g':Array GenState}{t':Nat}{d':Drawn}{ch:List Addr}(I:Inv X pins σ H s)
  (hch:∀b∈ch,(b∈X.ex∨X.s₀.heap.objs.size<=b)/\b≠X.env.locals/\(∀x c,X.env.cells.lookup x=some c->c≠b)/\∀p∈X.pn++pins,p.1≠b)
  (keep:∀b o,b≠X.env.locals->b∉X.fs->b∉ch->s.heap.get? b=some o->H b=none->h'.get? b=some o)
  (slot:∀b o,b≠X.env.locals->b∈X.fs->b∉ch->s.heap.get? b=some o->H b=none->∃sl,h'.get? b=some { o with slots:=sl })(free:∀b o,b∉ch->s.heap.get? b=some o->H b=none->H' b=none)
  (there:∀b o,b∉ch->s.heap.get? b=some o->∃o',h'.get? b=some o')
  (tups:∀b xs,H b=some (.tup xs)->H' b=some (.tup xs))(frzs:∀b o u,H b=some (.frz o u)->H' b=some (.frz o u))(tbls:∀b ps,H b=some (.tbl ps)->∃more,H' b=some (.tbl (ps++more)))
  (ns:∀m,s.heap.Ns X.env.locals m->h'.Ns X.env.locals m)(hok:HOk X.prog X.w H' h')(hg:Qei g') :
  Inv X pins σ H' { s with heap:=h',gens:=g',drawn:=d',toks:=t' }:=by
 have neL:∀b o,X.s₀.heap.get? b=some o->b≠X.env.locals:=λb o e=>Q2 (QR (Qs e) I.ok.above)
 have neC:∀b o,X.s₀.heap.get? b=some o->b∉X.ex->b∉ch:=λb o e hx hb=>by
  rcases(hch b hb).1 with z | z
  ·exact hx z
  ·exact absurd (QR (Qs e) z) (Yg _)
 have cellK:∀x c,X.env.cells.lookup x=some c->∀v,s.heap.IsCell c v->h'.IsCell c v:=λx c e v ⟨o,ho,hd⟩=>by
  have nch:c∉ch:=λz=>(hch c z).2.2.1 x c e rfl
  by_cases hc:c∈X.fs
  ·obtain⟨sl,q⟩:=slot c o (I.cne x c e) hc nch ho (I.freeC x c e);exact⟨_,q,hd⟩
  ·exact⟨o,keep c o (I.cne x c e) hc nch ho (I.freeC x c e),hd⟩
 refine⟨I.ok,I.os,hg,⟨λb o e n hb hx=>?_,λb o e n hb hx=>?_,λb o e n hx=>?_,λb o e hx=>?_,λb xs e=>tups b xs (I.base.tups b xs e),λb o xs e=>frzs b o xs (I.base.frzs b o xs e),λb ps e=>?_⟩,?_,λx c e=>?_,?_,λx c e=>?_,λp hp=>?_,hok,I.len⟩
 ·exact keep b o (neL b o e) hb (neC b o e hx) (I.base.keep b o e n hb hx) (I.base.free b o e n hx)
 ·obtain⟨sl,e1⟩:=I.base.slot b o e n hb hx;obtain⟨sl',e2⟩:=slot b _ (neL b o e) hb (neC b o e hx) e1 (I.base.free b o e n hx);exact⟨sl',e2⟩
 ·obtain⟨o',e1⟩:=I.base.there b o e hx;exact free b o' (neC b o e hx) e1 (I.base.free b o e n hx)
 ·obtain⟨o',e1⟩:=I.base.there b o e hx;exact there b o' (neC b o e hx) e1
 ·obtain⟨m1,e1⟩:=I.base.tbls b ps e;obtain⟨m2,e2⟩:=tbls b _ e1;exact⟨m1++m2,by rw[e2,Array.append_assoc]⟩
 ·obtain⟨m,hn,hl⟩:=I.loc;refine⟨m,ns m hn,λi x v e1 e2 e3=>?_⟩;obtain⟨u,r,l⟩:=hl i x v e1 e2 e3;refine⟨u,r,?_⟩;rcases l with l | ⟨k,c,e,z⟩
  ·exact .inl l
  ·exact .inr ⟨k,c,e,cellK x c e _ z⟩
 ·obtain⟨v,z⟩:=I.cell x c e;exact⟨v,cellK x c e v z⟩
 ·obtain⟨m,⟨o,_,_,ho,_⟩,_⟩:=I.loc;exact free _ o (λz=>(hch _ z).2.1 rfl) ho I.free
 ·obtain⟨v,o,ho,hd⟩:=I.cell x c e;exact free c o (λz=>(hch c z).2.2.1 x c e rfl) ho (I.freeC x c e)
 ·obtain⟨e,n,ne,nf,d⟩:=I.pin p hp;have nch:p.1∉ch:=λz=>(hch p.1 z).2.2.2 p hp rfl
  exact⟨keep p.1 p.2 ne nf nch e n,free p.1 p.2 nch e n,ne,nf,d⟩
theorem Inv.un{t':Nat}(I:Inv X pins σ H s)(u:Un X.fs [] H H' s.heap h')(hok:HOk X.prog X.w H' h'):Inv X pins σ H' { s with heap:=h',toks:=t' }:=by
 obtain⟨m,⟨o,es,ep,ho,r⟩,_⟩:=id I.loc;obtain⟨sl,hL⟩:=u.any ho I.free (by simp);exact I.step (g':=s.gens) (d':=s.drawn) (ch:=[]) (λ_ z=>nomatch z) (λb o _ hb _ e n=>u.keep b o e n hb (by simp)) (λb o _ hb _ e n=>u.slot b o e n hb (by simp)) (λb o _ e n=>u.free b o e n (by simp)) (λb o _ e=>u.there b o e (by simp)) u.tups u.frzs u.tbls (λm' hm=>by
  obtain⟨o',es',ep',ho',r'⟩:=hm;rw[ho] at ho';cases ho';exact⟨_,es',ep',hL,r'⟩) hok I.bare
theorem Inv.call{g':Array GenState}{t':Nat}{d':Drawn}{ch:List Addr}(I:Inv X pins σ H s)(u:Un (frs X.stack) ch H H' s.heap h')(hok:HOk X.prog X.w H' h')(hg:Qei g')
  (hch:∀b∈ch,(b∈X.ex∨X.s₀.heap.objs.size<=b)/\b≠X.env.locals/\(∀x c,X.env.cells.lookup x=some c->c≠b)/\∀p∈X.pn++pins,p.1≠b) :
  Inv X pins σ H' { s with heap:=h',gens:=g',drawn:=d',toks:=t' }:=by
 obtain⟨m,⟨o,es,ep,ho,r⟩,_⟩:=id I.loc;obtain⟨sl,hL⟩:=u.any ho I.free λz=>(hch _ z).2.1 rfl
 exact I.step (ch:=ch) hch (λb o hL hb hc e n=>u.keep b o e n (λz=>(QM.mp (I.stkSub b z)).elim hL hb) hc) (λb o _ _ hc e n=>u.any e n hc) (λb o hc e n=>u.free b o e n hc) (λb o hc e=>u.there b o e hc) u.tups u.frzs u.tbls (λm' hm=>by
  obtain⟨o',es',ep',ho',r'⟩:=hm;rw[ho] at ho';cases ho';exact⟨_,es',ep',hL,r'⟩) hok hg
theorem Inv.turned{t':Nat}{it:Addr}(I:Inv X pins σ H s)(k:∀b o,b≠it->s.heap.get? b=some o->h'.get? b=some o)(hn:H it=none)(hL:it≠X.env.locals)
  (h1:it∈X.ex∨X.s₀.heap.objs.size<=it)(h2:∀x c,X.env.cells.lookup x=some c->c≠it)(h3:∀p∈X.pn++pins,p.1≠it):Inv X pins σ H { s with heap:=h',toks:=t' }:=by
 have nit:∀b u,H b=some u->b≠it:=λb u e z=>by rw[z,hn] at e;cases e
 refine I.step (g':=s.gens) (d':=s.drawn) (ch:=[it]) (λb hb=>?_) (λb o _ _ hc e _=>k b o (λz=>hc (by simp[z])) e) (λb o _ _ hc e _=>⟨o.slots,k b o (λz=>hc (by simp[z])) e⟩) (λ_ _ _ _ n=>n)
  (λb o hc e=>⟨o,k b o (λz=>hc (by simp[z])) e⟩) (λ_ _ e=>e) (λ_ _ _ e=>e) (λb ps e=>⟨#[],by rw[e];simp⟩) (λm hm=>?_) (λb u e=>?_) I.bare
 ·have e:b=it:=by simpa using hb
  subst e;exact⟨h1,hL,h2,h3⟩
 ·obtain⟨o,es,ep,ho,r⟩:=hm;exact⟨o,es,ep,k _ o (Qb1 hL) ho,r⟩
 ·refine(I.hok b u e).stay (λc v hc q=>k c v ?_ q) (λ_ q=>q) λ_ _ q=>q
  rcases hc with z | z
  ·rw[z];exact nit b u e
  ·exact nit c _ z
theorem Inv.tok(I:Inv X pins σ H s)(t:Nat):Inv X pins σ H { s with toks:=t }:=I.un (h':=s.heap) (t':=t) Un.refl I.hok
theorem Inv.kept{t':Nat}(I:Inv X pins σ H s)(k:∀b u,s.heap.get? b=some u->h'.get? b=some u):Inv X pins σ H { s with heap:=h',toks:=t' }:=I.un (Un.kept k) (I.hok.kept k)
theorem Inv.laid{a:Addr}{o:HO}{t':Nat}(I:Inv X pins σ H s)(k:∀b u,s.heap.get? b=some u->h'.get? b=some u)(hp:s.heap.objs.size<=a)(new:ObjOk X.prog X.w (upd H a o) h' a o) :
  Inv X pins σ (upd H a o) { s with heap:=h',toks:=t' }:=I.un (Un.laid k hp (I.hok.fresh hp)) (I.hok.laid k hp new)
theorem Inv.write{x e:Addr}{o:HO}{t':Nat}(I:Inv X pins σ H s)(mu:Mut (H x))(he:e=x∨H e=some (.own x))(k:∀b u,b≠e->s.heap.get? b=some u->h'.get? b=some u)(heo:∃u,h'.get? e=some u)
  (new:ObjOk X.prog X.w (upd H x o) h' x o):Inv X pins σ (upd H x o) { s with heap:=h',toks:=t' }:=I.un (Un.write mu he k heo) (I.hok.write mu he k heo new)
theorem Inv.weak{σ':List (Option V)}(I:Inv X pins σ H s)(hl:σ'.length=σ.length)(w:∀(i:Nat) v,σ'[i]? = some (some v)->σ[i]? = some (some v)):Inv X pins σ' H s:=
 ⟨I.ok,I.os,I.bare,I.base,let ⟨m,hn,hl'⟩:=I.loc;⟨m,hn,λi x v e1 e2 e3=>hl' i x v e1 (w i v e2) e3⟩,I.cell,I.free,I.freeC,I.pin,I.hok,hl.trans I.len⟩
theorem Inv.pins_of{pins':List (Addr×Obj)}(I:Inv X pins σ H s)(h:∀p∈pins',s.heap.get? p.1=some p.2/\H p.1=none/\p.1≠X.env.locals/\p.1∉X.fs/\∀v,p.2.data≠.cell v):Inv X pins' σ H s:=
 ⟨I.ok,I.os,I.bare,I.base,I.loc,I.cell,I.free,I.freeC,λp hp=>(QC.mp hp).elim (λz=>I.pin p (Qa5 _ z)) (h p),I.hok,I.len⟩
theorem Qgy{N:List Str}(hN:N.Nodup){i j:Nat}{x:Str}(a:N[i]? = some x)(b:N[j]? = some x):i=j:=by
 obtain⟨h1,e1⟩:=Q6.mp a;obtain⟨h2,e2⟩:=Q6.mp b;exact(List.getElem_inj hN).mp (e1.trans e2.symm)
theorem Qhj{M:Qlm}{A:Q1}{E:Value->Shared->Prop}{i:Nat}{x:Str}{v:V}{u:Value}{Q:Unit->Shared->Prop}(I:Inv X pins σ H s)(hN:X.N.Nodup)(hi:X.N[i]? = some x)(hx:Loc X.env.scope x)(r:RelV v u)
  (h:∀s',Inv X pins (σ.set i (some v)) H s'->(∃a,QaN a s.heap s'.heap/\(a=X.env.locals∨X.env.cells.lookup x=some a))->Q () s')(hf:X.fn x=true∨X.env.scope.names.lookup x=some .local:=by first | exact .inl rfl | exact .inr rfl | assumption):wpAny M A (storeName X.env x u) Q E s:=by
 obtain⟨m,hn,hl⟩:=id I.loc;have hcls:(X.env.scope.kind == .class||(X.env.scope.kind == .module&&X.env.locals != X.env.globals))=false:=by rw[I.ok.kind];rfl
 have hiσ:i < σ.length:=by rw[I.len];exact(Q6.mp hi).1
 have cne:=I.cne;have tracked:∀{a:Addr}{h':JS},(∃o,s.heap.get? a=some o/\H a=none)->QaN a s.heap h'->HOk X.prog X.w H h':=λ{a h'} ha hs b ob e=>by
  obtain⟨_,_,hfree⟩:=ha;refine(I.hok b ob e).stay (λc w' hc q=>(hs.2 c ?_).trans q) (λ_ q=>q) λ_ _ q=>q
  rintro rfl;rcases hc with rfl | hc
  ·rw[hfree] at e;cases e
  ·rw[hfree] at hc;cases hc
 rcases hx with hk | hk
 ·refine wpAny_storeName_local hk hn (λh' hn' hs=>?_) hcls;obtain⟨oL,_,_,hoL,_⟩:=id hn;refine h _ ⟨I.ok,I.os,I.bare,⟨λb o e n hb hx=>?_,λb o e n hb hx=>?_,I.base.free,λb o e hx=>?_,I.base.tups,I.base.frzs,I.base.tbls⟩,⟨_,hn',λj y v' e1 e2 e3=>?_⟩,λy c e=>?_,I.free,I.freeC,λp hp=>?_,tracked ⟨oL,hoL,I.free⟩ hs,by simpa using I.len⟩ ⟨_,hs,.inl rfl⟩
  ·exact(hs.2 b (Q2 (QR (Qs e) I.ok.above))).trans (I.base.keep b o e n hb hx)
  ·obtain⟨sl,e1⟩:=I.base.slot b o e n hb hx;exact⟨sl,(hs.2 b (Q2 (QR (Qs e) I.ok.above))).trans e1⟩
  ·obtain⟨o',e1⟩:=I.base.there b o e hx;exact⟨o',(hs.2 b (Q2 (QR (Qs e) I.ok.above))).trans e1⟩
  ·by_cases hj:j=i
   ·subst hj;rw[hi] at e1;cases e1;rw[QaB hiσ] at e2;cases e2;exact⟨u,r,.inl ⟨hk,by simp⟩⟩
   ·rw[Qa6 (Qb1 hj)] at e2;obtain⟨u',r',q⟩:=hl j y v' e1 e2 e3;refine⟨u',r',?_⟩;rcases q with⟨k,e⟩ | ⟨k,c,e,z⟩
    ·refine .inl ⟨k,?_⟩;have:y≠x:=λe=>hj (Qgy hN e1 (e ▸ hi))
     simp[this,e]
    ·exact .inr ⟨k,c,e,z.sameBut hs (cne y c e)⟩
  ·obtain⟨w',z⟩:=I.cell y c e;exact⟨w',z.sameBut hs (cne y c e)⟩
  ·obtain⟨e,n,ne,nf,d⟩:=I.pin p hp;exact⟨(hs.2 p.1 ne).trans e,n,ne,nf,d⟩
 ·have hfn:X.fn x=true:=by
   rcases hf with z | z
   ·exact z
   ·rw[z] at hk;cases hk
  obtain⟨c,hc⟩:=I.ok.has x (.inl hk);obtain⟨w',z⟩:=I.cell x c hc;refine wpAny_storeName_cell I.ok.kind hk hc z (λh' hc' hs=>?_);obtain⟨oc,hoc,hocd⟩:=id z;refine h { s with heap:=h' } ⟨I.ok,I.os,I.bare,⟨λb o e n hb hx=>?_,λb o e n hb hx=>?_,I.base.free,λb o e hx=>?_,I.base.tups,I.base.frzs,I.base.tbls⟩,⟨m,hn.sameBut hs (Qb1 (cne x c hc)),λj y v' e1 e2 e3=>?_⟩,λy c' e=>?_,I.free,I.freeC,λp hp=>?_,tracked ⟨oc,hoc,I.freeC x c hc⟩ hs,by simpa using I.len⟩ ⟨c,hs,.inr hc⟩
  ·exact(hs.2 b (Q2 (QR (Qs e) (I.ok.cab x c hfn hc)))).trans (I.base.keep b o e n hb hx)
  ·obtain⟨sl,e1⟩:=I.base.slot b o e n hb hx;exact⟨sl,(hs.2 b (Q2 (QR (Qs e) (I.ok.cab x c hfn hc)))).trans e1⟩
  ·obtain⟨o',e1⟩:=I.base.there b o e hx;exact⟨o',(hs.2 b (Q2 (QR (Qs e) (I.ok.cab x c hfn hc)))).trans e1⟩
  ·by_cases hj:j=i
   ·subst hj;rw[hi] at e1;cases e1;rw[QaB hiσ] at e2;cases e2;exact⟨u,r,.inr ⟨.inl hk,c,hc,hc'⟩⟩
   ·rw[Qa6 (Qb1 hj)] at e2;obtain⟨u',r',q⟩:=hl j y v' e1 e2 e3;refine⟨u',r',?_⟩;rcases q with q | ⟨k,c',e,z'⟩
    ·exact .inl q
    ·refine .inr ⟨k,c',e,z'.sameBut hs ?_⟩;rintro rfl;exact hj (Qgy hN e1 (I.ok.inj _ _ _ e hc ▸ hi))
  ·by_cases hcc:c'=c
   ·subst hcc;exact⟨_,hc'⟩
   ·obtain⟨w2,z2⟩:=I.cell y c' e;exact⟨w2,z2.sameBut hs hcc⟩
  ·obtain⟨e,n,ne,nf,d⟩:=I.pin p hp;refine⟨(hs.2 p.1 ?_).trans e,n,ne,nf,d⟩;intro q;rw[q,hoc] at e;have q':oc=p.2:=QH e;exact d w' (by rw[<- q'];exact hocd)
theorem Qck{M:Qlm}{A:Q1}{E:Value->Shared->Prop}{i:Nat}{x:Str}{v:V}{u:Value}{Q:Unit->Shared->Prop}(I:Inv X pins σ H s)(hN:X.N.Nodup)(hi:X.N[i]? = some x)(hx:Loc X.env.scope x)(r:RelV v u)
  (h:∀s',Inv X pins (σ.set i (some v)) H s'->Q () s')(hf:X.fn x=true∨X.env.scope.names.lookup x=some .local:=by first | exact .inl rfl | exact .inr rfl | assumption):wpAny M A (storeName X.env x u) Q E s:=
 Qhj I hN hi hx r (λs' I' _=>h s' I') hf
theorem Inv.call'{s':Shared}{ch:List Addr}(I:Inv X pins σ H s)(ho:s'.os=s.os)(u:Un (frs X.stack) ch H H' s.heap s'.heap)(hok:HOk X.prog X.w H' s'.heap)(hg:Qei s'.gens)
  (hch:∀b∈ch,(b∈X.ex∨X.s₀.heap.objs.size<=b)/\b≠X.env.locals/\(∀x c,X.env.cells.lookup x=some c->c≠b)/\∀p∈X.pn++pins,p.1≠b):Inv X pins σ H' s':=by
 obtain⟨h',g',d',t',o'⟩:=s';have e:o'=s.os:=ho;subst e;exact I.call (g':=g') (t':=t') (d':=d') u hok hg hch
end
abbrev XK:=Value->Option Addr->Hp->Prop
abbrev St:=List (Option V)
abbrev VK:=V->Hp->Prop
abbrev TE:=St->Hp->VK->Prop
abbrev TT:=St->Hp->(Bool->Hp->Prop)->Prop
abbrev TA:=St->Hp->(List V->Hp->Prop)->Prop
structure Ends where
 nx:St->Hp->Prop
 rt:VK
 bk:St->Hp->Prop:=λ_ _=>False
 ct:St->Hp->Prop:=λ_ _=>False
abbrev TS:=Ends->St->Hp->Prop
def EP(X:Cx)(pins:List (Addr×Obj))(σ:St)(Q:VK)(u:Value)(s':Shared):Prop:=∃v H',Inv X pins σ H' s'/\RelV v u/\Q v H'
def TP(X:Cx)(pins:List (Addr×Obj))(σ:St)(Q:Bool->Hp->Prop)(b:Bool)(s':Shared):Prop:=∃H',Inv X pins σ H' s'/\Q b H'
def AP(X:Cx)(pins:List (Addr×Obj))(σ:St)(Q:List V->Hp->Prop)(us:List Value)(s':Shared):Prop:=∃vs H',Inv X pins σ H' s'/\Vals vs us/\Q vs H'
def SP(X:Cx)(pins:List (Addr×Obj))(D:Ends)(f:Flow)(s':Shared):Prop:=
 match f with
 |.next=>∃σ' H',Inv X pins σ' H' s'/\D.nx σ' H'
 |.brk=>∃σ' H',Inv X pins σ' H' s'/\D.bk σ' H'
 |.cont=>∃σ' H',Inv X pins σ' H' s'/\D.ct σ' H'
 |.ret u=>∃v σ' H',Inv X pins σ' H' s'/\RelV v u/\D.rt v H'
def PE(X:Cx)(e:QV)(t:TE):Prop:=
 ∀(pins:List (Addr×Obj))(s:Shared)(σ:St)(H:Hp)(Q:VK),Inv X pins σ H s->t σ H Q->wpAny (model X.prog X.w) X.A (eval e X.env) (EP X pins σ Q) X.xe s
def PT(X:Cx)(e:QV)(t:TT):Prop:=
 ∀(pins:List (Addr×Obj))(s:Shared)(σ:St)(H:Hp)(Q:Bool->Hp->Prop),Inv X pins σ H s->t σ H Q->wpAny (model X.prog X.w) X.A (isTrue e X.env (eval e X.env)) (TP X pins σ Q) X.xe s
def PW(X:Cx)(e:QV)(t:TT):Prop:=
 ∀(whole:Sem Value)(pins:List (Addr×Obj))(s:Shared)(σ:St)(H:Hp)(Q:Bool->Hp->Prop),Inv X pins σ H s->t σ H Q->wpAny (model X.prog X.w) X.A (isTrue e X.env whole) (TP X pins σ Q) X.xe s
theorem PW.pt{X:Cx}{e:QV}{t:TT}(h:PW X e t):PT X e t:=h _
def PA(X:Cx)(es:List QV)(t:TA):Prop:=
 ∀(pos:Pos)(pins:List (Addr×Obj))(s:Shared)(σ:St)(H:Hp)(Q:List V->Hp->Prop),Inv X pins σ H s->t σ H Q->wpAny (model X.prog X.w) X.A (spliced (backTo pos (starEach es X.env))) (AP X pins σ Q) X.xe s
def PS(X:Cx)(st:J7)(t:TS):Prop:=
 ∀(pins:List (Addr×Obj))(s:Shared)(σ:St)(H:Hp)(D:Ends),Inv X pins σ H s->t D σ H->wpAny (model X.prog X.w) X.A (exec st X.env) (SP X pins D) X.xe s
def PSs(X:Cx)(st:List J7)(t:TS):Prop:=
 ∀(pins:List (Addr×Obj))(s:Shared)(σ:St)(H:Hp)(D:Ends),Inv X pins σ H s->t D σ H->wpAny (model X.prog X.w) X.A (execs st X.env) (SP X pins D) X.xe s
theorem thn{α:Type}{t:Sem α}{Q Q':α->Shared->Prop}{M:Qlm}{A:Q1}{E:Value->Shared->Prop}{s:Shared}(h:wpAny M A t Q E s)(hQ:∀a s,Q a s->Q' a s):wpAny M A t Q' E s:=wpAny_mono h hQ λ_ _ x=>x
section
variable{X:Cx}
def Qbq(i:Nat):TE:=λσ H Q=>∃v,σ[i]? = some (some v)/\Q v H
def tC(v:V):TE:=λ_ H Q=>Q v H
theorem Qsl{i:Nat}{x:Str}{pos:Pos}(hN:X.N[i]? = some x)(hv:Vis X.env.scope x)(hd:(x == ("__debug__" : Str))=false:=by decide)(hcd:(x == ("__classdict__" : Str))=false:=by decide):PE X (.Name x pos) (Qbq i):=by
 intro pins s σ H Q I h;obtain⟨v,e,h⟩:=h;obtain⟨m,hn,hl⟩:=I.loc;obtain⟨u,r,l⟩:=hl i x v hN e hv;have fin:EP X pins σ Q u s:=⟨v,H,I,r,h⟩;rcases l with⟨hk,hm⟩ | ⟨hk,c,hc,hcell⟩
 ·exact QzM (Qv3 I.ok.kind hk hn hm fin) hd
 ·rcases hk with hk | hk
  ·exact QzM (Qwm I.ok.kind hk hc hcell fin) hd
  ·exact QzM (wpAny_loadName_free I.ok.kind hk hc hcell fin hcd) hd
theorem Jd{i j pos}:PE X (.Constant (.int i) j pos) (tC (.int i)):=λ_ _ _ H _ I h=>wpAny_Constant_int ⟨.int i,H,I.tok _,⟨_,rfl⟩,h⟩
theorem Qhy{b j pos}:PE X (.Constant (.bool b) j pos) (tC (.bl b)):=λ_ _ _ H _ I h=>Constant_bool ⟨.bl b,H,I,rfl,h⟩
theorem QbE{j pos}:PE X (.Constant .none j pos) (tC .non):=λ_ _ _ H _ I h=>Constant_none ⟨.non,H,I,rfl,h⟩
theorem Jb{x j pos}:PE X (.Constant (.str x) j pos) (tC (.str x)):=λ_ _ _ H _ I h=>Qoh ⟨.str x,H,I.tok _,⟨_,rfl⟩,h⟩
def Gl(X:Cx)(x:Str):Prop:=X.env.kindOf x=some .globalImplicit
theorem QdO{E:Value->Shared->Prop}{pins:List (Addr×Obj)}{s:Shared}{σ:St}{H:Hp}{x:Str}{u:Value}{pos:Pos}{Q:Value->Shared->Prop}(I:Inv X pins σ H s)(hg:Gl X x)(hm:X.mg x=some u)(h:Q u s)
  (hd:(x == ("__debug__" : Str))=false:=by decide):wpAny (model X.prog X.w) X.A (eval (.Name x pos) X.env) Q E s:=
 QgV I.ok.kind hg (Calls.loadGlobal_global (by rw[I.ok.glob];exact I.mod.glob.keeps I.bk) hm h) hd
theorem Qe0{E:Value->Shared->Prop}{pins:List (Addr×Obj)}{s:Shared}{σ:St}{H:Hp}{x:Str}{u:Value}{pos:Pos}{Q:Value->Shared->Prop}(I:Inv X pins σ H s)(hg:Gl X x)(hm:X.mg x=none)(hv:bootBuiltins x=some u)(h:Q u s)
  (hn:x ≠ "__name__" := by decide)(hd:(x == ("__debug__" : Str))=false:=by decide):wpAny (model X.prog X.w) X.A (eval (.Name x pos) X.env) Q E s:=by
 obtain⟨mb,h1,h2⟩:=I.mod.blt;exact QgV I.ok.kind hg (Calls.loadGlobal_builtin (by rw[I.ok.glob];exact I.mod.glob.keeps I.bk) hm (by rw[I.ok.blt];exact h1.keeps I.bk) ((h2 x hn).trans hv) h) hd
theorem ZL{x:Str}{v:V}{u:Value}{pos:Pos}(hg:Gl X x)(hm:X.mg x=some u)(r:RelV v u)(hd:(x == ("__debug__" : Str))=false:=by decide):PE X (.Name x pos) (tC v):=
 λ_ _ _ H _ I h=>QdO I hg hm ⟨v,H,I,r,h⟩ hd
theorem Qmw{x:Str}{v:V}{u:Value}{pos:Pos}(hg:Gl X x)(hm:X.mg x=none)(hv:bootBuiltins x=some u)(r:RelV v u)(hn:x ≠ "__name__" := by decide)(hd:(x == ("__debug__" : Str))=false:=by decide):PE X (.Name x pos) (tC v):=
 λ_ _ _ H _ I h=>Qe0 I hg hm hv ⟨v,H,I,r,h⟩ hn hd
variable{a b:QV}{ta tb:TE}{pos:Pos}
def tB(t:TE):TT:=λσ H Q=>t σ H λx H1=>∃c,x=.bl c/\Q c H1
theorem Qmo{e:QV}{t:TE}(h:PE X e t)(he:∀whole,isTrue e X.env whole=(do let v <- whole;standAt e.pos;holding [v] (truthy v)):=by intro _;rfl):PT X e (tB t):=by
 intro pins s σ H Q I hw;refine isTrue_plain (thn (h pins s σ H _ I hw) λv s1 ⟨x,H1,I1,r1,q1⟩=>?_) (he _);obtain⟨d,rfl,q⟩:=q1;cases r1;exact Zp ⟨H1,I1,q⟩
variable{tA tB':TT}{rest:List QV}
def QCy(t u:TT):TT:=λσ H Q=>t σ H λc H1=>if c=true then u σ H1 Q else Q false H1
def tOr(t u:TT):TT:=λσ H Q=>t σ H λc H1=>if c=true then Q true H1 else u σ H1 Q
def QCs(t:TT):TT:=λσ H Q=>t σ H λc H1=>Q (!c) H1
theorem QeN(ha:PT X a tA):PW X (.BoolOp .And [a] pos) tA:=by
 intro wh pins s σ H Q I h;refine isTrue_and (thn (ha pins s σ H Q I h) λc s1 e=>?_);cases c with
 |true=>exact isTrue_and_nil e
 |false=>exact e
theorem Qhs(ha:PT X a tA):PW X (.BoolOp .Or [a] pos) tA:=by
 intro wh pins s σ H Q I h;refine isTrue_or (thn (ha pins s σ H Q I h) λc s1 e=>?_);cases c with
 |false=>exact isTrue_or_nil e
 |true=>exact e
theorem Qht(ha:PT X a tA)(hb:PW X (.BoolOp .And (b::rest) pos) tB'):PW X (.BoolOp .And (a::b::rest) pos) (QCy tA tB'):=by
 intro wh pins s σ H Q I h;refine isTrue_and (thn (ha pins s σ H _ I h) λc s1 ⟨H1,I1,q1⟩=>?_);cases c with
 |true=>exact hb wh pins s1 σ H1 Q I1 q1
 |false=>exact⟨H1,I1,q1⟩
theorem Qml(ha:PT X a tA)(hb:PW X (.BoolOp .Or (b::rest) pos) tB'):PW X (.BoolOp .Or (a::b::rest) pos) (tOr tA tB'):=by
 intro wh pins s σ H Q I h;refine isTrue_or (thn (ha pins s σ H _ I h) λc s1 ⟨H1,I1,q1⟩=>?_);cases c with
 |true=>exact⟨H1,I1,q1⟩
 |false=>exact hb wh pins s1 σ H1 Q I1 q1
theorem Qhv(ha:PT X a tA):PT X (.UnaryOp .Not a pos) (QCs tA):=by
 intro pins s σ H Q I h;exact isTrue_not (ha pins s σ H (λc H1=>Q (!c) H1) I h)
def QAp(ta tb:TE):TE:=λσ H Q=>ta σ H λx H1=>∃c,x=.bl c/\if c=true then tb σ H1 Q else Q (.bl false) H1
def QCr(ta tb:TE):TE:=λσ H Q=>ta σ H λx H1=>∃c,x=.bl c/\if c=true then Q (.bl true) H1 else tb σ H1 Q
def QAk(ta:TE):TE:=λσ H Q=>ta σ H λx H1=>∃c,x=.bl c/\Q (.bl (!c)) H1
theorem Qsm{op}{t:TE}(h:PE X a t):PE X (.BoolOp op [a] pos) t:=λpins s σ H Q I hw=>BoolOp_one (h pins s σ H Q I hw)
theorem Qsp(ha:PE X a ta)(hb:PE X (.BoolOp .And (b::rest) pos) tb):PE X (.BoolOp .And (a::b::rest) pos) (QAp ta tb):=by
 intro pins s σ H Q I h;refine BoolOp_and (thn (ha pins s σ H _ I h) λv s1 ⟨x,H1,I1,r1,q1⟩=>?_);obtain⟨c,rfl,q1⟩:=q1;cases r1;refine Zp ?_
 cases c with
 |true=>exact hb pins s1 σ H1 Q I1 q1
 |false=>exact⟨.bl false,H1,I1,rfl,q1⟩
theorem QAB(ha:PE X a ta)(hb:PE X (.BoolOp .Or (b::rest) pos) tb):PE X (.BoolOp .Or (a::b::rest) pos) (QCr ta tb):=by
 intro pins s σ H Q I h;refine BoolOp_or (thn (ha pins s σ H _ I h) λv s1 ⟨x,H1,I1,r1,q1⟩=>?_);obtain⟨c,rfl,q1⟩:=q1;cases r1;refine Zp ?_
 cases c with
 |false=>exact hb pins s1 σ H1 Q I1 q1
 |true=>exact⟨.bl true,H1,I1,rfl,q1⟩
theorem QxD(ha:PE X a ta):PE X (.UnaryOp .Not a pos) (QAk ta):=by
 intro pins s σ H Q I h;refine UnaryOp_ (thn (ha pins s σ H _ I h) λv s1 ⟨x,H1,I1,r1,q1⟩=>?_);obtain⟨c,rfl,q1⟩:=q1;cases r1;exact not_of (Zp ⟨.bl (!c),H1,I1,rfl,q1⟩)
def tIf(t:TT)(ta tb:TE):TE:=λσ H Q=>t σ H λc H1=>if c=true then ta σ H1 Q else tb σ H1 Q
theorem QjD{c:QV}(hc:PT X c tA)(ha:PE X a ta)(hb:PE X b tb):PE X (.IfExp c a b pos) (tIf tA ta tb):=by
 intro pins s σ H Q I h;refine wpAny_IfExp (thn (hc pins s σ H _ I h) λd s1 ⟨H1,I1,q1⟩=>?_);cases d with
 |true=>exact ha pins s1 σ H1 Q I1 q1
 |false=>exact hb pins s1 σ H1 Q I1 q1
end
def SqL(K:PySem.W.Frag)(H:Hp)(a:Addr)(xs:List V):Prop:=
 Rd H a (.lst xs) ∨
  ∃(o:Obj)(its:Array Value)(n:Nat),K.lookup a=some o/\o.cls=.type "list" /\ o.dict=none/\o.data=.seq its n/\its.size<=sizeLine/\Vals xs its.toList
def SqT(K:PySem.W.Frag)(H:Hp)(a:Addr)(xs:List V):Prop:=
 Rd H a (.tup xs) ∨
  ∃(o:Obj)(its:Array Value)(n:Nat),K.lookup a=some o/\o.cls=.type "tuple" /\ o.data=.seq its n/\its.size<=sizeLine/\Vals xs its.toList
def QCU:Value->Option V
 |.none=>some .non
 |.bool b=>some (.bl b)
 |.int i _=>some (.int i)
 |.str x _=>some (.str x)
 |.bytes b _=>some (.byt b)
 |.float b _=>some (.flt b)
 |.ref a=>some (.ref a)
 |.type n=>some (.ty n)
 |_=>none
theorem RelV.abs{x:V}{u:Value}(r:RelV x u):QCU u=some x:=by
 cases x with
 |non=>cases r;rfl
 |bl _=>cases r;rfl
 |int _=>obtain⟨t,rfl⟩:=r;rfl
 |str _=>obtain⟨t,rfl⟩:=r;rfl
 |byt _=>obtain⟨t,rfl⟩:=r;rfl
 |flt _=>obtain⟨t,rfl⟩:=r;rfl
 |ref _=>cases r;rfl
 |ty _=>cases r;rfl
theorem RelV.inj{x y:V}{u:Value}(r:RelV x u)(q:RelV y u):x=y:=QH (r.abs.symm.trans q.abs)
theorem Vals.inj:∀{xs ys:List V}{us:List Value},Vals xs us->Vals ys us->xs=ys
 |_,_,_,.nil,.nil=>rfl
 |_,_,_,.cons r t,.cons r' t'=>by rw[r.inj r',Vals.inj t t']
section
variable{X:Cx}{pins:List (Addr×Obj)}{σ:St}{H:Hp}{s:Shared}{a:Addr}{xs ys:List V}
theorem SqL.of{K:PySem.W.Frag}(h:H a=some (.lst xs)):SqL K H a xs:=.inl (.inl h)
theorem SqT.of{K:PySem.W.Frag}(h:H a=some (.tup xs)):SqT K H a xs:=.inl (.inl h)
theorem Inv.list(I:Inv X pins σ H s)(h:SqL X.K H a xs):∃its:List Value,Vals xs its/\PlainL s.heap a its.toArray/\xs.length<=sizeLine:=by
 rcases h with h | ⟨o,its,n,hk,hc,hd,hs,hz,r⟩
 ·obtain⟨z,its,n,r,e⟩:=h.ok I.hok;exact⟨its,r,⟨_,n,e,rfl,rfl,rfl⟩,z⟩
 ·refine⟨its.toList,r,⟨o,n,I.kIn a o hk,hc,hd,by simpa using hs⟩,?_⟩;have e:=r.length;simp only[Jh] at e;omega
theorem Inv.tuple(I:Inv X pins σ H s)(h:SqT X.K H a xs):∃its:List Value,Vals xs its/\IsTup s.heap a its.toArray/\xs.length<=sizeLine:=by
 rcases h with h | ⟨o,its,n,hk,hc,hs,hz,r⟩
 ·obtain⟨z,its,r,p⟩:=h.ok I.hok;exact⟨its,r,p.tup,z⟩
 ·refine⟨its.toList,r,⟨o,I.kIn a o hk,hc,n,by simpa using hs⟩,?_⟩;have e:=r.length;simp only[Jh] at e;omega
theorem Inv.list_inj(I:Inv X pins σ H s)(h:SqL X.K H a xs)(h':SqL X.K H a ys):xs=ys:=by
 obtain⟨its,r,⟨o,n,e,_,_,d⟩,_⟩:=I.list h;obtain⟨its',r',⟨o',n',e',_,_,d'⟩,_⟩:=I.list h';rw[e] at e';cases e';rw[d] at d';injection d' with d1 _
 have:its=its':=by simpa using congrArg Qkj d1
 subst this;exact r.inj r'
theorem Inv.tuple_inj(I:Inv X pins σ H s)(h:SqT X.K H a xs)(h':SqT X.K H a ys):xs=ys:=by
 obtain⟨its,r,⟨o,e,_,n,d⟩,_⟩:=I.tuple h;obtain⟨its',r',⟨o',e',_,n',d'⟩,_⟩:=I.tuple h';rw[e] at e';cases e';rw[d] at d';injection d' with d1 _
 have:its=its':=by simpa using congrArg Qkj d1
 subst this;exact r.inj r'
end
abbrev Cx.wish (X:Cx) (E:Value->Shared->Prop):Cx:={ X with xe:=E }
abbrev Cx.nox (X:Cx):Cx:=X.wish λ_ _=>False
theorem Cx.Ok.wish{X:Cx}(ok:X.Ok)(E:Value->Shared->Prop):(X.wish E).Ok:=
 ⟨ok.mod,ok.kind,ok.glob,ok.blt,ok.above,ok.inj,ok.has,ok.cab,ok.hd,ok.frames,ok.stk,ok.exf,ok.bs,ok.bsz,ok.noex,ok.exfs,ok.funs,ok.frf⟩
theorem Cx.Ok.unwish{X:Cx}{E:Value->Shared->Prop}(ok:(X.wish E).Ok):X.Ok:=
 ⟨ok.mod,ok.kind,ok.glob,ok.blt,ok.above,ok.inj,ok.has,ok.cab,ok.hd,ok.frames,ok.stk,ok.exf,ok.bs,ok.bsz,ok.noex,ok.exfs,ok.funs,ok.frf⟩
section
variable{X:Cx}{pins:List (Addr×Obj)}{σ:St}{H:Hp}{s:Shared}{E:Value->Shared->Prop}
theorem Inv.wish(I:Inv X pins σ H s)(E:Value->Shared->Prop):Inv (X.wish E) pins σ H s:=⟨I.ok.wish E,I.os,I.bare,I.base,I.loc,I.cell,I.free,I.freeC,I.pin,I.hok,I.len⟩
theorem Inv.unwish(I:Inv (X.wish E) pins σ H s):Inv X pins σ H s:=⟨I.ok.unwish,I.os,I.bare,I.base,I.loc,I.cell,I.free,I.freeC,I.pin,I.hok,I.len⟩
theorem SP.unwish{D:Ends}{f:Flow}{s':Shared}(h:SP (X.wish E) pins D f s'):SP X pins D f s':=by
 cases f with
 |next=>obtain⟨σ',H',I,q⟩:=h;exact⟨σ',H',I.unwish,q⟩
 |brk=>obtain⟨σ',H',I,q⟩:=h;exact⟨σ',H',I.unwish,q⟩
 |cont=>obtain⟨σ',H',I,q⟩:=h;exact⟨σ',H',I.unwish,q⟩
 |ret u=>obtain⟨v,σ',H',I,r,q⟩:=h;exact⟨v,σ',H',I.unwish,r,q⟩
theorem PE.nox{e:QV}{t:TE}(h:PE X.nox e t):PE X e t:=λpins s σ H Q I hw=>
 wpAny_mono (h pins s σ H Q (I.wish _) hw) (λ_ _ ⟨v,H',I',r,q⟩=>⟨v,H',I'.unwish,r,q⟩) λ_ _ z=>Jr z
theorem PT.nox{e:QV}{t:TT}(h:PT X.nox e t):PT X e t:=λpins s σ H Q I hw=>
 wpAny_mono (h pins s σ H Q (I.wish _) hw) (λ_ _ ⟨H',I',q⟩=>⟨H',I'.unwish,q⟩) λ_ _ z=>Jr z
theorem PSs.nox{st:List J7}{t:TS}(h:PSs X.nox st t):PSs X st t:=λpins s σ H D I hw=>
 wpAny_mono (h pins s σ H D (I.wish _) hw) (λ_ _ q=>q.unwish) λ_ _ z=>Jr z
end
section
variable{X:Cx}{st:J7}{rest:List J7}{t u:TS}{e:QV}{te:TE}{pos:Pos}
def QAl:TS:=λD σ H=>D.nx σ H
def QCo(t u:TS):TS:=λD σ H=>t { D with nx:=u D } σ H
theorem Zs:PSs X [] QAl:=λ_ _ σ H _ I h=>QaI ⟨σ,H,I,h⟩
theorem Qr(h1:PS X st t)(h2:PSs X rest u):PSs X (st::rest) (QCo t u):=by
 intro pins s σ H D I h;refine Qdx (thn (h1 pins s σ H { D with nx:=u D } I h) λf s1 q=>?_);cases f with
 |next=>
  obtain⟨σ',H',I',q⟩:=q;exact h2 pins s1 σ' H' D I' q
 |ret v=>exact q
 |brk=>exact q
 |cont=>exact q
theorem QQ(h1:PS X st t):PSs X [st] t:=by
 intro pins s σ H D I h;refine Qdx (thn (h1 pins s σ H D I h) λf s1 q=>?_);cases f with
 |next=>exact QaI q
 |ret v=>exact q
 |brk=>exact q
 |cont=>exact q
theorem Inv.quiet{pins:List (Addr×Obj)}{σ:St}{H:Hp}{s:Shared}(I:Inv X pins σ H s):interactive X.env=false:=by simp[interactive,I.ok.kind]
def QlH(te:TE):TS:=λD σ H=>te σ H λ_ H1=>D.nx σ H1
theorem Zf(he:PE X e te)(hs:swapsWith e none pos.line X.env=pure false:=by rfl):PS X (.Expr e pos) (QlH te):=by
 intro pins s σ H D I h;exact wpAny_Expr_any (thn (he pins s σ H _ I h) λv s1 ⟨x,H1,I1,r1,q1⟩=>⟨σ,H1,I1,q1⟩) I.quiet hs
def QCq(te:TE):TS:=λD σ H=>te σ H D.rt
theorem JI(he:PE X e te):PS X (.Return (some e) pos) (QCq te):=by
 intro pins s σ H D I h;exact QgY (thn (he pins s σ H _ I h) λv s1 ⟨x,H1,I1,r1,q1⟩=>⟨x,σ,H1,I1,r1,q1⟩)
def QCv(c:TT)(t u:TS):TS:=λD σ H=>c σ H λb H1=>if b=true then t D σ H1 else u D σ H1
theorem Qat{c:QV}{a b:List J7}{tc:TT}(hc:PT X c tc)(ha:PSs X a t)(hb:PSs X b u):PS X (.If c a b pos) (QCv tc t u):=by
 intro pins s σ H D I h;refine wpAny_If (thn (hc pins s σ H _ I h) λd s1 ⟨H1,I1,q1⟩=>?_);cases d with
 |true=>exact ha pins s1 σ H1 D I1 q1
 |false=>exact hb pins s1 σ H1 D I1 q1
end
abbrev TG:=V->St->Hp->(St->Hp->Prop)->Prop
abbrev TGs:=List V->St->Hp->(St->Hp->Prop)->Prop
def PG(X:Cx)(target:QV)(t:TG):Prop:=
 ∀(pins:List (Addr×Obj))(s:Shared)(σ:St)(H:Hp)(v:V)(u:Value)(Q:St->Hp->Prop),Inv X pins σ H s->RelV v u->t v σ H Q ->
  wpAny (model X.prog X.w) X.A (assign target X.env u) (λ_ s'=>∃σ' H',Inv X pins σ' H' s'/\Q σ' H') X.xe s
def PGs(X:Cx)(ts:List QV)(t:TGs):Prop:=
 ∀(pins:List (Addr×Obj))(s:Shared)(σ:St)(H:Hp)(vs:List V)(us:List Value)(Q:St->Hp->Prop),Inv X pins σ H s->Vals vs us->t vs σ H Q ->
  wpAny (model X.prog X.w) X.A (assignInOrder ((assignEach ts X.env).map (·.2)) us) (λ_ s'=>∃σ' H',Inv X pins σ' H' s'/\Q σ' H') X.xe s
abbrev TSet:=V->V->V->Hp->(Hp->Prop)->Prop
def QBw(X:Cx)(t:TSet):Prop:=
 ∀(pins:List (Addr×Obj))(s:Shared)(σ:St)(H:Hp)(o i v:V)(ov iv u:Value)(Q:Hp->Prop),Inv X pins σ H s->RelV o ov->RelV i iv->RelV v u->t o i v H Q ->
  wpAny (model X.prog X.w) X.A (setItem ov iv u) (λ_ s'=>∃H',Inv X pins σ H' s'/\Q H') X.xe s
abbrev TIp:=V->V->Hp->VK->Prop
def PIp(X:Cx)(op:Qc5)(t:TIp):Prop:=
 ∀(pins:List (Addr×Obj))(s:Shared)(σ:St)(H:Hp)(x y:V)(v u:Value)(Q:VK),Inv X pins σ H s->RelV x v->RelV y u->t x y H Q ->
  wpAny (model X.prog X.w) X.A (inplaceOp op v u) (EP X pins σ Q) X.xe s
section
variable{X:Cx}{pos:Pos}
def Qbc(i:Nat):TG:=λv σ H Q=>Q (σ.set i (some v)) H
theorem Yv{i:Nat}{x:Str}(hN:X.N.Nodup)(hi:X.N[i]? = some x)(hx:Loc X.env.scope x)(hf:X.fn x=true∨X.env.scope.names.lookup x=some .local:=by first | exact .inl rfl | exact .inr rfl | assumption):PG X (.Name x pos) (Qbc i):=by
 intro pins s σ H v u Q I r h;exact QzL (Qck I hN hi hx r (λs' I'=>⟨_,H,I',h⟩) hf)
def QA9:TGs:=λvs σ H Q=>vs=[]/\Q σ H
def Qrc(t:TG)(u:TGs):TGs:=λvs σ H Q=>∃v r,vs=v::r/\t v σ H λσ' H'=>u r σ' H' Q
theorem QcI:PGs X [] QA9:=by
 intro pins s σ H vs us Q I r h;obtain⟨e,h⟩:=h;subst e;cases r;exact QzP ⟨σ,H,I,h⟩
theorem ZR{e:QV}{es:List QV}{t:TG}{u:TGs}(h1:PG X e t)(h2:PGs X es u)
  (hs:(assignEach (e::es) X.env).map (·.2)=assign e X.env::(assignEach es X.env).map (·.2):=by rfl):PGs X (e::es) (Qrc t u):=by
 intro pins s σ H vs us Q I r h;obtain⟨v,vr,e1,h⟩:=h;subst e1;cases r with
 |cons r rr=>
  rw[hs];refine Qf2 (thn (h1 pins s σ H _ _ _ I r h) λ_ s1 ⟨σ1,H1,I1,q1⟩=>?_);exact h2 pins s1 σ1 H1 _ _ Q I1 rr q1
def QA8(K:PySem.W.Frag)(n:Nat)(t:TGs):TG:=λv σ H Q=>∃a xs,v=.ref a/\SqT K H a xs/\xs.length=n/\t xs σ H Q
theorem QeO{es:List QV}{k:Nat}{t:TGs}{n:Nat}(hc:X.calm=true)(h:PGs X es t)
  (hn:(assignEach es X.env).length=n:=by rfl)(hst:(assignEach es X.env).findIdx? (·.1)=none:=by rfl):PG X (.Tuple es k pos) (QA8 X.K n t):=by
 intro pins s σ H v u Q I r hw;obtain⟨a,xs,e1,hq,hl,hw⟩:=hw;subst e1;cases r;obtain⟨its,rv,ht,hz⟩:=I.tuple hq;refine assign_Tuple_tuple (I.ok.hd hc) ht (by simp[hn,<- hl,rv.length]) hst λh' hx=>?_
 have I1:Inv X pins σ H { s with heap:=h' }:=I.kept (t':=s.toks) λb o e=>hx b o (Q2 (Qs e)) e
 exact h pins _ σ H xs _ Q I1 (by simpa using rv) hw
def gSub(to ti:TE)(t:TSet):TG:=λv σ H Q=>to σ H λo H1=>ti σ H1 λi H2=>t o i v H2 λH3=>Q σ H3
theorem Qms{o i:QV}{to ti:TE}{t:TSet}(ho:PE X o to)(hi:PE X i ti)(hs:QBw X t)
  (ha:∀v,assign (.Subscript o i pos) X.env v=(do
   let ov <- holding [v] (eval o X.env)
   let iv <- holding [v,ov] (eval i X.env)
   standAt pos
   holding [v,ov,iv] (setItem ov iv v)
   release [v,ov,iv] []):=by intro _;rfl):PG X (.Subscript o i pos) (gSub to ti t):=by
 intro pins s σ H v u Q I r h;rw[ha];refine wpAny_bind (ZJ (thn (ho pins s σ H _ I h) λov s1 ⟨x,H1,I1,r1,q1⟩=>?_));refine wpAny_bind (ZJ (thn (hi pins s1 σ H1 _ I1 q1) λiv s2 ⟨y,H2,I2,r2,q2⟩=>?_));refine wpAny_bind (wpAny_standAt (wpAny_bind (ZJ (thn (hs pins s2 σ H2 x y v ov iv u _ I2 r1 r2 r q2) λ_ s3 ⟨H3,I3,q3⟩=>?_))));exact wpAny_release ⟨σ,H3,I3,q3⟩
def QoG(te:TE)(g:TG):TS:=λD σ H=>te σ H λx H1=>g x σ H1 D.nx
theorem Qde{tg e:QV}{te:TE}{g:TG}(he:PE X e te)(hg:PG X tg g)(hs:swapsWithSole [tg] e pos.line X.env=pure false:=by rfl)(hw:swappedStores [tg] e X.env=pure none:=by rfl)
  (h1:(assignEach [tg] X.env).map (·.2)=[assign tg X.env]:=by rfl):PS X (.Assign [tg] e pos) (QoG te g):=by
 intro pins s σ H D I h;refine wpAny_Assign_stores (thn (he pins s σ H _ I h) λv s1 ⟨x,H1,I1,r1,q1⟩=>?_) hs hw;rw[h1];exact thn (hg pins s1 σ H1 x v _ I1 r1 q1) λ_ s2 q=>q
theorem Yk{i:Nat}{x:Str}{e:QV}{te:TE}{pos':Pos}(hN:X.N.Nodup)(hi:X.N[i]? = some x)(hx:Loc X.env.scope x)(he:PE X e te)(hs:swapsWith e (some (.Name x pos')) pos.line X.env=pure false:=by rfl)(hf:X.fn x=true∨X.env.scope.names.lookup x=some .local:=by first | exact .inl rfl | exact .inr rfl | assumption) :
  PS X (.Assign [.Name x pos'] e pos) (QoG te (Qbc i)):=by
 intro pins s σ H D I h;refine wpAny_Assign_Name (thn (he pins s σ H _ I h) λv s1 ⟨y,H1,I1,r1,q1⟩=>?_) hs;exact Qck I1 hN hi hx r1 (λs2 I2=>⟨_,H1,I2,q1⟩) hf
def QBE(i j:Nat)(ta:TA):TS:=λD σ H=>ta σ H λvs H1=>∃v w,vs=[v,w]/\D.nx ((σ.set i (some v)).set j (some w)) H1
theorem Qxx{i j:Nat}{x y:Str}{a b:QV}{ta:TA}{px py pt:Pos}{kt k2 pt2}(hc:X.calm=true)(hN:X.N.Nodup)(hi:X.N[i]? = some x)(hj:X.N[j]? = some y)(hij:i≠j)
  (hx:X.env.scope.names.lookup x=some .local)(hy:X.env.scope.names.lookup y=some .local)(ha:PA X [a,b] ta)
  (hw:swappedStores [.Tuple [.Name x px,.Name y py] kt pt] (.Tuple [a,b] k2 pt2) X.env=pure (some [x,y]))
  (hs:swapsWithSole [.Tuple [.Name x px,.Name y py] kt pt] (.Tuple [a,b] k2 pt2) pos.line X.env=pure false:=by rfl) :
  PS X (.Assign [.Tuple [.Name x px,.Name y py] kt pt] (.Tuple [a,b] k2 pt2) pos) (QBE i j ta):=by
 intro pins s σ H D I h;rw[exec_Assign_arm];refine wpAny_bind (wpAny_standAt ?_);rw[hs];refine wpAny_bind (Qo ?_);rw[if_neg (by decide)];refine wpAny_bind (Tuple_ (thn (ha _ pins s σ H _ I h) λus s1 ⟨vs,H1,I1,r1,q1⟩=>?_));obtain⟨v,w,e1,q1⟩:=q1;subst e1;obtain⟨u1,u2,rfl,rv,rw'⟩:∃u1 u2,us=[u1,u2]/\RelV v u1/\RelV w u2:=by
  cases r1 with
  |cons p q=>
   cases q with
   |cons p' q'=>
    cases q';exact⟨_,_,rfl,p,p'⟩
 refine Zq ?_ (by show 2<=sizeLine;decide)
 have I2:Inv X pins σ H1 { s1 with heap:=s1.heap.push { cls:=.type "tuple",data:=.seq [u1,u2].toArray } }:=I1.kept (t':=s1.toks) λb o e=>Qh _ e
 rw[hw];refine wpAny_bind (Qo ?_);show wpAny (model X.prog X.w) X.A (do rule "assign.swapped-stores";let items <- unpackItems (.ref s1.heap.objs.size) 2 none;assignInOrder [λv=>bindName X.env y v,λv=>bindName X.env x v] items.reverse;pure Flow.next) _ _ _;refine wpAny_bind (wpAny_rule (wpAny_bind (unpackItems_tuple (items:=#[u1,u2]) (I.ok.hd hc) (IsTup.new s1.heap _) λh' hx'=>?_)));have I3:=I2.kept (h':=h') (t':=s1.toks) λb o e=>hx' b o (Q2 (Qs e)) e
 show wpAny _ _ (assignInOrder [λv=>bindName X.env y v,λv=>bindName X.env x v] [u2,u1] >>= λ_=>pure Flow.next) _ _ _;refine wpAny_bind (Qf2 (wpAny_bindName (Qck I3 hN hj (.inl hy) rw' (λs2 I4=>?_) (.inr hy))));refine Qf2 (wpAny_bindName (Qck I4 hN hi (.inl hx) rv (λs3 I5=>QzP (Qo ?_)) (.inr hx)));rw[List.set_comm _ _ (Qb1 hij)] at I5;exact⟨_,H1,I5,q1⟩
def QBG(i:Nat)(te:TE)(ti:TIp):TS:=λD σ H=>∃x,σ[i]? = some (some x)/\te σ H λy H1=>ti x y H1 λz H2=>D.nx (σ.set i (some z)) H2
theorem Qxy{i:Nat}{x:Str}{e:QV}{te:TE}{op:Qc5}{ti:TIp}{pos':Pos}(hN:X.N.Nodup)(hi:X.N[i]? = some x)(hx:Loc X.env.scope x)(he:PE X e te)(ho:PIp X op ti)(hf:X.fn x=true∨X.env.scope.names.lookup x=some .local:=by first | exact .inl rfl | exact .inr rfl | assumption) :
  PS X (.AugAssign (.Name x pos') op e pos) (QBG i te ti):=by
 intro pins s σ H D I h;obtain⟨v,e1,h⟩:=h;obtain⟨m,hn,hl⟩:=I.loc;have vis:Vis X.env.scope x:=by rcases hx with k | k;exact .inl k;exact .inr (.inl k)
 obtain⟨u,r,l⟩:=hl i x v hi e1 vis;refine wpAny_AugAssign_Name ?_
 have go:wpAny (model X.prog X.w) X.A (eval e X.env) (λw s₂=>wpAny (model X.prog X.w) X.A (inplaceOp op u w) (λr s₃=>wpAny (model X.prog X.w) X.A (storeName X.env x r) (λ_=>SP X pins D .next) X.xe s₃) X.xe s₂) X.xe s:=by
  refine thn (he pins s σ H _ I h) λw s1 ⟨y,H1,I1,r1,q1⟩=>?_
  refine thn (ho pins s1 σ H1 v y u w _ I1 r r1 q1) λz s2 ⟨zv,H2,I2,r2,q2⟩=>?_
  exact Qck I2 hN hi hx r2 (λs3 I3=>⟨_,H2,I3,q2⟩) hf
 rcases l with⟨hk,hm⟩ | ⟨hk,c,hc,hcell⟩
 ·exact Qv3 I.ok.kind hk hn hm go
 ·rcases hk with hk | hk
  ·exact Qwm I.ok.kind hk hc hcell go
  ·rcases hx with k | k
   ·have:X.env.scope.names.lookup x=some .free:=hk;rw[k] at this;cases this
   ·have:X.env.scope.names.lookup x=some .free:=hk;rw[k] at this;cases this
def QwS(to ti te:TE)(tget:V->V->Hp->VK->Prop)(tip:TIp)(tset:TSet):TS:=λD σ H=>to σ H λo H1=>ti σ H1 λi H2=>tget o i H2 λx H3=>te σ H3 λy H4=>tip x y H4 λz H5=>tset o i z H5 λH6=>D.nx σ H6
def QCk(X:Cx)(t:V->V->Hp->VK->Prop):Prop:=
 ∀(pins:List (Addr×Obj))(s:Shared)(σ:St)(H:Hp)(o i:V)(ov iv:Value)(Q:VK),Inv X pins σ H s->RelV o ov->RelV i iv->t o i H Q ->
  wpAny (model X.prog X.w) X.A (getItem ov iv) (EP X pins σ Q) X.xe s
theorem QtX{o i e:QV}{to ti te:TE}{tget:V->V->Hp->VK->Prop}{tip:TIp}{tset:TSet}{op:Qc5}{tpos:Pos}(ho:PE X o to)(hi:PE X i ti)(hg:QCk X tget)(he:PE X e te)(hp:PIp X op tip)(hs:QBw X tset)
  (ha:∀ov iv new,augStore i ov iv new=(do holding [new,ov,iv] (setItem ov iv new);release [new,ov,iv] [];pure .next):=by intros;rfl):PS X (.AugAssign (.Subscript o i tpos) op e pos) (QwS to ti te tget tip tset):=by
 intro pins s σ H D I h;refine wpAny_AugAssign_SubscriptAny (thn (ho pins s σ H _ I h) λov s1 ⟨x1,H1,I1,r1,q1⟩=>?_) ha;refine thn (hi pins s1 σ H1 _ I1 q1) λiv s2 ⟨x2,H2,I2,r2,q2⟩=>?_
 refine thn (hg pins s2 σ H2 x1 x2 ov iv _ I2 r1 r2 q2) λold s3 ⟨x3,H3,I3,r3,q3⟩=>?_
 refine thn (he pins s3 σ H3 _ I3 q3) λv s4 ⟨x4,H4,I4,r4,q4⟩=>?_
 refine thn (hp pins s4 σ H4 x3 x4 old v _ I4 r3 r4 q4) λnew s5 ⟨x5,H5,I5,r5,q5⟩=>?_
 exact thn (hs pins s5 σ H5 x1 x2 x5 ov iv new _ I5 r1 r2 r5 q5) λ_ s6 ⟨H6,I6,q6⟩=>⟨σ,H6,I6,q6⟩
def ipI(f:Int->Int->Int):TIp:=λx y H Q=>∃i j,x=.int i/\y=.int j/\Q (.int (f i j)) H
theorem QsF:PIp X .Add (ipI λi j=>i+j):=by
 intro pins s σ H x y v u Q I r1 r2 h;obtain⟨i,j,e1,e2,q⟩:=h;subst e1;subst e2;obtain⟨t,rfl⟩:=r1;obtain⟨t',rfl⟩:=r2;exact iadd_int ⟨.int _,H,I.tok _,⟨_,rfl⟩,q⟩
theorem Qyw:PIp X .Sub (ipI λi j=>i - j):=by
 intro pins s σ H x y v u Q I r1 r2 h;obtain⟨i,j,e1,e2,q⟩:=h;subst e1;subst e2;obtain⟨t,rfl⟩:=r1;obtain⟨t',rfl⟩:=r2;exact isub_int ⟨.int _,H,I.tok _,⟨_,rfl⟩,q⟩
def QwI(c:TT)(tb:TS):TS:=λD σ H=>∃W:Nat->St->Hp->Prop,(∃m,W m σ H)/\∀m σ H,W m σ H ->
 c σ H λb H1=>if b=true then ∃N:St->Hp->Prop,(∀σ' H',N σ' H'->∃m',m'<m/\W m' σ' H')/\tb { D with nx:=N,ct:=N,bk:=D.nx } σ H1 else D.nx σ H1
theorem QoZ{c:QV}{body:List J7}{tc:TT}{tb:TS}(hp:Qf6 (model X.prog X.w) X.A X.env X.xe)(hc:PT X c tc)(hb:PSs X body tb):PS X (.While c body [] pos) (QwI tc tb):=by
 intro pins s σ H D I h;obtain⟨W,⟨m0,w0⟩,turn⟩:=h;refine wpAny_While (codeAny_whileLoop (λn s'=>∃σ' H',Inv X pins σ' H' s'/\W n σ' H') ?_ m0 ⟨σ,H,I,w0⟩);rintro n s1 ⟨σ1,H1,I1,w1⟩;refine YN hp (thn (hc pins s1 σ1 H1 _ I1 (turn n σ1 H1 w1)) λb s2 ⟨H2,I2,q2⟩=>?_);cases b with
 |true=>
  obtain⟨N,hN,q2⟩:=q2;rw[if_pos rfl];refine YN hp (thn (hb pins s2 σ1 H2 _ I2 q2) λf s3 q3=>?_);cases f with
  |next=>
   obtain⟨σ3,H3,I3,n3⟩:=q3;obtain⟨m',hm,w3⟩:=hN σ3 H3 n3;exact⟨m',hm,σ3,H3,I3,w3⟩
  |cont=>
   obtain⟨σ3,H3,I3,n3⟩:=q3;obtain⟨m',hm,w3⟩:=hN σ3 H3 n3;exact⟨m',hm,σ3,H3,I3,w3⟩
  |brk=>exact q3
  |ret v=>exact q3
 |false=>
  rw[if_neg Qp];exact QaI ⟨σ1,H2,I2,q2⟩
end
structure It where
 go:Nat->Hp->Prop
 yld:Nat->Hp->V->Hp->Prop
 stop:Nat->Hp->Prop
def FpOk(X:Cx)(pins:List (Addr×Obj))(H:Hp)(b:Addr):Prop:=
 H b=none/\b≠X.env.locals/\b∉X.fs/\(b∈X.ex∨X.s₀.heap.objs.size<=b)/\(∀x c,X.env.cells.lookup x=some c->c≠b)/\∀p∈X.pn++pins,p.1≠b
theorem Inv.fpOk{X:Cx}{pins:List (Addr×Obj)}{σ:St}{H H':Hp}{s:Shared}{b:Addr}(I:Inv X pins σ H s)(hb:s.heap.objs.size<=b)(hn:H' b=none):FpOk X pins H' b:=by
 refine⟨hn,QfH (QR I.lt hb),I.nofs hb,.inr (Qt I.sz hb),λx c e z=>?_,λp hp z=>?_⟩
 ·obtain⟨v,q⟩:=I.cell x c e;exact absurd (QR q.lt (by rw[z];exact hb)) (Yg _)
 ·exact absurd (QR (Qs (I.pin p hp).1) (by rw[z];exact hb)) (Yg _)
structure Turn (P:Qm) (w:QZ) (K:PySem.W.Frag) (tg:QV) (J:It) (fp:List Addr) (it:Addr) (tn:Nat->JS->Prop):Prop where
 mem:it∈fp
 obj:∀i h,tn i h->∀b∈fp,∃o,h.get? b=some o/\∀v,o.data≠.cell v
 keep:∀i h h',tn i h->(∀b∈fp,∀o,h.get? b=some o->h'.get? b=some o)->tn i h'
 item:∀(X:Cx),X.prog=P->X.w=w->X.K=K->X.calm=true->∀(i:Nat)(pins:List (Addr×Obj))(s:Shared)(σ:St)(H:Hp)(E:Value->Shared->Prop),Inv X pins σ H s->(∀b∈fp,FpOk X pins H b)->tn i s.heap->J.go i H ->
  wpAny (model P w) X.A (pyNext (.ref it)) (λr s1=>∃u,r=some u /\
   wpAny (model P w) X.A (letOwnedTupleGo tg (.ref it) u) (λ_ s2=>∃x H',Inv X pins σ H' s2/\RelV x u/\J.yld i H x H'/\tn (i+1) s2.heap/\∀b∈fp,H' b=none) E s1) E s
 done:∀(X:Cx),X.prog=P->X.w=w->X.K=K->X.calm=true->∀(i:Nat)(pins:List (Addr×Obj))(s:Shared)(σ:St)(H:Hp)(E:Value->Shared->Prop),Inv X pins σ H s->(∀b∈fp,FpOk X pins H b)->tn i s.heap->J.stop i H ->
  wpAny (model P w) X.A (pyNext (.ref it)) (λr s1=>r=none/\Inv X pins σ H s1) E s
 self:∀(A:Q1)(i:Nat)(s:Shared)(Q:Value->Shared->Prop)(E:Value->Shared->Prop),tn i s.heap->Q (.ref it) s->wpAny (model P w) A (pyIter (.ref it)) Q E s
abbrev TI:=St->Hp->(It->Hp->Prop)->Prop
def PIE(X:Cx)(pins:List (Addr×Obj))(σ:St)(tg:QV)(R:It->Hp->Prop)(itv:Value)(s2:Shared):Prop:=
 ∃(it:Addr)(fp:List Addr)(tn:Nat->JS->Prop)(J:It)(H':Hp),itv=.ref it/\Inv X pins σ H' s2/\Turn X.prog X.w X.K tg J fp it tn/\tn 0 s2.heap/\(∀b∈fp,FpOk X pins H' b)/\R J H'
def PI(X:Cx)(tg iter:QV)(wi:TI):Prop:=
 ∀(pins:List (Addr×Obj))(s:Shared)(σ:St)(H:Hp)(R:It->Hp->Prop),Inv X pins σ H s->wi σ H R ->
  wpAny (model X.prog X.w) X.A (eval iter X.env) (λv s1=>wpAny (model X.prog X.w) X.A (pyIter v) (PIE X pins σ tg R) X.xe s1) X.xe s
theorem Qnp{M:Qlm}{A:Q1}{E:Value->Shared->Prop}{s:Shared}{tg:QV}{it:Addr}{u:Value}{o:Obj}{n:String}{vs:Array Value}{Q:Unit->Shared->Prop}(ho:s.heap.get? it=some o)(hc:o.cls=.type n)(hd:o.data=.fields vs)
  (hn:["enumerate", "zip", "dict_itemiterator", "dict_reverseitemiterator", "odict_iterator", "itertools.zip_longest", "itertools.pairwise"].contains n=false)(hQ:Q () s):wpAny M A (letOwnedTupleGo tg (.ref it) u) Q E s:=by
 unfold letOwnedTupleGo;cases tg<;>first
  |exact Qo hQ
  |(cases u<;>first
    |exact Qo hQ
    |(refine wpAny_bind (wpAny_load ho ?_)
      rw[hc,hd];show wpAny M A (if(["enumerate", "zip", "dict_itemiterator", "dict_reverseitemiterator", "odict_iterator", "itertools.zip_longest", "itertools.pairwise"].contains n&&vs[0]? == some (rawInt _))=true then _ else _) Q E s;rw[if_neg (by intro h;rw[hn,QbU] at h;cases h)];exact Qo hQ))
def Itl(K:PySem.W.Frag)(a:Addr):It:=
 ⟨λi H=>∃xs x,SqL K H a xs/\xs[i]? = some x,λi H x H'=>H'=H/\∀xs,SqL K H a xs->xs[i]? = some x,λi H=>∃xs,SqL K H a xs/\xs.length<=i⟩
def Itt(K:PySem.W.Frag)(a:Addr):It:=
 ⟨λi H=>∃xs x,SqT K H a xs/\xs[i]? = some x,λi H x H'=>H'=H/\∀xs,SqT K H a xs->xs[i]? = some x,λi H=>∃xs,SqT K H a xs/\xs.length<=i⟩
def Itr(lo:Int)(n:Nat):It:=⟨λi _=>i<n,λi H x H'=>H'=H/\x=.int (lo+i),λi _=>n<=i⟩
theorem Qlv{P:Qm}{w:QZ}{K:PySem.W.Frag}{tg:QV}(a it:Addr):Turn P w K tg (Itl K a) [it] it (λi h=>h.IsListIter it a i) where
 mem:=by simp
 obj:=λi h st b hb=>by
  have e:b=it:=by simpa using hb
  subst e;obtain⟨o,e,c,d⟩:=st;exact⟨o,e,λv z=>by rw[d] at z;cases z⟩
 keep:=λi h h' st k=>st.at λo e=>k it (by simp) o e
 item:=by
  intro X hP hw hK hc i pins s σ H E I hf st hg;subst hP hw hK;obtain⟨xs,x,hq,hx⟩:=hg;obtain⟨its,rv,p,hz⟩:=I.list hq;obtain⟨u,hu,ru⟩:=rv.get hx;obtain⟨f0,f1,f2,f3,f4,f5⟩:=hf it (by simp);refine wpAny_pyNext_list_item st p.isList (x:=u) (by simpa using hu) λh' st' sb=>?_
  have I1:Inv X pins σ H { s with heap:=h' }:=I.turned (t':=s.toks) (λb o hb e=>(sb.2 b hb).trans e) f0 f1 f3 f4 f5;obtain⟨o,e,c,d⟩:=id st';exact⟨u,rfl,Qnp (s:={ s with heap:=h' }) e c d (by decide) ⟨x,H,I1,ru,⟨rfl,λys hy=>by rw[I.list_inj hy hq];exact hx⟩,st',λb hb=>(hf b hb).1⟩⟩
 done:=by
  intro X hP hw hK hc i pins s σ H E I hf st hg;subst hP hw hK;obtain⟨xs,hq,hx⟩:=hg;obtain⟨its,rv,p,hz⟩:=I.list hq;obtain⟨f0,f1,f2,f3,f4,f5⟩:=hf it (by simp);have hl:=rv.length;exact wpAny_pyNext_list_end (I.ok.hd hc) st p.isList (by simp;omega) λh' eb=>⟨rfl,I.turned (t':=s.toks) (λb o hb e=>eb b o hb e) f0 f1 f3 f4 f5⟩
 self:=λ_ _ _ _ _ st h=>wpAny_pyIter_listiter st h
theorem Qkn{P:Qm}{w:QZ}{K:PySem.W.Frag}{tg:QV}(a it:Addr):Turn P w K tg (Itt K a) [it] it (λi h=>h.IsTupleIter it a i) where
 mem:=by simp
 obj:=λi h st b hb=>by
  have e:b=it:=by simpa using hb
  subst e;obtain⟨o,e,c,d⟩:=st;exact⟨o,e,λv z=>by rw[d] at z;cases z⟩
 keep:=λi h h' st k=>st.at λo e=>k it (by simp) o e
 item:=by
  intro X hP hw hK hc i pins s σ H E I hf st hg;subst hP hw hK;obtain⟨xs,x,hq,hx⟩:=hg;obtain⟨its,rv,p,hz⟩:=I.tuple hq;obtain⟨u,hu,ru⟩:=rv.get hx;obtain⟨f0,f1,f2,f3,f4,f5⟩:=hf it (by simp);refine wpAny_pyNext_tuple_item st (show s.heap.IsTuple a its.toArray from p) (x:=u) (by simpa using hu) λh' st' sb=>?_
  have I1:Inv X pins σ H { s with heap:=h' }:=I.turned (t':=s.toks) (λb o hb e=>(sb.2 b hb).trans e) f0 f1 f3 f4 f5;obtain⟨o,e,c,d⟩:=id st';exact⟨u,rfl,Qnp (s:={ s with heap:=h' }) e c d (by decide) ⟨x,H,I1,ru,⟨rfl,λys hy=>by rw[I.tuple_inj hy hq];exact hx⟩,st',λb hb=>(hf b hb).1⟩⟩
 done:=by
  intro X hP hw hK hc i pins s σ H E I hf st hg;subst hP hw hK;obtain⟨xs,hq,hx⟩:=hg;obtain⟨its,rv,p,hz⟩:=I.tuple hq;obtain⟨f0,f1,f2,f3,f4,f5⟩:=hf it (by simp);have hl:=rv.length;exact wpAny_pyNext_tuple_end (I.ok.hd hc) st (show s.heap.IsTuple a its.toArray from p) (by simp;omega) λh' eb=>⟨rfl,I.turned (t':=s.toks) (λb o hb e=>eb b o hb e) f0 f1 f3 f4 f5⟩
 self:=λ_ _ _ _ _ st h=>wpAny_pyIter_tupleiter st h
theorem Qko{P:Qm}{w:QZ}{K:PySem.W.Frag}{tg:QV}(it:Addr)(lo:Int)(n:Nat):Turn P w K tg (Itr lo n) [it] it (λi h=>Qkf h it (lo+(i:Nat)*1) ((n:Int) - (i:Nat)) 1) where
 mem:=by simp
 obj:=λi h st b hb=>by
  have e:b=it:=by simpa using hb
  subst e;exact⟨_,st,λv z=>by
   have z':Data.fields _=Data.cell v:=z;cases z'⟩
 keep:=λi h h' st k=>k it (by simp) _ st
 item:=by
  intro X hP hw hK hc i pins s σ H E I hf st hg;subst hP hw hK;obtain⟨f0,f1,f2,f3,f4,f5⟩:=hf it (by simp);have W:=QzQ (prog:=X.prog) (w:=X.w) (I.ok.hd hc) it lo 1 n;refine W.item i s _ _ hg st λv h' tk hv st' kk=>?_
  obtain⟨t,rfl⟩:=hv;have I1:Inv X pins σ H { s with heap:=h',toks:=tk }:=I.turned (λb o hb e=>kk b o (by simpa using hb) e) f0 f1 f3 f4 f5;refine⟨_,rfl,Qnp (s:={ s with heap:=h',toks:=tk }) (n := "range_iterator") st' rfl rfl (by decide) ⟨.int (lo+i),H,I1,⟨t,?_⟩,⟨rfl,rfl⟩,st',λb hb=>(hf b hb).1⟩⟩;rw[Int.mul_one]
 done:=by
  intro X hP hw hK hc i pins s σ H E I hf st hg;subst hP hw hK;obtain⟨f0,f1,f2,f3,f4,f5⟩:=hf it (by simp);exact QrB (I.ok.hd hc) st (by have:n<=i:=hg;omega) λh' eb=>⟨rfl,I.turned (t':=s.toks) (λb o hb e=>eb b o hb e) f0 f1 f3 f4 f5⟩
 self:=λ_ _ _ _ _ st h=>Qdz st h
section
variable{X:Cx}{tg:QV}
def QA3(K:PySem.W.Frag)(tl:TE):TI:=λσ H R=>tl σ H λx H1=>∃a,x=.ref a/\(∃xs,SqL K H1 a xs)/\R (Itl K a) H1
def QCN(K:PySem.W.Frag)(tl:TE):TI:=λσ H R=>tl σ H λx H1=>∃a,x=.ref a/\(∃xs,SqT K H1 a xs)/\R (Itt K a) H1
theorem QcH{l:QV}{tl:TE}(hl:PE X l tl):PI X tg l (QA3 X.K tl):=by
 intro pins s σ H R I h;refine thn (hl pins s σ H _ I h) λv s1 ⟨x,H1,I1,r1,q1⟩=>?_
 obtain⟨a,e,⟨xs,hq⟩,q⟩:=q1;subst e;cases r1;obtain⟨its,rv,p,hz⟩:=I1.list hq;refine QgX p.isList ?_
 refine⟨s1.heap.objs.size,[s1.heap.objs.size],_,_,H1,rfl,I1.kept (t':=s1.toks) λb o e=>Qh _ e,Qlv a _,⟨_,QD _ rfl,rfl,rfl⟩,λb hb=>?_,q⟩;have e:b=s1.heap.objs.size:=by simpa using hb
 subst e;exact I1.fpOk (Qf _) (I1.hok.fresh (Qf _))
theorem Qsk{l:QV}{tl:TE}(hl:PE X l tl):PI X tg l (QCN X.K tl):=by
 intro pins s σ H R I h;refine thn (hl pins s σ H _ I h) λv s1 ⟨x,H1,I1,r1,q1⟩=>?_
 obtain⟨a,e,⟨xs,hq⟩,q⟩:=q1;subst e;cases r1;obtain⟨its,rv,p,hz⟩:=I1.tuple hq;refine wpAny_pyIter_tuple (show s1.heap.IsTuple a its.toArray from p) ?_
 refine⟨s1.heap.objs.size,[s1.heap.objs.size],_,_,H1,rfl,I1.kept (t':=s1.toks) λb o e=>Qh _ e,Qkn a _,⟨_,QD _ rfl,rfl,rfl⟩,λb hb=>?_,q⟩;have e:b=s1.heap.objs.size:=by simpa using hb
 subst e;exact I1.fpOk (Qf _) (I1.hok.fresh (Qf _))
theorem QoU{pins:List (Addr×Obj)}{σ:St}{H:Hp}{s:Shared}{R:It->Hp->Prop}{E:Value->Shared->Prop}{lo hi:Int}{t u v:Tok}{tk:Nat}(I:Inv X pins σ H s)(h1 : -(2^62)<=lo)(h2:lo<2^62)(h3 : -(2^62)<=hi)(h4:hi<2^62)
  (q:R (Itr lo (hi - lo).toNat) H):wpAny (model X.prog X.w) X.A (pyIter (.ref s.heap.objs.size)) (PIE X pins σ tg R) E { s with heap:=s.heap.push { cls:=.type "range",data:=.fields #[.int lo t,.int hi u,.int 1 v] },toks:=tk }:=by
 refine wpAny_pyIter_range (IsRange.new ..) (small_one h1 h2 h3 h4) ?_
 have I1:Inv X pins σ H { s with heap:=s.heap.push { cls:=.type "range",data:=.fields #[.int lo t,.int hi u,.int 1 v] },toks:=tk }:=I.kept λb o e=>Qh _ e
 refine⟨(s.heap.push { cls:=.type "range",data:=.fields #[.int lo t,.int hi u,.int 1 v] }).objs.size,[(s.heap.push { cls:=.type "range",data:=.fields #[.int lo t,.int hi u,.int 1 v] }).objs.size],_,_,H,rfl,
  I1.kept (t':=tk) λb o e=>Qh _ e,Qko _ lo (hi - lo).toNat,?_,λb hb=>?_,q⟩
 ·have e1:lo+((0:Nat):Int)*1=lo:=by simp
  have e2:(((hi - lo).toNat:Nat):Int) - ((0:Nat):Int)=Zl lo hi 1:=by rw[Qon];split<;>omega
  show Qkf _ _ (lo+((0:Nat):Int)*1) ((((hi - lo).toNat:Nat):Int) - ((0:Nat):Int)) 1;rw[e1,e2];exact QD _ rfl
 ·have e:b=(s.heap.push { cls:=.type "range",data:=.fields #[.int lo t,.int hi u,.int 1 v] }).objs.size:=by simpa using hb
  subst e;exact I1.fpOk (Qf _) (I1.hok.fresh (Qf _))
def QA2(ta:TA):TI:=λσ H R=>ta σ H λvs H1=>∃j:Int,vs=[.int j] /\ -(2^62)<=j/\j<2^62/\R (Itr 0 j.toNat) H1
theorem Qau{a:QV}{ta:TA}{p pos:Pos}(hg:Gl X "range")(hm:X.mg "range" = none)(ha:PA X [a] ta)(hs:starEach [a] X.env=[(false,eval a X.env)]:=by rfl):PI X tg (.Call (.Name "range" p) [a] [] pos) (QA2 ta):=by
 intro pins s σ H R I h;refine Call_ (Qe0 I hg hm boot_range (Zv (thn (ha pos pins s σ H _ I h) λus s1 ⟨vs,H1,I1,r1,q1⟩=>?_) hs rfl));obtain⟨j,e,q1,q2,q⟩:=q1;subst e;cases r1 with
 |cons r rr=>
  cases rr;obtain⟨t,rfl⟩:=r;exact call_range_1 (QoU I1 (by omega) (by omega) q1 q2 (by simpa using q))
def tFor(wi:TI)(g:TG)(tb:TS):TS:=λD σ H=>wi σ H λJ H1=>∃W:Nat->Nat->St->Hp->Prop,(∃m,W 0 m σ H1)/\∀i m σ H,W i m σ H ->
 (J.stop i H/\D.nx σ H)∨(J.go i H/\∃N:St->Hp->Prop,(∀σ' H',N σ' H'->∃m',m'<m/\W (i+1) m' σ' H')/\∀x H',J.yld i H x H'->g x σ H' λσ2 H2=>tb { D with nx:=N,ct:=N,bk:=D.nx } σ2 H2)
def QjB(fp:List Addr)(h:JS):List (Addr×Obj):=fp.filterMap λb=>(h.get? b).map λo=>(b,o)
theorem Qcm{fp:List Addr}{h:JS}{b:Addr}{o:Obj}(hb:b∈fp)(e:h.get? b=some o):(b,o)∈QjB fp h:=QbL.mpr ⟨b,hb,by rw[e];rfl⟩
theorem QmW{fp:List Addr}{h:JS}{p:Addr×Obj}(hp:p∈QjB fp h):p.1∈fp/\h.get? p.1=some p.2:=by
 obtain⟨b,hb,e⟩:=QbL.mp hp;cases q:h.get? b with
 |none=>rw[q] at e;cases e
 |some o=>
  rw[q] at e;have e':(b,o)=p:=QH e;subst e';exact⟨hb,q⟩
theorem Inv.pinned{pins:List (Addr×Obj)}{σ:St}{H:Hp}{s:Shared}{fp:List Addr}(I:Inv X pins σ H s)(hf:∀b∈fp,FpOk X pins H b)(ho:∀b∈fp,∃o,s.heap.get? b=some o/\∀v,o.data≠.cell v):Inv X (pins++QjB fp s.heap) σ H s:=
 I.pins_of λp hp=>(QC.mp hp).elim (λz=>I.pin p (JJ _ z)) λz=>by
  obtain⟨hb,e⟩:=QmW z;obtain⟨f0,f1,f2,_⟩:=hf p.1 hb;obtain⟨o,e',d⟩:=ho p.1 hb;rw[e] at e';cases e';exact⟨e,f0,f1,f2,d⟩
theorem Inv.unpinned{pins pl:List (Addr×Obj)}{σ:St}{H:Hp}{s:Shared}(I:Inv X (pins++pl) σ H s):Inv X pins σ H s:=I.pins_of λp hp=>I.pin p (JJ _ (Qa5 _ hp))
theorem Qhw{iter:QV}{body:List J7}{wi:TI}{g:TG}{tb:TS}{pos:Pos}(hp:Qf6 (model X.prog X.w) X.A X.env X.xe)(hc:X.calm=true)(hi:PI X tg iter wi)(hg:PG X tg g)(hb:PSs X body tb)
  (hs:∀x,foldedSetIterable iter X.env x=pure x:=by intro _;rfl):PS X (.For tg iter body [] pos) (tFor wi g tb):=by
 intro pins s σ H D I h;refine wpAny_For (thn (hi pins s σ H _ I h) λv s1 h1=>thn h1 λitv s2 h2=>?_) hs;obtain⟨it,fp,tn,J,H2,e,I2,T,st2,f2,W,⟨m0,w0⟩,turn⟩:=h2;subst e;have stat:∀{H':Hp},(∀b∈fp,H' b=none)->∀b∈fp,FpOk X pins H' b:=λhn b hb=>⟨hn b hb,(f2 b hb).2⟩
 refine codeAny_forLoop_any (λn s'=>∃i σ' H',Inv X pins σ' H' s'/\tn i s'.heap/\(∀b∈fp,H' b=none)/\W i n σ' H') ?_ m0 ⟨0,σ,H2,I2,st2,λb hb=>(f2 b hb).1,w0⟩
 rintro n s3 ⟨i,σ3,H3,I3,st3,fr3,w3⟩;rcases turn i n σ3 H3 w3 with⟨stop,qn⟩ | ⟨go,N,hN,step⟩
 ·refine YN hp (thn (T.done X rfl rfl rfl hc i pins s3 σ3 H3 X.xe I3 (stat fr3) st3 stop) λr s4 ⟨hr,I4⟩=>?_);subst hr;exact QaI ⟨σ3,H3,I4,qn⟩
 ·refine YN hp (thn (T.item X rfl rfl rfl hc i pins s3 σ3 H3 X.xe I3 (stat fr3) st3 go) λr s4 ⟨u,hr,h4⟩=>?_);subst hr;refine YN hp (thn h4 λ_ s5 ⟨x,H5,I5,r5,y5,st5,fr5⟩=>?_);have I5':=I5.pinned (stat fr5) (T.obj _ _ st5);refine YN hp (thn (hg _ s5 σ3 H5 x u _ I5' r5 (step x H5 y5)) λ_ s6 ⟨σ6,H6,I6,q6⟩=>?_);refine YN hp (thn (hb _ s6 σ6 H6 _ I6 q6) λf s7 q7=>?_);have again:∀{σ7:St}{H7:Hp},Inv X (pins++QjB fp s5.heap) σ7 H7 s7->N σ7 H7->∃m,m<n/\∃i σ' H',Inv X pins σ' H' s7/\tn i s7.heap/\(∀b∈fp,H' b=none)/\W i m σ' H':=λ{σ7 H7} I7 n7=>by
   obtain⟨m',hm,w7⟩:=hN σ7 H7 n7;refine⟨m',hm,i+1,σ7,H7,I7.unpinned,T.keep _ _ _ st5 λb hb o e=>(I7.pin (b,o) (JJ _ (JJ _ (Qcm hb e)))).1,λb hb=>?_,w7⟩;obtain⟨o,e,d⟩:=T.obj _ _ st5 b hb;exact(I7.pin (b,o) (JJ _ (JJ _ (Qcm hb e)))).2.1
  cases f with
  |next=>obtain⟨σ7,H7,I7,n7⟩:=q7;exact again I7 n7
  |cont=>obtain⟨σ7,H7,I7,n7⟩:=q7;exact again I7 n7
  |brk=>obtain⟨σ7,H7,I7,q7⟩:=q7;exact⟨σ7,H7,I7.unpinned,q7⟩
  |ret v=>obtain⟨x7,σ7,H7,I7,r7,q7⟩:=q7;exact⟨x7,σ7,H7,I7.unpinned,r7,q7⟩
end
theorem Qrd{K:PySem.W.Frag}{a:Addr}{xs:List V}{g:TG}{tb:TS}{D:Ends}{σ:St}{H:Hp}(Pv:Nat->St->Hp->Prop)(h0:Pv 0 σ H)(hl:∀i σ H,i<=xs.length->Pv i σ H->SqL K H a xs)
  (hs:∀i x σ H,xs[i]? = some x->Pv i σ H->g x σ H λσ2 H2=>tb { D with nx:=Pv (i+1),ct:=Pv (i+1),bk:=D.nx } σ2 H2)(hd:∀σ H,Pv xs.length σ H->D.nx σ H) :
  ∃W:Nat->Nat->St->Hp->Prop,(∃m,W 0 m σ H)/\∀i m σ H,W i m σ H ->
   ((Itl K a).stop i H/\D.nx σ H)∨((Itl K a).go i H/\∃N:St->Hp->Prop,(∀σ' H',N σ' H'->∃m',m'<m/\W (i+1) m' σ' H')/\∀x H',(Itl K a).yld i H x H'->g x σ H' λσ2 H2=>tb { D with nx:=N,ct:=N,bk:=D.nx } σ2 H2):=by
 refine⟨λi m σ H=>m=xs.length - i/\i<=xs.length/\Pv i σ H,⟨xs.length,by simp,Jn _,h0⟩,?_⟩;rintro i m σ H ⟨rfl,hi,p⟩;have q:=hl i σ H hi p;by_cases hlt:i<xs.length
 ·refine .inr ⟨⟨xs,xs[i],q,by simp[hlt]⟩,Pv (i+1),λσ' H' p'=>⟨xs.length - (i+1),by omega,rfl,hlt,p'⟩,λx H' y=>?_⟩;obtain⟨e,y⟩:=y;subst e;exact hs i x σ _ (y xs q) p
 ·have e:i=xs.length:=by omega
  subst e;exact .inl ⟨⟨xs,q,Qf _⟩,hd σ H p⟩
theorem Qe4{lo:Int}{n:Nat}{g:TG}{tb:TS}{D:Ends}{σ:St}{H:Hp}(Pv:Nat->St->Hp->Prop)(h0:Pv 0 σ H)
  (hs:∀i σ H,i<n->Pv i σ H->g (.int (lo+i)) σ H λσ2 H2=>tb { D with nx:=Pv (i+1),ct:=Pv (i+1),bk:=D.nx } σ2 H2)(hd:∀σ H,Pv n σ H->D.nx σ H) :
  ∃W:Nat->Nat->St->Hp->Prop,(∃m,W 0 m σ H)/\∀i m σ H,W i m σ H ->
   ((Itr lo n).stop i H/\D.nx σ H)∨((Itr lo n).go i H/\∃N:St->Hp->Prop,(∀σ' H',N σ' H'->∃m',m'<m/\W (i+1) m' σ' H')/\∀x H',(Itr lo n).yld i H x H'->g x σ H' λσ2 H2=>tb { D with nx:=N,ct:=N,bk:=D.nx } σ2 H2):=by
 refine⟨λi m σ H=>m=n - i/\i<=n/\Pv i σ H,⟨n,by simp,Jn _,h0⟩,?_⟩;rintro i m σ H ⟨rfl,hi,p⟩;by_cases hlt:i<n
 ·refine .inr ⟨hlt,Pv (i+1),λσ' H' p'=>⟨n - (i+1),by omega,rfl,hlt,p'⟩,λx H' y=>?_⟩;obtain⟨e,y⟩:=y;subst e y;exact hs i σ _ hlt p
 ·have e:i=n:=by omega
  subst e;exact .inl ⟨Qf _,hd σ H p⟩
abbrev R2:=V->V->Hp->VK->Prop
def OpR(X:Cx)(f:Value->Value->Sem Value)(r:R2):Prop:=
 ∀(pins:List (Addr×Obj))(s:Shared)(σ:St)(H:Hp)(x y:V)(v u:Value)(Q:VK),Inv X pins σ H s->RelV x v->RelV y u->r x y H Q ->
  wpAny (model X.prog X.w) X.A (f v u) (EP X pins σ Q) X.xe s
def UnR(X:Cx)(f:Value->Sem Value)(r:V->Hp->VK->Prop):Prop:=
 ∀(pins:List (Addr×Obj))(s:Shared)(σ:St)(H:Hp)(x:V)(v:Value)(Q:VK),Inv X pins σ H s->RelV x v->r x H Q ->
  wpAny (model X.prog X.w) X.A (f v) (EP X pins σ Q) X.xe s
def CallR(X:Cx)(f:Value)(r:List V->Hp->VK->Prop):Prop:=
 ∀(pins:List (Addr×Obj))(s:Shared)(σ:St)(H:Hp)(xs:List V)(us:List Value)(Q:VK),Inv X pins σ H s->Vals xs us->r xs H Q ->
  wpAny (model X.prog X.w) X.A (call f us) (EP X pins σ Q) X.xe s
def QCV(X:Cx)(r:V->Hp->(Bool->Hp->Prop)->Prop):Prop:=
 ∀(pins:List (Addr×Obj))(s:Shared)(σ:St)(H:Hp)(x:V)(v:Value)(Q:Bool->Hp->Prop),Inv X pins σ H s->RelV x v->r x H Q ->
  wpAny (model X.prog X.w) X.A (truthy v) (TP X pins σ Q) X.xe s
def tOp(r:R2)(ta tb:TE):TE:=λσ H Q=>ta σ H λx H1=>tb σ H1 λy H2=>r x y H2 Q
def tUn(r:V->Hp->VK->Prop)(ta:TE):TE:=λσ H Q=>ta σ H λx H1=>r x H1 Q
def rI(C:Int->Int->Prop)(g:Int->Int->V):R2:=λx y H Q=>∃i j,x=.int i/\y=.int j/\C i j/\Q (g i j) H
def rI0(g:Int->Int->V):R2:=λx y H Q=>∃i j,x=.int i/\y=.int j/\Q (g i j) H
def rU(g:Int->V):V->Hp->VK->Prop:=λx H Q=>∃i,x=.int i/\Q (g i) H
section
variable{X:Cx}{a b c:QV}{ta tb tc:TE}{pos:Pos}
theorem QBq(ha:PE X a ta)(hb:PE X b tb){pins:List (Addr×Obj)}{s:Shared}{σ:St}{H:Hp}{R:V->V->Hp->Prop}(I:Inv X pins σ H s)
  (h:ta σ H λx H1=>tb σ H1 λy H2=>R x y H2){Q:Value->Shared->Prop}{f:Value->Value->Sem Value}
  (hf:∀v u s2 x y H2,Inv X pins σ H2 s2->RelV x v->RelV y u->R x y H2->wpAny (model X.prog X.w) X.A (f v u) Q X.xe s2) :
  wpAny (model X.prog X.w) X.A (eval a X.env) (λv s₁=>wpAny (model X.prog X.w) X.A (eval b X.env) (λu s₂=>wpAny (model X.prog X.w) X.A (f v u) Q X.xe s₂) X.xe s₁) X.xe s:=by
 refine thn (ha pins s σ H _ I h) λv s1 ⟨x,H1,I1,r1,q1⟩=>?_
 refine thn (hb pins s1 σ H1 _ I1 q1) λu s2 ⟨y,H2,I2,r2,q2⟩=>?_
 exact hf v u s2 x y H2 I2 r1 r2 q2
theorem ZF{op:Qc5}{r:R2}(ho:OpR X (binaryOp op) r)(ha:PE X a ta)(hb:PE X b tb):PE X (.BinOp a op b pos) (tOp r ta tb):=by
 intro pins s σ H Q I h;exact wpAny_BinOp (QBq ha hb I h λv u s2 x y H2 I2 rx ry q=>ho pins s2 σ H2 x y v u Q I2 rx ry q)
theorem Qmt{op:UnaryOp}{r:V->Hp->VK->Prop}(ho:UnR X (unaryOp op) r)(ha:PE X a ta):PE X (.UnaryOp op a pos) (tUn r ta):=by
 intro pins s σ H Q I h;exact UnaryOp_ (thn (ha pins s σ H _ I h) λv s1 ⟨x,H1,I1,r1,q1⟩=>ho pins s1 σ H1 x v Q I1 r1 q1)
theorem opI{f:Value->Value->Sem Value}{C:Int->Int->Prop}{g:Int->Int->Int}
  (rule:∀(i j:Int)(t u:Tok)(s:Shared)(Q:Value->Shared->Prop)(E:Value->Shared->Prop),C i j->Q (.int (g i j) s.toks) { s with toks:=s.toks+1 }->wpAny (model X.prog X.w) X.A (f (.int i t) (.int j u)) Q E s) :
  OpR X f (rI C λi j=>.int (g i j)):=by
 intro pins s σ H x y v u Q I rx ry h;obtain⟨i,j,rfl,rfl,hc,q⟩:=h;obtain⟨t,rfl⟩:=rx;obtain⟨t',rfl⟩:=ry;exact rule i j t t' s _ _ hc ⟨.int (g i j),H,I.tok _,⟨_,rfl⟩,q⟩
theorem QzA{f:Value->Value->Sem Value}{g:Int->Int->Int}
  (rule:∀(i j:Int)(t u:Tok)(s:Shared)(Q:Value->Shared->Prop)(E:Value->Shared->Prop),Q (.int (g i j) s.toks) { s with toks:=s.toks+1 }->wpAny (model X.prog X.w) X.A (f (.int i t) (.int j u)) Q E s) :
  OpR X f (rI0 λi j=>.int (g i j)):=by
 intro pins s σ H x y v u Q I rx ry h;obtain⟨i,j,rfl,rfl,q⟩:=h;obtain⟨t,rfl⟩:=rx;obtain⟨t',rfl⟩:=ry;exact rule i j t t' s _ _ ⟨.int (g i j),H,I.tok _,⟨_,rfl⟩,q⟩
theorem QzB{f:Value->Value->Sem Value}{g:Int->Int->Bool}
  (rule:∀(i j:Int)(t u:Tok)(s:Shared)(Q:Value->Shared->Prop)(E:Value->Shared->Prop),Q (.bool (g i j)) s->wpAny (model X.prog X.w) X.A (f (.int i t) (.int j u)) Q E s) :
  OpR X f (rI0 λi j=>.bl (g i j)):=by
 intro pins s σ H x y v u Q I rx ry h;obtain⟨i,j,rfl,rfl,q⟩:=h;obtain⟨t,rfl⟩:=rx;obtain⟨t',rfl⟩:=ry;exact rule i j t t' s _ _ ⟨.bl (g i j),H,I,rfl,q⟩
def QCl(i j:Int):Prop:=0<=j/\j<=1000000/\i.natAbs<2^64
def CMul(i j:Int):Prop:=(-(2^64)<i/\i<2^64)∨(-(2^64)<j/\j<2^64)
theorem CMul.ok{i j:Int}(h:CMul i j):IntMulOk i j:=by
 rcases h with⟨h1,h2⟩ | ⟨h1,h2⟩
 ·exact .of_left (intBits_le_64 h1 h2)
 ·exact .of_right (intBits_le_64 h1 h2)
theorem Qca:OpR X (binaryOp .Add) (rI0 λi j=>.int (i+j)):=QzA λ_ _ _ _ _ _ _ q=>add_int q
theorem QeQ:OpR X (binaryOp .Sub) (rI0 λi j=>.int (i - j)):=QzA λ_ _ _ _ _ _ _ q=>sub_int q
theorem QfT:OpR X (binaryOp .Mult) (rI CMul λi j=>.int (i*j)):=opI λ_ _ _ _ _ _ _ hc q=>mul_int q hc.ok
theorem QhC:OpR X (binaryOp .Mod) (rI (λ_ j=>0<j) λi j=>.int (i % j)):=opI λi j _ _ _ _ _ hc q=>by
 have h1:(0:Int)<j:=hc;exact mod_int' (by omega) (by rw[Int.fmod_eq_emod_of_nonneg i (by omega)];exact q)
theorem QjG:OpR X (binaryOp .Pow) (rI QCl λi j=>.int (i^j.toNat)):=opI λ_ _ _ _ _ _ _ hc q=>pow_int_small hc.1 hc.2.1 hc.2.2 q
theorem QjF:OpR X (binaryOp .LShift) (rI QCl λi j=>.int (i*2^j.toNat)):=opI λ_ _ _ _ _ _ _ hc q=>lshift_int_small hc.1 hc.2.1 hc.2.2 q
theorem Qx7:OpR X (binaryOp .BitAnd) (rI0 λi j=>.int (QcZ i j)):=QzA λ_ _ _ _ _ _ _ q=>and_int q
theorem QAL:OpR X (binaryOp .BitOr) (rI0 λi j=>.int (QdC i j)):=QzA λ_ _ _ _ _ _ _ q=>or_int q
theorem unI{f:Value->Sem Value}{g:Int->Int}
  (rule:∀(i:Int)(t:Tok)(s:Shared)(Q:Value->Shared->Prop)(E:Value->Shared->Prop),Q (.int (g i) s.toks) { s with toks:=s.toks+1 }->wpAny (model X.prog X.w) X.A (f (.int i t)) Q E s) :
  UnR X f (rU λi=>.int (g i)):=by
 intro pins s σ H x v Q I rx h;obtain⟨i,rfl,q⟩:=h;obtain⟨t,rfl⟩:=rx;exact rule i t s _ _ ⟨.int (g i),H,I.tok _,⟨_,rfl⟩,q⟩
theorem Qhd:UnR X (unaryOp .USub) (rU λi=>.int (-i)):=unI λ_ _ _ _ _ q=>neg_int q
def QBI:V->V->Bool
 |.non,.non=>true | .non,.int _=>true | .int _,.non=>true | .non,.bl _=>true | .bl _,.non=>true | .non,.str _=>true | .str _,.non=>true
 |.int _,.int _=>true | .bl _,.bl _=>true | .str _,.str _=>true | .byt _,.byt _=>true
 |.int _,.str _=>true | .str _,.int _=>true | .bl _,.str _=>true | .str _,.bl _=>true
 |_,_=>false
def rEq:R2:=λx y H Q=>QBI x y=true/\Q (.bl (decide (x=y))) H
def rNe:R2:=λx y H Q=>QBI x y=true/\Q (.bl (!decide (x=y))) H
theorem Qny{i j:Int}:decide (V.int i=V.int j)=(i == j):=by
 rw[JD];simp
theorem QsQ{i j:Bool}:decide (V.bl i=V.bl j)=(i == j):=by
 rw[JD];simp
theorem Qnx{i j:Str}:decide (V.str i=V.str j)=(i == j):=by
 rw[JD];simp
theorem Qnz{i j:Array UInt8}:decide (V.byt i=V.byt j)=(i.toList == j.toList):=by
 rw[JD];cases i;cases j;simp
theorem ZC{pins:List (Addr×Obj)}{σ:St}{H:Hp}{s:Shared}{Q:VK}{k k':Bool}(I:Inv X pins σ H s)(q:Q (.bl k) H)(e:k=k'):EP X pins σ Q (.bool k') s:=by
 subst e;exact⟨.bl k,H,I,rfl,q⟩
theorem QiB:OpR X (compareOp .Eq) rEq:=by
 intro pins s σ H x y v u Q I rx ry h;obtain⟨hs,q⟩:=h;cases x with
 |non=>
  cases rx;cases y with
  |non=>cases ry;exact PySem.EqNone.eq_none_none (ZC I q (by simp))
  |bl j=>cases ry;exact PySem.EqNone.eq_none_bool (ZC I q (by simp))
  |int j=>obtain⟨t',rfl⟩:=ry;exact PySem.EqNone.eq_none_int (ZC I q (by simp))
  |str j=>obtain⟨t',rfl⟩:=ry;exact PySem.EqNone.eq_none_str (ZC I q (by simp))
  |_=>exact absurd (show false=true from hs) Qp
 |bl i=>
  cases rx;cases y with
  |non=>cases ry;exact PySem.EqNone.eq_bool_none (ZC I q (by simp))
  |bl j=>cases ry;exact eq_bool (ZC I q QsQ)
  |str j=>obtain⟨t',rfl⟩:=ry;exact PySem.EqMixed.eq_bool_str (ZC I q (by simp))
  |_=>exact absurd (show false=true from hs) Qp
 |int i=>
  obtain⟨t,rfl⟩:=rx;cases y with
  |non=>cases ry;exact PySem.EqNone.eq_int_none (ZC I q (by simp))
  |int j=>obtain⟨t',rfl⟩:=ry;exact eq_int (ZC I q Qny)
  |str j=>obtain⟨t',rfl⟩:=ry;exact PySem.EqMixed.eq_int_str (ZC I q (by simp))
  |_=>exact absurd (show false=true from hs) Qp
 |str i=>
  obtain⟨t,rfl⟩:=rx;cases y with
  |non=>cases ry;exact PySem.EqNone.eq_str_none (ZC I q (by simp))
  |bl j=>cases ry;exact PySem.EqMixed.eq_str_bool (ZC I q (by simp))
  |int j=>obtain⟨t',rfl⟩:=ry;exact PySem.EqMixed.eq_str_int (ZC I q (by simp))
  |str j=>obtain⟨t',rfl⟩:=ry;exact eq_str (ZC I q Qnx)
  |_=>exact absurd (show false=true from hs) Qp
 |byt i=>
  obtain⟨t,rfl⟩:=rx;cases y with
  |byt j=>obtain⟨t',rfl⟩:=ry;exact PySem.W.eq_bytes (ZC I q Qnz)
  |_=>exact absurd (show false=true from hs) Qp
 |_=>cases y<;>exact absurd (show false=true from hs) Qp
theorem Qpr:OpR X (compareOp .NotEq) rNe:=by
 intro pins s σ H x y v u Q I rx ry h;obtain⟨hs,q⟩:=h;cases x with
 |non=>
  cases rx;cases y with
  |non=>cases ry;exact PySem.EqNone.ne_none_none (ZC I q (by simp))
  |bl j=>cases ry;exact PySem.EqNone.ne_none_bool (ZC I q (by simp))
  |int j=>obtain⟨t',rfl⟩:=ry;exact PySem.EqNone.ne_none_int (ZC I q (by simp))
  |str j=>obtain⟨t',rfl⟩:=ry;exact PySem.EqNone.ne_none_str (ZC I q (by simp))
  |_=>exact absurd (show false=true from hs) Qp
 |bl i=>
  cases rx;cases y with
  |non=>cases ry;exact PySem.EqNone.ne_bool_none (ZC I q (by simp))
  |bl j=>cases ry;exact ne_bool (ZC I q (congrArg not QsQ))
  |str j=>obtain⟨t',rfl⟩:=ry;exact PySem.EqMixed.ne_bool_str (ZC I q (by simp))
  |_=>exact absurd (show false=true from hs) Qp
 |int i=>
  obtain⟨t,rfl⟩:=rx;cases y with
  |non=>cases ry;exact PySem.EqNone.ne_int_none (ZC I q (by simp))
  |int j=>obtain⟨t',rfl⟩:=ry;exact ne_int (ZC I q (congrArg not Qny))
  |str j=>obtain⟨t',rfl⟩:=ry;exact PySem.EqMixed.ne_int_str (ZC I q (by simp))
  |_=>exact absurd (show false=true from hs) Qp
 |str i=>
  obtain⟨t,rfl⟩:=rx;cases y with
  |non=>cases ry;exact PySem.EqNone.ne_str_none (ZC I q (by simp))
  |bl j=>cases ry;exact PySem.EqMixed.ne_str_bool (ZC I q (by simp))
  |int j=>obtain⟨t',rfl⟩:=ry;exact PySem.EqMixed.ne_str_int (ZC I q (by simp))
  |str j=>obtain⟨t',rfl⟩:=ry;exact ne_str (ZC I q (congrArg not Qnx))
  |_=>exact absurd (show false=true from hs) Qp
 |byt i=>
  obtain⟨t,rfl⟩:=rx;cases y with
  |byt j=>obtain⟨t',rfl⟩:=ry;exact PySem.W.ne_bytes (ZC I q (congrArg not Qnz))
  |_=>exact absurd (show false=true from hs) Qp
 |_=>cases y<;>exact absurd (show false=true from hs) Qp
theorem Qkz:OpR X (compareOp .Lt) (rI0 λi j=>.bl (decide (i<j))):=QzB λ_ _ _ _ _ _ _ q=>lt_int q
theorem Qps:OpR X (compareOp .LtE) (rI0 λi j=>.bl (decide (i<=j))):=QzB λ_ _ _ _ _ _ _ q=>le_int q
theorem Qx4:OpR X (compareOp .Gt) (rI0 λi j=>.bl (decide (j<i))):=QzB λ_ _ _ _ _ _ _ q=>gt_int q
theorem Quz:OpR X (compareOp .GtE) (rI0 λi j=>.bl (decide (j<=i))):=QzB λ_ _ _ _ _ _ _ q=>ge_int q
theorem QmK:OpR X (compareOp .Is) (λx y H Q=>y=.non/\Q (.bl (decide (x=.non))) H):=by
 intro pins s σ H x y v u Q I rx ry h;obtain⟨rfl,q⟩:=h;cases ry;refine is_none_gen (ZC I q ?_);cases x<;>first
  |(cases rx;rfl)
  |(obtain⟨t,rfl⟩:=rx;rfl)
def isObj:HO->Bool
 |.lst _=>true
 |.ins _ _ _=>true
 |_=>false
theorem obj_there{pins:List (Addr×Obj)}{s:Shared}{σ:St}{H:Hp}{a:Addr}{o:HO}(I:Inv X pins σ H s)(h:H a=some o)(p:isObj o=true):∃ob,s.heap.get? a=some ob/\ob.cls≠.type "tuple" := by
 cases o with
 |lst xs=>
  obtain⟨_,its,n,_,e⟩:xs.length<=sizeLine/\∃(its:List Value)(n:Nat),Vals xs its/\s.heap.get? a=some { cls:=.type "list",data:=.seq its.toArray n }:=I.hok a _ h
  exact⟨_,e,(by show QcS "list" ≠ .type "tuple";decide)⟩
 |ins C dx fs=>
  have x:=I.hok a _ h;obtain⟨_,_,_,e,_⟩:=x;exact⟨_,e,(by show Jj C≠.type "tuple";exact λz=>by cases z)⟩
 |_=>exact absurd (show false=true from p) Qp
theorem OpR.or{f:Value->Value->Sem Value}{r r':R2}(h:OpR X f r)(h':OpR X f r'):OpR X f (λx y H Q=>r x y H Q∨r' x y H Q):=by
 intro pins s σ H x y v u Q I rx ry q;rcases q with q | q
 ·exact h pins s σ H x y v u Q I rx ry q
 ·exact h' pins s σ H x y v u Q I rx ry q
theorem JZ(b:QV){op:Qth}(h:op≠.In:=by decide)(h2:op≠.NotIn:=by decide):behindInMarks op b=false:=by
 have e1:(op == CmpOp.In)=false:=by cases op<;>first | rfl | exact absurd rfl h
 have e2:(op == CmpOp.NotIn)=false:=by cases op<;>first | rfl | exact absurd rfl h2
 cases b<;>simp[behindInMarks,e1,e2]
theorem Qgw{op:Qth}{r:R2}(ho:OpR X (compareOp op) r)(ha:PE X a ta)(hb:PE X b tb)(hm:behindInMarks op b=false):PE X (.Compare a [op] [b] pos) (tOp r ta tb):=by
 intro pins s σ H Q I h;exact wpAny_Compare1 (QBq ha hb I h λv u s2 x y H2 I2 rx ry q=>ho pins s2 σ H2 x y v u Q I2 rx ry q) hm
def QwL(t:TE):TT:=λσ H Q=>t σ H λx H'=>∃k,x=.bl k/\Q k H'
theorem Ze{op:Qth}{r:R2}(ho:OpR X (compareOp op) r)(ha:PE X a ta)(hb:PE X b tb)(hm:behindInMarks op b=false):PT X (.Compare a [op] [b] pos) (QwL (tOp r ta tb)):=by
 intro pins s σ H Q I h;refine wpAny_isTrue_Compare1 (thn (ha pins s σ H _ I h) λv s1 ⟨x,H1,I1,r1,q1⟩=>thn (hb pins s1 σ H1 _ I1 q1) λu s2 ⟨y,H2,I2,r2,q2⟩=>
  thn (ho pins s2 σ H2 x y v u _ I2 r1 r2 q2) λc s3 ⟨z,H3,I3,r3,k,e,q3⟩=>?_) hm
 subst e;cases r3;exact Zp ⟨H3,I3,q3⟩
def QrU(r r':R2)(ta tb tc:TE):TE:=λσ H Q=>ta σ H λx H1=>tb σ H1 λy H2=>r x y H2 λz H3=>∃k,z=.bl k /\
 (if k=true then tc σ H3 λw' H4=>r' y w' H4 Q else Q (.bl false) H3)
theorem Qo6{op op':Qth}{r r':R2}(ho:OpR X (compareOp op) r)(ho':OpR X (compareOp op') r')(ha:PE X a ta)(hb:PE X b tb)(hc:PE X c tc)
  (hm:lastMarks [op,op'] [b,c]=false:=by with_unfolding_all rfl):PE X (.Compare a [op,op'] [b,c] pos) (QrU r r' ta tb tc):=by
 intro pins s σ H Q I h;refine Compare_chain (thn (ha pins s σ H _ I h) λv s1 ⟨x,H1,I1,r1,q1⟩=>chain_link (thn (hb pins s1 σ H1 _ I1 q1) λu s2 ⟨y,H2,I2,r2,q2⟩=>
  thn (ho pins s2 σ H2 x y v u _ I2 r1 r2 q2) λd s3 ⟨z,H3,I3,r3,k,e,q3⟩=>?_)) hm
 subst e;cases r3;refine Zp ?_
 cases k with
 |false=>exact ite_ff ⟨.bl false,H3,I3,rfl,q3⟩
 |true=>exact ite_tt (chain_last (thn (hc pins s3 σ H3 _ I3 q3) λw' s4 ⟨z',H4,I4,r4,q4⟩=>ho' pins s4 σ H4 y z' u w' Q I4 r2 r4 q4))
def QBs(K:PySem.W.Frag)(x:V)(H:Hp)(k:Bool):Prop:=
 match x with
 |.non=>k=false
 |.bl b=>k=b
 |.int i=>k=(i != 0)
 |.str y=>y.length<=sizeLine/\k=((y.length:Int) != 0)
 |.byt y=>y.size<=sizeLine/\k=((y.size:Int) != 0)
 |.ref p=>(∃xs,SqL K H p xs/\k = !xs.isEmpty)∨(∃xs,SqT K H p xs/\k = !xs.isEmpty)∨∃kvs,H p=some (.dK kvs)/\k = !kvs.isEmpty
 |_=>False
theorem QkM{κ:Type}{kvs:List (κ×V)}{vs:List (κ×Value)}(r:KV kvs vs):(!vs.isEmpty) = !kvs.isEmpty:=by
 cases r<;>rfl
theorem QfX{xs:List V}{its:List Value}(r:Vals xs its):(!its.toArray.isEmpty) = !xs.isEmpty:=by
 cases r<;>simp
theorem Qeb:(sizeLine:Nat)<2^63:=by rw[Z7];decide
theorem QwF:QCV X (λx H Q=>∃k,QBs X.K x H k/\Q k H):=by
 intro pins s σ H x v Q I rx h;obtain⟨k,e,q⟩:=h;have hl:=Qeb;have hs:sizeLine=16777216:=Z7;cases x with
 |non=>
  cases rx;have e':k=false:=e;subst e';exact truthy_none ⟨H,I,q⟩
 |bl b=>
  cases rx;have e':k=b:=e;subst e';exact Zp ⟨H,I,q⟩
 |int i=>
  obtain⟨t,rfl⟩:=rx;have e':k=(i != 0):=e;subst e';exact PySem.P.truthy_int ⟨H,I,q⟩
 |str y=>
  obtain⟨t,rfl⟩:=rx;obtain⟨hy,e'⟩:y.length<=sizeLine/\k=((y.length:Int) != 0):=e;subst e';exact PySem.P.truthy_str (by omega) ⟨H,I.tok _,q⟩
 |byt y=>
  obtain⟨t,rfl⟩:=rx;obtain⟨hy,e'⟩:y.size<=sizeLine/\k=((y.size:Int) != 0):=e;subst e';exact PySem.W.truthy_bytes (by omega) ⟨H,I.tok _,q⟩
 |ref p=>
  cases rx;have e':(∃xs,SqL X.K H p xs/\k = !xs.isEmpty)∨(∃xs,SqT X.K H p xs/\k = !xs.isEmpty)∨∃kvs,H p=some (.dK kvs)/\k = !kvs.isEmpty:=e
  rcases e' with⟨xs,hx,e'⟩ | ⟨xs,hx,e'⟩ | ⟨kvs,hx,e'⟩
  ·subst e';obtain⟨its,r,pl,hz⟩:=I.list hx;have hlen:=r.length;exact wpAny_truthy_list pl.isList (by simp only[Ql];omega) ⟨H,I.tok _,by rw[QfX r];exact q⟩
  ·subst e';obtain⟨its,r,pl,hz⟩:=I.tuple hx;have hlen:=r.length;exact truthy_tuple pl (by simp only[Ql];omega) ⟨H,I.tok _,by rw[QfX r];exact q⟩
  ·subst e';obtain⟨hz,hS,vs,r,m⟩:kvs.length<=sizeLine/\(p == sysModules)=false/\∃vs,KV kvs vs/\s.heap.DictOf (mixKind X.prog X.w) p vs:=I.hok p _ hx
   have hlen:kvs.length=vs.length:=Qv5 r;exact wpAny_truthy_dict hS m (by omega) ⟨H,I.tok _,by rw[QkM r];exact q⟩
 |_=>exact(show False from e).elim
theorem Qeu(ha:PE X a ta)(he:∀whole,isTrue a X.env whole=(do let v <- whole;standAt a.pos;holding [v] (truthy v))) :
  PT X a (λσ H Q=>ta σ H λx H'=>∃k,QBs X.K x H' k/\Q k H'):=by
 intro pins s σ H Q I h;exact isTrue_plain (thn (ha pins s σ H _ I h) λv s1 ⟨x,H1,I1,r1,q1⟩=>QwF pins s1 σ H1 x v Q I1 r1 q1) (he _)
theorem QkA:OpR X (binaryOp .Add) (λx y H Q=>∃i j,x=.str i/\y=.str j/\i.length+j.length<=sizeLine/\Q (.str (i++j)) H):=by
 intro pins s σ H x y v u Q I rx ry h;obtain⟨i,j,rfl,rfl,hz,q⟩:=h;obtain⟨t,rfl⟩:=rx;obtain⟨t',rfl⟩:=ry;exact add_str (λt' tk=>⟨.str (i++j),H,I.tok _,⟨_,rfl⟩,q⟩) hz
theorem vals1{x:V}{us:List Value}(r:Vals [x] us):∃u,us=[u]/\RelV x u:=by
 cases r with
 |cons r1 r2=>cases r2;exact⟨_,rfl,r1⟩
theorem vals2{x y:V}{us:List Value}(r:Vals [x,y] us):∃u w',us=[u,w']/\RelV x u/\RelV y w':=by
 cases r with
 |cons r1 r2=>
  cases r2 with
  |cons r3 r4=>cases r4;exact⟨_,_,rfl,r1,r3⟩
theorem QnQ(hc:X.calm=true):CallR X (.builtin "max") (λxs H Q=>∃i j,xs=[.int i,.int j]/\Q (.int (if j > i then j else i)) H):=by
 intro pins s σ H xs us Q I r h;obtain⟨i,j,rfl,q⟩:=h;obtain⟨u,w',rfl,⟨t,rfl⟩,⟨t',rfl⟩⟩:=vals2 r;refine max_two_ints (I.ok.hd hc) λh' tk k=>⟨_,H,I.kept k,?_,q⟩
 by_cases hj:j > i
 ·rw[if_pos hj,if_pos hj];exact⟨_,rfl⟩
 ·rw[if_neg hj,if_neg hj];exact⟨_,rfl⟩
theorem QhZ(hc:X.calm=true):CallR X (.builtin "min") (λxs H Q=>∃i j,xs=[.int i,.int j]/\Q (.int (if j<i then j else i)) H):=by
 intro pins s σ H xs us Q I r h;obtain⟨i,j,rfl,q⟩:=h;obtain⟨u,w',rfl,⟨t,rfl⟩,⟨t',rfl⟩⟩:=vals2 r;refine min_two_ints (I.ok.hd hc) λh' tk k=>⟨_,H,I.kept k,?_,q⟩
 by_cases hj:j<i
 ·rw[if_pos hj,if_pos hj];exact⟨_,rfl⟩
 ·rw[if_neg hj,if_neg hj];exact⟨_,rfl⟩
theorem Qfe:CallR X (.type "int") (λxs H Q=>(∃i,xs=[.int i]/\Q (.int i) H)∨∃k,xs=[.bl k]/\Q (.int (if k then 1 else 0)) H):=by
 intro pins s σ H xs us Q I r h;rcases h with⟨i,rfl,q⟩ | ⟨k,rfl,q⟩
 ·obtain⟨u,rfl,t,rfl⟩:=vals1 r;exact call_int_int ⟨.int i,H,I,⟨_,rfl⟩,q⟩
 ·obtain⟨u,rfl,r1⟩:=vals1 r;cases r1;exact call_int_bool ⟨.int (if k then 1 else 0),H,I.tok _,⟨_,rfl⟩,q⟩
theorem Qax:CallR X (.type "str") (λxs H Q=>∃i,xs=[.int i]/\i.natAbs.log2<1920/\Q (.str (toString i)) H):=by
 intro pins s σ H xs us Q I r h;obtain⟨i,rfl,hz,q⟩:=h;obtain⟨u,rfl,t,rfl⟩:=vals1 r;exact PySem.P.str_of_int hz ⟨.str _,H,I.tok _,⟨_,rfl⟩,q⟩
end
structure ObjM (h:JS) (x dx C:Addr) (mA:Str->Option Value):Prop where
 obj:h.get? x=some (PySem.W.instObj C dx)
 ns:h.Ns1 dx mA
 ne:dx≠x
theorem Qm7{h:JS}{dx:Addr}{mA:Str->Option Value}(n:h.Ns1 dx mA):∃od,h.get? dx=some od/\∀name,PySem.W.lookIn name od=some (mA name):=by
 obtain⟨o,es,ep,ho,hd,hk,_,hm⟩:=n;refine⟨o,ho,λname=>?_⟩;have e:=hm name;unfold nsFind findBy at e;rw[<- Array.find?_toList] at e;unfold PySem.W.lookIn;rw[hd]
 dsimp only
 split
 ·rename_i y q
  rw[q] at e;exact congrArg some e
 ·rename_i q
  rw[q] at e;have a:es.toList.any (·.refKey)=false:=by
   rw[List.any_eq_false];intro y hy;obtain⟨z,t,hkey⟩:=hk y (YJ.mp hy);simp[DictEntry.refKey,hkey]
  have a':¬es.toList.any (·.refKey)=true:=by rw[a];exact Qp
  rw[if_neg a'];exact congrArg some e
theorem ObjM.look{h:JS}{x dx C:Addr}{mA:Str->Option Value}(I:ObjM h x dx C mA):∃od,PySem.W.InstAt h x (PySem.W.instObj C dx) C (some od)/\∀name,PySem.W.lookIn name od=some (mA name):=
 let ⟨od,ho,hl⟩:=Qm7 I.ns
 ⟨od,⟨I.obj,rfl,rfl,ho⟩,hl⟩
section
variable{prog:Qm}{w:QZ}{A:Q1}{E:Value->Shared->Prop}{s:Shared}{K:PySem.W.Frag}{x dx C f:Addr}{mA:Str->Option Value}{name:Str}{v:Value}
theorem Qvt{expr:Bool}{Q:Value->Shared->Prop}(X:K.In s.heap)(I:ObjM s.heap x dx C mA)(hg:PySem.W.plainGet K C name=true)(hh:PySem.W.hasDictIn K C=true)
  (ha:PySem.W.findIn K (.ref C) name=some none)(hv:mA name=some v)(hv':PySem.W.handedIn v=true)(h:Q v { s with toks:=s.toks+1 }) :
  wpAny (model prog w) A (getAttr (.ref x) name expr) Q E s:=by
 obtain⟨od,J,hl⟩:=I.look;exact PySem.W.get_value X J (PySem.W.plainGet_of hg).1 (PySem.W.findObj_own hh ha rfl (by rw[hl,hv])) hv' h
theorem Qra{pl:Sem Bool}{Q:Value×List Value->Shared->Prop}(X:K.In s.heap)(I:ObjM s.heap x dx C mA)(hg:PySem.W.plainGet K C name=true)
  (hf:PySem.W.findIn K (.ref C) name=some (some (.ref f)))(ht:PySem.W.isFn K (.ref f)=true)(hv:mA name=none)(h:Q (.ref f,[.ref x]) s) :
  wpAny (model prog w) A (getMethod (.ref x) name pl) Q E s:=by
 obtain⟨od,J,hl⟩:=I.look;exact PySem.W.method_fn X J (PySem.W.plainGet_of hg).1 (PySem.W.plainGet_of hg).2 hf (beq_iff_eq.mp ht) (by show(PySem.W.lookIn name od).map (·.isSome)=some false;rw[hl,hv];rfl) h
theorem QtB{ns:List Str}{Q:Unit->Shared->Prop}(X:K.In s.heap)(I:ObjM s.heap x dx C mA)
  (hs:PySem.W.findIn K (.ref C) "__setattr__" = some (some (.builtin "object.__setattr__")))(hp:PySem.W.plainOver K C=true)(ht:PySem.W.takerIn K C name=some none)(hh:PySem.W.hasDictIn K C=true)
  (hw:PySem.Within mA ns)(hsz:ns.length<=sizeLine)
  (h:∀h',ObjM h' x dx C (λy=>if y=name then some v else mA y)->QaN dx s.heap h'->Q () { s with heap:=h',toks:=s.toks+2 }) :
  wpAny (model prog w) A (setAttr (.ref x) name v) Q E s:=by
 obtain⟨od,J,hl⟩:=I.look;refine PySem.W.set_plain X J hs (PySem.W.osa_open (s:={ s with toks:=s.toks+1 }) (r:=none) X J hp ht λb=>?_);obtain⟨cd,hc,hd'⟩:=PySem.W.any_some hh;have hx:s.heap.get? x=some ⟨.ref C,some dx,.plain,#[]⟩:=I.obj;refine wpAny_bind (Qo (wpAny_bind (wpAny_bind (Qlb hx (wpAny_bind (PySem.W.Looks.here (s:={ s with toks:=s.toks+1 }) (PySem.W.looks_clsIn X hc) ?_))))));rw[hd'];refine Qo (a:=some dx) (wpAny_bind (Qo (wpAny_bind ?_)));refine wpAny_nsSet1 (s:={ s with toks:=s.toks+1 }) I.ns λh' hn2 hs2=>?_
 obtain⟨oD,esD,epD,hoD,hdD,hcD⟩:=hn2.count (PySem.Within.cons name v hw);refine wpAny_bind (wpAny_lookBehind hoD (by rw[hdD];exact pastItsLine_dict (Qt hcD (by rw[Qu];omega))) ?_);exact Qo (h _ ⟨(hs2.2 _ (Qb1 I.ne)).trans I.obj,hn2,I.ne⟩ hs2)
theorem QpY{R:Qtc->Shared->Prop}{vs:List Value}{kw:List (Str×Value)}(X:K.In s.heap)(hm:PySem.W.makesIn K C=true)
  (hi:PySem.W.findIn K (.ref C) "__init__" = some (some (.ref f)))(hf:PySem.W.typeIn K (.ref f)=some (.type "function"))
  (h:codeAny (model prog w) (A.under (.builtin "type.__call__" ⟨.ref C::vs,kw⟩)) (.call (.ref f) ⟨.ref (s.heap.objs.size+1)::vs,kw⟩) (PySem.W.InitBack (s.heap.objs.size+1) R)
   { s with heap:=(s.heap.push PySem.W.emptyDict).push (PySem.W.instObj C s.heap.objs.size) }) :
  codeAny (model prog w) A (.call (.ref C) ⟨vs,kw⟩) R s:=by
 obtain⟨hh,g,d,t,os⟩:=s;exact PySem.W.make_core (PySem.W.makes_of X hm) (PySem.W.looks_findIn X hi) (λself=>PySem.W.bind_fn X self hf) (.inl rfl) h
end
def Qdc(f:Str)(v:V):List (Str×V)->List (Str×V)
 |[]=>[(f,v)]
 |(g,x)::r=>if g=f then(g,v)::r else(g,x)::Qdc f v r
theorem Z2(f g:Str)(v:V):∀fs:List (Str×V),(Qdc f v fs).lookup g=if g=f then some v else fs.lookup g
 |[]=>by
  show Yc g [(f,v)]=_;by_cases h:g=f
  ·have hb:(g == f)=true:=beq_iff_eq.mpr h;simp only[Yc,hb,if_pos h]
  ·have hb:(g == f)=false:=beq_eq_false_iff_ne.mpr h;simp only[Yc,hb,if_neg h]
 |(k,x)::r=>by
  have ih:=Z2 f g v r;rw[show Qdc f v ((k,x)::r)=(if k=f then(k,v)::r else(k,x)::Qdc f v r) from rfl];by_cases hk:k=f
  ·rw[if_pos hk];by_cases h:g=k
   ·have hb:(g == k)=true:=beq_iff_eq.mpr h;simp only[Yc,hb,if_pos (h.trans hk)]
   ·have hb:(g == k)=false:=beq_eq_false_iff_ne.mpr h;simp only[Yc,hb,if_neg (λe:g=f=>h (e.trans hk.symm))]
  ·rw[if_neg hk];by_cases h:g=k
   ·have hb:(g == k)=true:=beq_iff_eq.mpr h;simp only[Yc,hb,if_neg (λe:g=f=>hk (h.symm.trans e))]
   ·have hb:(g == k)=false:=beq_eq_false_iff_ne.mpr h;simp only[Yc,hb];exact ih
theorem Qe1(f:Str)(v:V):∀fs:List (Str×V),f∈(Qdc f v fs).map (·.1)/\∀g,g∈fs.map (·.1)->g∈(Qdc f v fs).map (·.1)
 |[]=>⟨by simp[Qdc],λg h=>by simp at h⟩
 |(k,x)::r=>by
  obtain⟨i1,i2⟩:=Qe1 f v r;rw[show Qdc f v ((k,x)::r)=(if k=f then(k,v)::r else(k,x)::Qdc f v r) from rfl];by_cases hk:k=f
  ·rw[if_pos hk];subst hk;exact⟨by simp,λg h=>by simpa using h⟩
  ·rw[if_neg hk];refine⟨?_,λg h=>?_⟩
   ·rw[JB];exact QX _ i1
   ·rw[JB] at h ⊢;rcases QM.mp h with e | e
    ·exact QM.mpr (.inl e)
    ·exact QX _ (i2 g e)
theorem QeZ(f:Str)(v:V):∀fs:List (Str×V),(Qdc f v fs).length<=fs.length+1
 |[]=>by simp[Qdc]
 |(k,x)::r=>by
  have ih:=QeZ f v r;rw[show Qdc f v ((k,x)::r)=(if k=f then(k,v)::r else(k,x)::Qdc f v r) from rfl];by_cases hk:k=f
  ·rw[if_pos hk,Qu,Qu];omega
  ·rw[if_neg hk,Qu,Qu];omega
theorem RelO.some_of{v:V}{o:Option Value}(r:RelO (some v) o):∃u,o=some u/\RelV v u:=by
 cases o with
 |none=>exact(show False from r).elim
 |some u=>exact⟨u,rfl,r⟩
theorem RelO.none_of{o:Option Value}(r:RelO none o):o=none:=by
 cases o with
 |none=>rfl
 |some u=>exact(show False from r).elim
theorem Qno{v:V}{u:Value}(r:RelV v u):PySem.W.handedIn u=true:=by
 cases v with
 |non=>cases(show u=J6 from r);rfl
 |bl b=>cases(show u=ZM b from r);rfl
 |int i=>obtain⟨t,e⟩:=(show ∃t,u=Qag i t from r);cases e;rfl
 |str x=>obtain⟨t,e⟩:=(show ∃t,u=Qf3 x t from r);cases e;rfl
 |byt b=>obtain⟨t,e⟩:=(show ∃t,u=QzT b t from r);cases e;rfl
 |flt b=>obtain⟨t,e⟩:=(show ∃t,u=Qld b t from r);cases e;rfl
 |ref a=>cases(show u=Jj a from r);rfl
 |ty n=>cases(show u=QcS n from r);rfl
section
variable{P:Qm}{w:QZ}{H H':Hp}{h h':JS}{a C dx:Addr}{fs fs':List (Str×V)}
theorem QgB(hok:HOk P w H h)(e:H a=some (.ins C dx fs)):∃mA,ObjM h a dx C mA/\(∀f,RelO (fs.lookup f) (mA f))/\PySem.Within mA (fs.map (·.1))/\fs.length<=1000/\H dx=some (.own a):=by
 obtain⟨d,z,ne,ob,mA,n,r,q⟩:=(show ObjOk P w H h a (.ins C dx fs) from hok a _ e);exact⟨mA,⟨ob,n,ne⟩,r,q,z,d⟩
end
structure Cls (K:PySem.W.Frag) (C:Addr):Prop where
 pg:PySem.W.plainGet K C Qc2=true
 hd:PySem.W.hasDictIn K C=true
 po:PySem.W.plainOver K C=true
 sa:PySem.W.findIn K (.ref C) "__setattr__" = some (some (.builtin "object.__setattr__"))
theorem Cls.get{K:PySem.W.Frag}{C:Addr}(c:Cls K C)(f:Str):PySem.W.plainGet K C f=true:=c.pg
def NoAttr(K:PySem.W.Frag)(C:Addr)(f:Str):Prop:=PySem.W.findIn K (.ref C) f=some none
theorem NoAttr.taker{K:PySem.W.Frag}{C:Addr}{f:Str}(n:NoAttr K C f):PySem.W.takerIn K C f=some none:=by
 unfold PySem.W.takerIn;rw[show PySem.W.findIn K (.ref C) f=some none from n];rfl
structure Meth (K:PySem.W.Frag) (C:Addr) (m:Str) (f:Addr):Prop where
 at_:PySem.W.findIn K (.ref C) m=some (some (.ref f))
 fn:PySem.W.isFn K (.ref f)=true
 kp:PySem.W.keepIn K (.ref f)=true
section
variable{X:Cx}{pins:List (Addr×Obj)}{σ:St}{H:Hp}{s:Shared}{a C dx:Addr}{fs:List (Str×V)}{f:Str}{v:V}{A:Q1}{E:Value->Shared->Prop}
theorem QkP{b:Bool}{Q:Value->Shared->Prop}(I:Inv X pins σ H s)(e:H a=some (.ins C dx fs))(c:Cls X.K C)(n:NoAttr X.K C f)(l:fs.lookup f=some v)
  (h:∀u s',Inv X pins σ H s'->RelV v u->Q u s'):wpAny (model X.prog X.w) A (getAttr (.ref a) f b) Q E s:=by
 obtain⟨mA,O,r,_,_,_⟩:=QgB I.hok e;obtain⟨u,hu,ru⟩:=RelO.some_of (v:=v) (o:=mA f) (by rw[<- l];exact r f);exact Qvt I.kIn O (c.get f) c.hd n hu (Qno ru) (h u _ (I.tok _) ru)
theorem QdR{m:Str}{g:Addr}{pl:Sem Bool}{Q:Value×List Value->Shared->Prop}(I:Inv X pins σ H s)(e:H a=some (.ins C dx fs))(c:Cls X.K C)(k:Meth X.K C m g)(l:fs.lookup m=none)
  (h:Q (.ref g,[.ref a]) s):wpAny (model X.prog X.w) A (getMethod (.ref a) m pl) Q E s:=by
 obtain⟨mA,O,r,_,_,_⟩:=QgB I.hok e;have hn:mA m=none:=RelO.none_of (by rw[<- l];exact r m);exact Qra I.kIn O (c.get m) k.at_ k.fn hn h
theorem Qks{y:V}{u:Value}{Q:Unit->Shared->Prop}(I:Inv X pins σ H s)(e:H a=some (.ins C dx fs))(c:Cls X.K C)(n:NoAttr X.K C f)(hl:fs.length<1000)(ry:RelV y u)
  (h:∀s',Inv X pins σ (upd H a (.ins C dx (Qdc f y fs))) s'->Q () s'):wpAny (model X.prog X.w) A (setAttr (.ref a) f u) Q E s:=by
 obtain⟨mA,O,r,wi,_,ho⟩:=QgB I.hok e;have hz:(fs.map (·.1)).length<=sizeLine:=by rw[Qc,Z7];omega
 refine QtB I.kIn O c.sa c.po n.taker c.hd wi hz λh' O' sb=>h _ ?_
 have hd:∃o,h'.get? dx=some o:=let ⟨o,_,_,e',_⟩:=O'.ns;⟨o,e'⟩
 refine I.write (x:=a) (e:=dx) (by rw[e];exact JF) (.inr ho) (λb q hb z=>(sb.2 b hb).trans z) hd ?_
 refine⟨by rw[QK O.ne];exact ho,?_,O.ne,O'.obj,_,O'.ns,λg=>?_,λg hg=>?_⟩
 ·have:=QeZ f y fs;omega
 ·show RelO ((Qdc f y fs).lookup g) (if g=f then some u else mA g);rw[Z2];by_cases q:g=f
  ·rw[if_pos q,if_pos q];exact ry
  ·rw[if_neg q,if_neg q];exact r g
 ·by_cases q:g=f
  ·rw[q];exact(Qe1 f y fs).1
  ·refine(Qe1 f y fs).2 g (wi g λz=>hg ?_);show(if g=f then some u else mA g)=none;rw[if_neg q];exact z
theorem Inv.made(I:Inv X pins σ H s):Inv X pins σ (upd (upd H s.heap.objs.size (.own (s.heap.objs.size+1))) (s.heap.objs.size+1) (.ins C s.heap.objs.size []))
  { s with heap:=(s.heap.push PySem.W.emptyDict).push (PySem.W.instObj C s.heap.objs.size) }:=by
 have e1:(s.heap.push PySem.W.emptyDict).get? s.heap.objs.size=some PySem.W.emptyDict:=QD s.heap rfl;have e2:((s.heap.push PySem.W.emptyDict).push (PySem.W.instObj C s.heap.objs.size)).get? (s.heap.objs.size+1)=some (PySem.W.instObj C s.heap.objs.size):=by
  have:=QD (s.heap.push PySem.W.emptyDict) (o:=PySem.W.instObj C s.heap.objs.size) rfl
  rwa [QbT] at this
 have e3:(s.heap.push PySem.W.emptyDict).Ns s.heap.objs.size (λ_=>none):=⟨PySem.W.emptyDict,#[],_,e1,rfl,(λe he=>absurd he (by simp)),λ_=>rfl⟩;have I1:=I.laid (a:=s.heap.objs.size) (o:=.own (s.heap.objs.size+1)) (h':=s.heap.push PySem.W.emptyDict) (t':=s.toks) (λb u q=>Qh _ q) (Qf _) ⟨_,e1⟩;refine I1.laid (a:=s.heap.objs.size+1) (o:=.ins C s.heap.objs.size []) (t':=s.toks) (λb u q=>Qh _ q) (YA (QbT _ _)) ?_
 have ne:s.heap.objs.size≠s.heap.objs.size+1:=Q2 (Qv7 _);refine⟨by rw[QK ne,upd_same],Jn _,ne,e2,λ_=>none,(Heap.Ns1.of_empty e3).at λo q=>Qh _ q,λ_=>JF,λy hy=>absurd rfl hy⟩
theorem QvU{prog:Qm}{w:QZ}{env:Env}{e:QV}{f:Str}{pos:Pos}{s:Shared}{Q:Value->Shared->Prop}(hb:attributeBase e f env (eval e env)=eval e env)
  (h:wpAny (model prog w) A (eval e env) (λo s₁=>wpAny (model prog w) A (getAttr o f true) Q E s₁) E s):wpAny (model prog w) A (eval (.Attribute e f pos) env) Q E s:=
 Attribute_any_ h (by rw[arm_eval_Attribute,hb])
end
def QCw(K:PySem.W.Frag)(ta:TE)(f:Str):TE:=λσ H Q=>ta σ H λx H1=>∃a C dx fs v,x=.ref a/\H1 a=some (.ins C dx fs)/\Cls K C/\NoAttr K C f/\fs.lookup f=some v/\Q v H1
def QCz(K:PySem.W.Frag)(ta tv:TE)(f:Str):TS:=λD σ H=>tv σ H λy H1=>ta σ H1 λx H2=>∃a C dx fs,x=.ref a/\H2 a=some (.ins C dx fs)/\Cls K C/\NoAttr K C f/\fs.length<1000 /\
 D.nx σ (upd H2 a (.ins C dx (Qdc f y fs)))
section
variable{X:Cx}{o e value:QV}{f:Str}{pos pos' tpos:Pos}{ta tv:TE}
theorem Qav(he:PE X e ta)(hb:attributeBase e f X.env (eval e X.env)=eval e X.env):PE X (.Attribute e f pos) (QCw X.K ta f):=by
 intro pins s σ H Q I h;refine QvU hb (thn (he pins s σ H _ I h) λu s1 ⟨x,H1,I1,rx,a,C,dx,fs,v,ex,ea,c,n,l,q⟩=>?_);subst ex;obtain rfl:u=Jj a:=rx;exact QkP I1 ea c n l λu' s2 I2 ru=>⟨v,H1,I2,ru,q⟩
theorem Qhx(ha:PE X o ta)(hv:PE X value tv)(hs:swapsWith value (some (.Attribute o f pos')) pos.line X.env=pure false):PS X (.Assign [.Attribute o f pos'] value pos) (QCz X.K ta tv f):=by
 intro pins s σ H D I h;refine plainObj_wpAny_Assign_Attribute (thn (hv pins s σ H _ I h) λu s1 ⟨y,H1,I1,ry,q⟩=>thn (ha pins s1 σ H1 _ I1 q) λov s2 ⟨x,H2,I2,rx,a,C,dx,fs,ex,ea,c,n,l,q2⟩=>?_) hs;subst ex;obtain rfl:ov=Jj a:=rx;exact Qks I2 ea c n l ry λs3 I3=>⟨σ,_,I3,q2⟩
def rAdd:V->V->Hp->VK->Prop:=λx y H Q=>∃i j,x=.int i/\y=.int j/\Q (.int (i+j)) H
end
section
variable{X:Cx}{pins:List (Addr×Obj)}{σ:St}{H:Hp}{s:Shared}{A:Q1}{E:Value->Shared->Prop}{Q:Value->Shared->Prop}{c:Value}{b:Bool}
inductive TyOf (K:PySem.W.Frag) (H:Hp):V->Value->Prop where
 |non:TyOf K H .non (.type "NoneType")
 |bl (x:Bool):TyOf K H (.bl x) (.type "bool")
 |int (i:Int):TyOf K H (.int i) (.type "int")
 |str (x:Str):TyOf K H (.str x) (.type "str")
 |flt (x:UInt64):TyOf K H (.flt x) (.type "float")
 |lst {a:Addr} {xs:List V} (e:H a=some (.lst xs)):TyOf K H (.ref a) (.type "list")
 |frz {a:Addr} {o:Obj} {xs:List V} (e:H a=some (.frz o (.lst xs))):TyOf K H (.ref a) (.type "list")
 |tup {a:Addr} {xs:List V} (e:H a=some (.tup xs)):TyOf K H (.ref a) (.type "tuple")
 |dK {a:Addr} {kvs:List (Key×V)} (e:H a=some (.dK kvs)):TyOf K H (.ref a) (.type "dict")
 |dT {a:Addr} {kvs:List (List Key×V)} (e:H a=some (.dT kvs)):TyOf K H (.ref a) (.type "dict")
 |ins {a C dx:Addr} {fs:List (Str×V)} (e:H a=some (.ins C dx fs)) (cl:Cls K C) (ha:PySem.W.findIn K (.ref C) "__class__" = some (some (.builtin "object.__class__")))
   (hn:PySem.W.specialIn K (.builtin "object.__class__") "__get__" = some (some (.builtin "getset_descriptor.__get__"))) (htk:PySem.W.takesIn K (.builtin "object.__class__")=some true)
   (hm:PySem.W.mroIn K C (.type "object")=some true):TyOf K H (.ref a) (.ref C)
theorem Qng{x:V}{u t:Value}(I:Inv X pins σ H s)(rx:RelV x u)(ty:TyOf X.K H x t)(e:PySem.W.kitOne X.K t c=some b)(h:∀tk,Q (.bool b) { s with toks:=tk }) :
  wpAny (model X.prog X.w) A (call (.builtin "isinstance") [u,c]) Q E s:=by
 cases ty with
 |non=>cases(show u=J6 from rx);exact PySem.W.kia_one PySem.W.kitx_none I.kIn JF e (λz=>nomatch z) h
 |bl y=>cases(show u=ZM y from rx);exact PySem.W.kia_one PySem.W.kitx_bool I.kIn JF e (λz=>nomatch z) h
 |int i=>obtain⟨t,q⟩:=(show ∃t,u=Qag i t from rx);cases q;exact PySem.W.kia_one PySem.W.kitx_int I.kIn JF e (λz=>nomatch z) h
 |str y=>obtain⟨t,q⟩:=(show ∃t,u=Qf3 y t from rx);cases q;exact PySem.W.kia_one PySem.W.kitx_str I.kIn JF e (λz=>nomatch z) h
 |flt y=>obtain⟨t,q⟩:=(show ∃t,u=Qld y t from rx);cases q;exact PySem.W.kia_one PySem.W.kitx_float I.kIn JF e (λz=>nomatch z) h
 |@lst a xs ea=>
  cases(show u=Jj a from rx);obtain⟨_,_,n,_,h1⟩:=(show ObjOk X.prog X.w H s.heap a (.lst xs) from I.hok a _ ea);exact PySem.W.kia_one PySem.W.kitx_list I.kIn ⟨_,h1,rfl⟩ e (λz=>nomatch z) h
 |@frz a ob xs ea=>
  cases(show u=Jj a from rx);obtain⟨_,_,_,n,_,h1⟩:=(show ObjOk X.prog X.w H s.heap a (.frz ob (.lst xs)) from I.hok a _ ea);exact PySem.W.kia_one PySem.W.kitx_list I.kIn ⟨_,h1,rfl⟩ e (λz=>nomatch z) h
 |@tup a xs ea=>
  cases(show u=Jj a from rx);obtain⟨_,_,_,p⟩:=(show ObjOk X.prog X.w H s.heap a (.tup xs) from I.hok a _ ea);obtain⟨o,h1,h2,_⟩:=p;exact PySem.W.kia_one PySem.W.kitx_tuple I.kIn ⟨o,h1,h2⟩ e (λz=>nomatch z) h
 |@dK a kvs ea=>
  cases(show u=Jj a from rx);obtain⟨_,_,vs,_,p⟩:=(show ObjOk X.prog X.w H s.heap a (.dK kvs) from I.hok a _ ea);obtain⟨o,es,ep,h1,h2,_⟩:=p;exact PySem.W.kia_one PySem.W.kitx_dict I.kIn ⟨o,h1,h2.1⟩ e (λz=>nomatch z) h
 |@dT a kvs ea=>
  cases(show u=Jj a from rx);obtain⟨_,_,xs,_,o,es,ep,h1,h2,_⟩:=(show ObjOk X.prog X.w H s.heap a (.dT kvs) from I.hok a _ ea);exact PySem.W.kia_one PySem.W.kitx_dict I.kIn ⟨o,h1,h2.1⟩ e (λz=>nomatch z) h
 |@ins a C dx fs ea cl ha hn htk hm=>
  cases(show u=Jj a from rx);obtain⟨mA,O,_⟩:=QgB I.hok ea;obtain⟨od,J,_⟩:=O.look;exact PySem.W.kia_one (PySem.W.kitx_own (cl.get _) cl.hd ha hn htk hm) I.kIn J e (λz=>nomatch z) h
end
structure Room (k:Nat) (A:Q1):Prop where
 hd:A.handled=none
 dp:A.depth+3*k+5<recursionLimit
 un:A.units+16*k+200<cLine
 gd:A.guards=some []
theorem Room.mono{j k:Nat}{A:Q1}(r:Room k A)(h:j<=k):Room j A:=⟨r.hd,by have:=r.dp;omega,by have:=r.un;omega,r.gd⟩
theorem Room.deeper{k:Nat}{A:Q1}(r:Room (k+1) A)(env:Env):Room k (A.deeper env):=
 ⟨r.hd,by have:=r.dp;show A.depth+1+3*k+5<_;omega,by have:=r.un;show A.units+3+16*k+200<_;omega,r.gd⟩
theorem QkJ{A:Q1}{C:Addr}{us:List Value}{kw:List (Str×Value)}:(A.under (.builtin "type.__call__" ⟨.ref C::us,kw⟩)).depth=A.depth+1:=by
 first | rfl | simp[QeC,Code.weight,Code.isCreation,QAb,Code.isCaller,Code.frames,Qk7,guardIds]
theorem QkI{A:Q1}{C:Addr}{us:List Value}{kw:List (Str×Value)}:(A.under (.builtin "type.__call__" ⟨.ref C::us,kw⟩)).units=A.units+1:=by
 first | rfl | simp[QeC,Code.cUnits,Code.frames,Qk7]
theorem Room.make{k:Nat}{A:Q1}(r:Room (k+1) A)(C:Addr)(us:List Value)(kw:List (Str×Value)):Room k (A.under (.builtin "type.__call__" ⟨.ref C::us,kw⟩)):=
 ⟨r.hd,by have:=r.dp;rw[QkJ];omega,by have:=r.un;rw[QkI];omega,by have:=r.gd;first | exact this | simpa [QeC,QAb,guardIds] using this⟩
theorem Room.depth{k:Nat}{A:Q1}(r:Room k A):A.depth<recursionLimit:=by have:=r.dp;omega
theorem Room.units{k:Nat}{A:Q1}(r:Room k A):A.units+64<cLine:=by have:=r.un;omega
def Qej:TA:=λ_ H Q=>Q [] H
def Qae(ta:TE)(tr:TA):TA:=λσ H Q=>ta σ H λx H1=>tr σ H1 λxs H2=>Q (x::xs) H2
section
variable{X:Cx}{e:QV}{es:List QV}{te:TE}{t:TA}{pos:Pos}
theorem Qq:PA X [] Qej:=λ_ _ _ _ H Q I h=>QeB ⟨[],H,I,.nil,h⟩
theorem Qk(ha:PE X e te)(hr:PA X es t)(hs:starEach (e::es) X.env=(false,eval e X.env)::starEach es X.env:=by rfl):PA X (e::es) (Qae te t):=by
 intro pos pins s σ H Q I h;rw[hs];show wpAny _ _ (spliced ((false,eval e X.env)::backTo pos (starEach es X.env))) _ _ s;refine QbI (thn (ha pins s σ H _ I h) λu s1 ⟨x,H1,I1,r1,q1⟩=>?_);exact thn (hr pos pins s1 σ H1 _ I1 q1) λus s2 ⟨xs,H2,I2,r2,q2⟩=>⟨x::xs,H2,I2,.cons r1 r2,q2⟩
def QCt(t:TA):TE:=λσ H Q=>t σ H λxs H1=>xs.length<=sizeLine/\∀p,H1 p=none->Q (.ref p) (upd H1 p (.lst xs))
theorem Qso(h:PA X es t):PE X (.List es pos) (QCt t):=by
 intro pins s σ H Q I hq;refine Qzq (thn (h pos pins s σ H _ I hq) λus s1 ⟨xs,H1,I1,r,z,q⟩=>⟨by rw[<- r.length];exact z,?_⟩);have hf:H1 s1.heap.objs.size=none:=I1.hok.fresh (Qf _);refine⟨.ref s1.heap.objs.size,upd H1 s1.heap.objs.size (.lst xs),I1.laid (t':=s1.toks) (λb u e=>Qh _ e) (Qf _) ?_,rfl,q _ hf⟩;exact⟨z,us,0,r,QD _ rfl⟩
end
abbrev Sp:=List V->Hp->VK->XK->Prop
abbrev CXT:=List Env->Hp->Shared->XK->Value->Shared->Prop
structure Env0 (P:Qm) (w:QZ) (K:PySem.W.Frag) (mg:Str->Option Value) (base:JS) (A:Q1) (outer:List Env) (s:Shared) (H:Hp):Prop where
 frames:A.frames=some outer
 mod:Mod K mg base
 bs:∀b o,base.get? b=some o->s.heap.get? b=some o/\H b=none
 bsz:base.objs.size<=s.heap.objs.size
 funs:s.heap.FunFrames base outer
 frf:∀b∈frs outer,H b=none
 hok:HOk P w H s.heap
 bare:Qei s.gens
def CE(outer:List Env)(P:Qm)(w:QZ)(H:Hp)(s:Shared)(Q:VK)(u:Value)(s':Shared):Prop:=
 ∃v H',s'.os=s.os/\Qei s'.gens/\Un (frs outer) [] H H' s.heap s'.heap/\HOk P w H' s'.heap/\RelV v u/\Q v H'
def CR(CX:CXT)(outer:List Env)(P:Qm)(w:QZ)(H:Hp)(s:Shared)(Q:VK)(E:XK)(r:Qtc)(s':Shared):Prop:=
 match r with
 |.ok (.ret u)=>CE outer P w H s Q u s'
 |.ok _=>False
 |.error e=>CX outer H s E e s'
structure FnOk (P:Qm) (w:QZ) (K:PySem.W.Frag) (mg:Str->Option Value) (base:JS) (CX:CXT) (k:Nat) (f:Addr) (fd:JQ) (ps:List Str) (sp:Sp):Prop where
 len:∀vs H Q E,sp vs H Q E->vs.length=ps.length
 run:∀(A:Q1)(outer:List Env)(s:Shared)(H:Hp)(args:Args)(us:List Value)(vs:List V)(Q:VK)(E:XK),Room k A->Env0 P w K mg base A outer s H->Qfy s fd args (ps.zip us)->Vals vs us->sp vs H Q E ->
  codeAny (model P w) A (.call (.ref f) args) (CR CX outer P w H s Q E) s
theorem FnOk.imp{P:Qm}{w:QZ}{K:PySem.W.Frag}{mg:Str->Option Value}{base:JS}{CX:CXT}{k:Nat}{f:Addr}{fd:JQ}{ps:List Str}{sp sp':Sp}(F:FnOk P w K mg base CX k f fd ps sp)
  (h:∀vs H Q E,sp' vs H Q E->sp vs H Q E):FnOk P w K mg base CX k f fd ps sp':=
 ⟨λvs H Q E q=>F.len vs H Q E (h _ _ _ _ q),λA outer s H args us vs Q E hr he hb hv hs=>F.run A outer s H args us vs Q E hr he hb hv (h _ _ _ _ hs)⟩
theorem Env0.make{P:Qm}{w:QZ}{K:PySem.W.Frag}{mg:Str->Option Value}{base:JS}{A:Q1}{outer:List Env}{s:Shared}{H:Hp}(e:Env0 P w K mg base A outer s H)(C:Addr)(us:List Value)(kw:List (Str×Value)) :
  Env0 P w K mg base (A.under (.builtin "type.__call__" ⟨.ref C::us,kw⟩)) outer s H:=⟨by first | exact e.frames | (simpa [QeC,Code.envs,Qk7,pushEnvs] using e.frames),e.mod,e.bs,e.bsz,e.funs,e.frf,e.hok,e.bare⟩
section
variable{X:Cx}{pins:List (Addr×Obj)}{σ:St}{H:Hp}{s s':Shared}
theorem Inv.env0(I:Inv X pins σ H s):Env0 X.prog X.w X.K X.mg X.base X.A X.stack s H:=
 ⟨I.ok.frames,I.ok.mod,I.bs,Qt I.ok.bsz I.sz,I.stack,I.stkFree,I.hok,I.bare⟩
theorem Inv.after{Q:VK}{u:Value}(I:Inv X pins σ H s)(h:CE X.stack X.prog X.w H s Q u s'):EP X pins σ Q u s':=by
 obtain⟨v,H',os,bare,un,hok,r,q⟩:=h;obtain⟨hh,g,d,t,os'⟩:=s';obtain rfl:os'=s.os:=os;exact⟨v,H',I.call (h':=hh) (g':=g) (d':=d) (t':=t) (ch:=[]) un hok bare (λb z=>absurd z (by simp)),r,q⟩
end
def Qkr(sp:Sp)(dvs:List V)(E:XK)(t:TA):TE:=λσ H Q=>t σ H λvs H1=>sp (vs++dvs) H1 Q E
def QoF(C:Addr)(m:Str)(sp:Sp)(dvs:List V)(E:XK)(ta:TE)(t:TA):TE:=λσ H Q=>ta σ H λx H1=>∃a dx fs,x=.ref a/\H1 a=some (.ins C dx fs)/\fs.lookup m=none /\
 t σ H1 λvs H2=>sp (x::(vs++dvs)) H2 Q E
def QwO(C:Addr)(sp:Sp)(dvs:List V)(E:XK)(t:TA):TE:=λσ H Q=>t σ H λvs H1=>∀x dx,H1 x=none->H1 dx=none->dx≠x ->
 sp (.ref x::(vs++dvs)) (upd (upd H1 dx (.own x)) x (.ins C dx [])) (λv H2=>v=.non/\Q (.ref x) H2) E
def Binds(K:PySem.W.Frag)(fd:JQ)(ps:List Str)(ds:List Value):Prop:=
 ∀(s:Shared)(us:List Value),K.In s.heap->(us++ds).length=ps.length->Qfy s fd ⟨us,[]⟩ (ps.zip (us++ds))
theorem Binds.all{K:PySem.W.Frag}{fd:JQ}{ps:List Str}(h:∀us:List Value,us.length=ps.length->bindArgs fd ⟨us,[]⟩=pure (ps.zip us)):Binds K fd ps []:=λs us _ hl=>by
 rw[Zn] at hl ⊢;exact .of_eq (h us hl)
def Y8(CX:CXT)(X:Cx)(E:XK):Prop:=∀(pins:List (Addr×Obj))(σ:St)(H:Hp)(s:Shared)(e:Value)(s':Shared),Inv X pins σ H s->CX X.stack H s E e s'->X.xe e s'
section
variable{X:Cx}{CX:CXT}{k:Nat}{f C:Addr}{fd:JQ}{ps:List Str}{sp:Sp}{dvs:List V}{ds:List Value}{E:XK}{x m:Str}{p pos apos:Pos}{e o:QV}{es:List QV}{ta:TE}{t:TA}
theorem Qjs{pins:List (Addr×Obj)}{σ:St}{H:Hp}{s:Shared}{Q:VK}{us:List Value}{vs:List V}(F:FnOk X.prog X.w X.K X.mg X.base CX k f fd ps sp)(hr:Room k X.A)(hb:Binds X.K fd ps ds)(hd:Vals dvs ds)(hx:Y8 CX X E)
  (I:Inv X pins σ H s)(r:Vals vs us)(h:sp (vs++dvs) H Q E):wpAny (model X.prog X.w) X.A (call (.ref f) us) (EP X pins σ Q) X.xe s:=by
 have r2:Vals (vs++dvs) (us++ds):=r.append hd;have hl:(us++ds).length=ps.length:=by rw[<- r2.length];exact F.len _ _ _ _ h
 refine Qel (Qay (F.run X.A X.stack s H ⟨us,[]⟩ (us++ds) (vs++dvs) Q E hr I.env0 (hb s us I.kIn hl) r2 h) λr s' hq=>?_);cases r with
 |error e=>exact hx pins σ H s e s' I hq
 |ok fl=>
  cases fl with
  |ret u=>exact I.after hq
  |next=>exact Jr hq
  |brk=>exact Jr hq
  |cont=>exact Jr hq
theorem Qiv(F:FnOk X.prog X.w X.K X.mg X.base CX k f fd ps sp)(hr:Room k X.A)(hg:Gl X x)(hm:X.mg x=some (.ref f))(hk:PySem.W.keepIn X.K (.ref f)=true)(hb:Binds X.K fd ps ds)(hd:Vals dvs ds)(hx:Y8 CX X E)
  (ha:PA X (e::es) t)(hdb:(x == ("__debug__" : Str))=false:=by decide)(he:starEach (e::es) X.env=(false,eval e X.env)::starEach es X.env:=by rfl)(hpl:(backTo pos (starEach es X.env)).any (·.1)=false:=by rfl) :
  PE X (.Call (.Name x p) (e::es) [] pos) (Qkr sp dvs E t):=by
 intro pins s σ H Q I h;refine Z1 (QdO I hg hm ?_ hdb);refine PySem.W.callWith_K (h₀:=X.base) I.ok.mod.kin hk (thn (ha pos pins s σ H _ I h) λus s1 ⟨vs,H1,I1,r,q⟩=>⟨I1.kIn,?_⟩) he hpl;exact Qjs F hr hb hd hx I1 r q
theorem Qt1{pl:Sem Bool}(he:PE X o ta)(c:Cls X.K C)(hm:Meth X.K C m f)(F:FnOk X.prog X.w X.K X.mg X.base CX k f fd ps sp)(hr:Room k X.A)(hb:Binds X.K fd ps ds)(hd:Vals dvs ds)(hx:Y8 CX X E)(ha:PA X (e::es) t)
  (hst:starEach (e::es) X.env=(false,eval e X.env)::starEach es X.env:=by rfl)(hpl:(backTo pos (starEach es X.env)).any (·.1)=false:=by rfl)
  (ht:eval (.Call (.Attribute o m apos) (e::es) [] pos) X.env=(do
   let ov <- eval o X.env
   standAt apos.atName
   let (f,first) <- holding [ov] (getMethod ov m pl)
   callWith pos f first (backTo pos (starEach (e::es) X.env)) (backToKw pos (keywordEach [] X.env))):=by rfl) :
  PE X (.Call (.Attribute o m apos) (e::es) [] pos) (QoF C m sp dvs E ta t):=by
 intro pins s σ H Q I h;refine PySem.W.methodCall_KW (pl:=pl) (thn (he pins s σ H _ I h) λu s1 ⟨x,H1,I1,rx,a,dx,fs,ex,ea,l,q⟩=>?_) ht;subst ex;obtain rfl:u=Jj a:=rx;refine QdR I1 ea c hm l ?_
 refine PySem.W.callWith_K (first:=[.ref a]) (h₀:=X.base) I.ok.mod.kin hm.kp (thn (ha pos pins s1 σ H1 _ I1 q) λus s2 ⟨vs,H2,I2,r,q2⟩=>⟨I2.kIn,?_⟩) hst hpl;exact Qjs (us:=.ref a::us) (vs:=.ref a::vs) F hr hb hd hx I2 (.cons rfl r) q2
theorem Qo4{pl:Sem Bool}(he:PE X o ta)(c:Cls X.K C)(hm:Meth X.K C m f)(F:FnOk X.prog X.w X.K X.mg X.base CX k f fd ps sp)(hr:Room k X.A)(hb:Binds X.K fd ps ds)(hd:Vals dvs ds)(hx:Y8 CX X E)
  (ht:eval (.Call (.Attribute o m apos) [] [] pos) X.env=(do
   let ov <- eval o X.env
   standAt apos.atName
   let (f,first) <- holding [ov] (getMethod ov m pl)
   callWith pos f first (backTo pos (starEach [] X.env)) (backToKw pos (keywordEach [] X.env))):=by rfl) :
  PE X (.Call (.Attribute o m apos) [] [] pos) (QoF C m sp dvs E ta Qej):=by
 intro pins s σ H Q I h;refine PySem.W.methodCall_KW (pl:=pl) (thn (he pins s σ H _ I h) λu s1 ⟨x,H1,I1,rx,a,dx,fs,ex,ea,l,q⟩=>?_) ht;subst ex;obtain rfl:u=Jj a:=rx;refine QdR I1 ea c hm l ?_
 exact PySem.W.callWith_K0 (first:=[.ref a]) I1.kIn hm.kp (Qjs (us:=[.ref a]) (vs:=[.ref a]) F hr hb hd hx I1 (.cons rfl .nil) q)
structure Mk (K:PySem.W.Frag) (C f:Addr):Prop where
 makes:PySem.W.makesIn K C=true
 init:PySem.W.findIn K (.ref C) "__init__" = some (some (.ref f))
 fn:PySem.W.isFn K (.ref f)=true
 kp:PySem.W.keepIn K (.ref C)=true
theorem QoN{pins:List (Addr×Obj)}{σ:St}{H:Hp}{s:Shared}{Q:VK}{us:List Value}{vs:List V}(M:Mk X.K C f)(F:FnOk X.prog X.w X.K X.mg X.base CX k f fd ps sp)(hr:Room (k+1) X.A)(hb:Binds X.K fd ps ds)(hd:Vals dvs ds)
  (hx:Y8 CX X E)(I:Inv X pins σ H s)(r:Vals vs us)
  (h:∀x dx,H x=none->H dx=none->dx≠x->sp (.ref x::(vs++dvs)) (upd (upd H dx (.own x)) x (.ins C dx [])) (λv H2=>v=.non/\Q (.ref x) H2) E) :
  wpAny (model X.prog X.w) X.A (call (.ref C) us) (EP X pins σ Q) X.xe s:=by
 have hq:=h (s.heap.objs.size+1) s.heap.objs.size (I.hok.fresh (Nat.le_succ _)) (I.hok.fresh (Qf _)) (Q2 (Qv7 _));have I2:=Inv.made (C:=C) I;have r2:Vals (V.ref (s.heap.objs.size+1)::(vs++dvs)) (Jj (s.heap.objs.size+1)::(us++ds)):=.cons rfl (r.append hd);have hl:(Jj (s.heap.objs.size+1)::us++ds).length=ps.length:=by
  have e:=r2.length;rw[F.len _ _ _ _ hq] at e;exact e.symm
 refine Qel (QpY (f:=f) I.kIn M.makes M.init (beq_iff_eq.mp M.fn) (Qay (F.run _ X.stack _ _ ⟨Jj (s.heap.objs.size+1)::us,[]⟩ (Jj (s.heap.objs.size+1)::(us++ds)) _ _ E (hr.make C us [])
  (I2.env0.make C us []) (hb _ (Jj (s.heap.objs.size+1)::us) I2.kIn hl) r2 hq) λr s' hq'=>?_))
 cases r with
 |error e=>exact hx pins σ _ _ e s' I2 hq'
 |ok fl=>
  cases fl with
  |ret u=>
   obtain⟨v,H',I3,rv,ev,q3⟩:=I2.after hq';subst ev;exact⟨rv,⟨V.ref (s.heap.objs.size+1),H',I3,rfl,q3⟩⟩
  |next=>exact Jr hq'
  |brk=>exact Jr hq'
  |cont=>exact Jr hq'
theorem Qo5(M:Mk X.K C f)(F:FnOk X.prog X.w X.K X.mg X.base CX k f fd ps sp)(hr:Room (k+1) X.A)(hg:Gl X x)(hm:X.mg x=some (.ref C))(hb:Binds X.K fd ps ds)(hd:Vals dvs ds)(hx:Y8 CX X E)
  (hdb:(x == ("__debug__" : Str))=false:=by decide):PE X (.Call (.Name x p) [] [] pos) (QwO C sp dvs E Qej):=by
 intro pins s σ H Q I h;refine Z1 (QdO I hg hm ?_ hdb);exact PySem.W.callWith_K0 I.kIn M.kp (QoN (us:=[]) M F hr hb hd hx I .nil h)
end
section
variable{X:Cx}{CX:CXT}{k:Nat}{f C:Addr}{fd:JQ}{ps ks:List Str}{sp:Sp}{E:XK}{x m:Str}{p pos apos kpos:Pos}{e o:QV}{es:List QV}{kws:List Qfv}{te ta:TE}{t tk:TA}{nm:Option Str}
variable{g:List Value->List Value->List Value}{gV:List V->List V->List V}
end
structure Yb (N P:List Str) (sc:Qai):Prop where
 kind:sc.kind=.function
 co:sc.isCoroutine=false
 gen:sc.isGenerator=false
 nd:N.Nodup
 pre:N.take P.length=P
 par:∀x∈P,sc.names.lookup x=some .local∨sc.names.lookup x=some .cell
 nofree:∀y∈sc.names,y.2≠.free
theorem Qh2{kindOf:Str->Option Qbd}{x:Str}:∀{binds:List (Str×Value)}{m:Str->Option Value},(∀v,(x,v)∉binds)->bindL kindOf binds m x=m x
 |[],_,_=>rfl
 |(n,v)::r,m,h=>by
  unfold bindL;rw[Qh2 λw hw=>h w (QX _ hw)];split
  ·have:x≠n:=by rintro rfl;exact h v Jl
   simp[this]
  ·rfl
theorem Qh4{kindOf:Str->Option Qbd}{x:Str}:∀{binds:List (Str×Value)}{m:Str->Option Value},(∀v,(x,v)∉binds)->bindC kindOf binds m x=m x
 |[],_,_=>rfl
 |(n,v)::r,m,h=>by
  unfold bindC;rw[Qh4 λw hw=>h w (QX _ hw)];split
  ·rfl
  ·have:x≠n:=by rintro rfl;exact h v Jl
   simp[this]
theorem Qh3{kindOf:Str->Option Qbd}{x:Str}{v:Value}:∀{P:List Str}{vs:List Value}{i:Nat}{m:Str->Option Value},P.Nodup->P[i]? = some x->vs[i]? = some v->kindOf x=some .local ->
  bindL kindOf (P.zip vs) m x=some v
 |[],_,_,_,_,h,_,_=>by simp at h
 |_::_,[],_,_,_,_,h,_=>by simp at h
 |p::P,w::vs,0,m,nd,h1,h2,hk=>by
  simp at h1 h2;subst h1;subst h2;show bindL kindOf ((p,w)::P.zip vs) m p=_;unfold bindL;rw[Qh2 λv hv=>(Qbw.mp nd).1 (QcV hv).1,if_pos hk];simp
 |p::P,w::vs,i+1,m,nd,h1,h2,hk=>by
  show bindL kindOf ((p,w)::P.zip vs) m x=_;unfold bindL;exact Qh3 (i:=i) (Qbw.mp nd).2 (by simpa using h1) (by simpa using h2) hk
theorem Qh5{kindOf:Str->Option Qbd}{x:Str}{v:Value}:∀{P:List Str}{vs:List Value}{i:Nat}{m:Str->Option Value},P.Nodup->P[i]? = some x->vs[i]? = some v->kindOf x≠some .local ->
  bindC kindOf (P.zip vs) m x=some v
 |[],_,_,_,_,h,_,_=>by simp at h
 |_::_,[],_,_,_,_,h,_=>by simp at h
 |p::P,w::vs,0,m,nd,h1,h2,hk=>by
  simp at h1 h2;subst h1;subst h2;show bindC kindOf ((p,w)::P.zip vs) m p=_;unfold bindC;rw[Qh4 λv hv=>(Qbw.mp nd).1 (QcV hv).1,if_neg hk];simp
 |p::P,w::vs,i+1,m,nd,h1,h2,hk=>by
  show bindC kindOf ((p,w)::P.zip vs) m x=_;unfold bindC;exact Qh5 (i:=i) (Qbw.mp nd).2 (by simpa using h1) (by simpa using h2) hk
def start(N:List Str)(vs:List V):St:=vs.map some++Jc (N.length - vs.length) none
def cxOf(CX:CXT)(P:Qm)(w:QZ)(K:PySem.W.Frag)(mg:Str->Option Value)(base:JS)(N:List Str)(qual:Str)(scope:Qai)(f:Addr)(cd:Value)(A:Q1)(outer:List Env)(s:Shared)(H:Hp)(E:XK):Cx where
 prog:=P
 w:=w
 K:=K
 mg:=mg
 base:=base
 A:=A.deeper (envOfC qual scope s.heap.objs.size f cd)
 N:=N
 s₀:=s
 H₀:=H
 env:=envOfC qual scope s.heap.objs.size f cd
 outer:=outer
 stack:=envOfC qual scope s.heap.objs.size f cd::outer
 ex:=[]
 calm:=true
 fn:=λ_=>true
 pn:=[]
 xe:=λe s'=>wpAny (model P w) (A.deeper (envOfC qual scope s.heap.objs.size f cd)) (leaving (envOfC qual scope s.heap.objs.size f cd) e) (λ_ s''=>CX outer H s E e s'') (λe' s''=>CX outer H s E e' s'') s'
theorem Qj3{sc:Qai}{n:Nat}{x:Str}(h:sc.names.lookup x=some .cell):∃c,(cellsFrom n sc.names []).lookup x=some c:=by
 have q:=PySem.W.cellsFrom_some sc.names n [] (.inl h);exact Option.isSome_iff_exists.mp q
theorem QhL{CX:CXT}{P:Qm}{w:QZ}{K:PySem.W.Frag}{mg:Str->Option Value}{base:JS}{N ps:List Str}{qual:Str}{scope:Qai}{f:Addr}{cd:Value}{A:Q1}{outer:List Env}{s s1:Shared}{H:Hp}{E:XK}{us:List Value}{vs:List V}
  (S:Yb N ps scope)(hd:A.handled=none)(e0:Env0 P w K mg base A outer s H)(hl:vs.length=ps.length)(r:Vals vs us)
  (x:InCallC s s.heap.objs.size (bindL (envOfC qual scope s.heap.objs.size f cd).kindOf (ps.zip us) λ_=>none) (cellsFrom (s.heap.objs.size+1) scope.names []) (bindC (envOfC qual scope s.heap.objs.size f cd).kindOf (ps.zip us) λ_=>none) s1) :
  Inv (cxOf CX P w K mg base N qual scope f cd A outer s H E) [] (start N vs) H s1:=by
 have hpl:ps.length<=N.length:=by have:=congrArg List.length S.pre;rw[YY] at this;omega
 obtain⟨h1,tk,rfl,hk⟩:=x.done;have noA:∀b:Addr,b∉(cxOf CX P w K mg base N qual scope f cd A outer s H E).ex:=λb z=>absurd (show b∈([]:List Addr) from z) (by simp)
 refine⟨⟨e0.mod,S.kind,rfl,rfl,Qf _,λy z c h1 h2=>?_,λy hy=>?_,λy c _ h=>?_,λ_=>hd,Around.frames_deeper e0.frames,.inr ⟨rfl,rfl⟩,λb z=>absurd z (noA b),e0.bs,e0.bsz,λb _ _=>noA b,λb z=>absurd z (noA b),e0.funs,e0.frf⟩,
  rfl,e0.bare,Un.kept hk,⟨_,x.toInCall.ns,λi y v h1 h2 h3=>?_⟩,λy c h=>⟨_,x.cell y c h⟩,e0.hok.fresh (Qf _),λy c h=>?_,λp hp=>absurd (show p∈([]:List (Addr×Obj)) from hp) (by simp),e0.hok.kept hk,?_⟩
 ·exact name_of_addr x.apart (PySem.mem_of_lookup h1) (PySem.mem_of_lookup h2)
 ·have hy:scope.names.lookup y=some .cell∨scope.names.lookup y=some .free:=hy;rcases hy with hy | hy
  ·exact Qj3 hy
  ·exact absurd rfl (S.nofree _ (PySem.mem_of_lookup hy))
 ·exact Ji (x.above y c (PySem.mem_of_lookup h))
 ·have hi:i<vs.length:=by
   unfold start at h2;by_cases hi:i<vs.length
   ·exact hi
   ·rw[Qg2 (by simpa using hi)] at h2;rw[Qam] at h2;split at h2<;>cases h2
  have ha:vs[i]? = some v:=by
   unfold start at h2;rw[QbS (by simpa using hi),Qz] at h2;cases e:vs[i]? with
   |none=>rw[e] at h2;cases h2
   |some a=>rw[e] at h2;cases h2;rfl
  obtain⟨u,hu,rv⟩:=r.get ha;have hp:ps[i]? = some y:=by
   rw[<- S.pre,List.getElem?_take_of_lt (by omega)];exact h1
  have ndP:ps.Nodup:=by rw[<- S.pre];exact S.nd.sublist (List.take_sublist _ _)
  refine⟨u,rv,?_⟩;rcases S.par y (J4 hp) with k | k
  ·exact .inl ⟨k,Qh3 ndP hp hu k⟩
  ·obtain⟨c,e⟩:=Qj3 (n:=s.heap.objs.size+1) k;refine .inr ⟨.inl k,c,e,?_⟩;have q:=x.cell y c e;rw[Qh5 ndP hp hu (by show scope.names.lookup y≠_;rw[k];decide)] at q;exact q
 ·exact e0.hok.fresh (Ji (x.above y c (PySem.mem_of_lookup h)))
 ·unfold start;show _=N.length;rw[Qj,Qc,QaM];omega
theorem Qyy{CX:CXT}{P:Qm}{w:QZ}{K:PySem.W.Frag}{mg:Str->Option Value}{base:JS}{k:Nat}{f:Addr}{name qual:Str}{params:Arguments}{body:List J7}{scope:Qai}{dV kV doc pm cdv ct oc:Value}{an od:Option Addr}
  {osl:Array (Option Value)} {N ps:List Str} {sp:Sp} (lk:K.lookup f=some ⟨oc,od,.func (PySem.W.fnOf name qual params body scope dV kV doc pm an cdv ct),osl⟩) (hcd:PySem.W.codeIn K cdv qual=true) (S:Yb N ps scope)
  (len:∀vs H Q E,sp vs H Q E->vs.length=ps.length)
  (hbody:∀(A:Q1)(outer:List Env)(s:Shared)(H:Hp)(vs:List V)(Q:VK)(E:XK),Room k (A.deeper (envOfC qual scope s.heap.objs.size f cdv))->sp vs H Q E ->
   ∃t,PSs (cxOf CX P w K mg base N qual scope f cdv A outer s H E) body t/\t { nx:=λ_ H'=>Q .non H',rt:=Q } (start N vs) H) :
  FnOk P w K mg base CX (k+1) f (PySem.W.fnOf name qual params body scope dV kV doc pm an cdv ct) ps sp:=by
 refine⟨len,λA outer s H args us vs Q E hr e0 hb r hsp=>?_⟩;have hl:=len _ _ _ _ hsp;have KX:K.In s.heap:=e0.mod.kin.keeps λb o e=>(e0.bs b o e).1
 have lim:s.heap.NoLimit:=e0.mod.nolimit.keeps λb o e=>(e0.bs b o e).1
 have hkind:∀y∈ps.zip us,scope.names.lookup y.1=some .local∨(scope.names.lookup y.1=some .cell/\((cellsFrom (s.heap.objs.size+1) scope.names []).lookup y.1).isSome=true):=λ⟨n,v⟩ hy=>by
  rcases S.par n (QcV hy).1 with q | q
  ·exact .inl q
  ·exact .inr ⟨q,PySem.W.cellsFrom_some _ _ _ (.inl q)⟩
 refine Qta hr.depth (KX _ _ lk) rfl S.co S.gen rfl (PySem.W.codeRec_of KX hcd) (hb _ _ _ _ ?_);refine QkZ S.kind hkind λenv he s1 x=>?_
 subst he;refine⟨lim.keeps x.toInCall.keep,codeAny_func ?_⟩;obtain⟨t,ht,hq⟩:=hbody A outer s H vs Q E (hr.deeper _) hsp;have I:Inv (cxOf CX P w K mg base N qual scope f cdv A outer s H E) [] (start N vs) H s1:=QhL S hr.hd e0 hl r x;refine wpAny_mono (ht [] s1 (start N vs) H _ I hq) (λfl s' hs=>?_) λe s' hs=>hs
 have fin:∀{σ':St}{H':Hp}{v:V}{u:Value},Inv (cxOf CX P w K mg base N qual scope f cdv A outer s H E) [] σ' H' s'->RelV v u->Q v H'->CE outer P w H s Q u s':=
  λ{σ' H' v u} J rv q=>⟨v,H',J.os,J.bare,J.base,J.hok,rv,q⟩
 cases fl with
 |ret u=>
  obtain⟨v,σ',H',J,rv,q⟩:=hs;exact fin J rv q
 |next=>
  obtain⟨σ',H',J,q⟩:=hs;exact fin (v:=V.non) (u:=J6) J rfl q
 |brk=>
  obtain⟨_,_,_,q⟩:=hs;exact Jr q
 |cont=>
  obtain⟨_,_,_,q⟩:=hs;exact Jr q
section
variable{X:Cx}{x:Str}{p pos:Pos}{e:QV}{es:List QV}{t:TA}{id T:String}{r:List V->Hp->VK->Prop}
def tCB(r:List V->Hp->VK->Prop)(t:TA):TE:=λσ H Q=>t σ H λvs H1=>r vs H1 Q
theorem ZD(hc:CallR X (.builtin id) r)(hg:Gl X x)(hm:X.mg x=none)(hv:bootBuiltins x=some (.builtin id))(ha:PA X (e::es) t)(hn:x ≠ "__name__" := by decide)(hdb:(x == ("__debug__" : Str))=false:=by decide)
  (he:starEach (e::es) X.env=(false,eval e X.env)::starEach es X.env:=by rfl)(hpl:(backTo pos (starEach es X.env)).any (·.1)=false:=by rfl):PE X (.Call (.Name x p) (e::es) [] pos) (tCB r t):=by
 intro pins s σ H Q I h;refine Z1 (Qe0 I hg hm hv ?_ hn hdb);exact PyProof.Rows.callWith_builtin1 (thn (ha pos pins s σ H _ I h) λus s1 ⟨vs,H1,I1,r1,q1⟩=>hc pins s1 σ H1 vs us Q I1 r1 q1) he hpl
theorem ZT(hc:CallR X (.type T) r)(hg:Gl X x)(hm:X.mg x=none)(hv:bootBuiltins x=some (.type T))(ha:PA X (e::es) t)(hn:x ≠ "__name__" := by decide)(hdb:(x == ("__debug__" : Str))=false:=by decide)
  (he:starEach (e::es) X.env=(false,eval e X.env)::starEach es X.env:=by rfl)(hpl:(backTo pos (starEach es X.env)).any (·.1)=false:=by rfl):PE X (.Call (.Name x p) (e::es) [] pos) (tCB r t):=by
 intro pins s σ H Q I h;refine Z1 (Qe0 I hg hm hv ?_ hn hdb);exact Zv (thn (ha pos pins s σ H _ I h) λus s1 ⟨vs,H1,I1,r1,q1⟩=>hc pins s1 σ H1 vs us Q I1 r1 q1) he hpl
end
end L2
namespace HT
section
open PySem.SeqAt
open PySem.AutoSeq1 (wpAny_loadPart')
open PySem.MeetsSeq PySem.MeetsSeq2 PySem.MeetsSeq3
end
section
variable{prog:Qm}{w:QZ}{A:Q1}{E:Value->Shared->Prop}{s:Shared}
theorem QvR{t b:Addr}{vs ws:List Value}{Q:Value->Shared->Prop}(ht:IsTup s.heap t vs.toArray)(hb:IsTup s.heap b ws.toArray)(hv:vs≠[])
  (h1:ws=[]->Q (.ref t) s)(h2:ws≠[]->Q (.ref s.heap.objs.size) { s with heap:=s.heap.push { cls:=.type "tuple",data:=.seq (vs++ws).toArray } })
  (hsz:vs.length+ws.length<=sizeLine):wpAny (model prog w) A (binaryOp .Add (.ref t) (.ref b)) Q E s:=by
 obtain⟨⟨cls,dd,data,sl⟩,ho,hc,n,hd⟩:=id ht;obtain⟨⟨cls2,dd2,data2,sl2⟩,ho2,hc2,n2,hd2⟩:=id hb;simp only at hc hd hc2 hd2;subst hc hd hc2 hd2;have e:vs.toArray++ws.toArray=(vs++ws).toArray:=by simp
 by_cases hw:ws=[]
 ·exact Qs9 ⟨_,ho,rfl⟩ ⟨_,ho2,rfl⟩ Qid Qom PySem.F.slot_tuple_add PySem.F.entry_tuple_add (PySem.F.args_tuple_add_2 _ _)
   (tuple_addW1 t b vs.toArray ws.toArray n n2 dd dd2 sl sl2 (by simpa using hv) (by simp[hw])) ⟨ho,ho2,h1 hw⟩
 ·refine Qs9 ⟨_,ho,rfl⟩ ⟨_,ho2,rfl⟩ Qid Qom PySem.F.slot_tuple_add PySem.F.entry_tuple_add (PySem.F.args_tuple_add_2 _ _)
   (tuple_addW2 t b vs.toArray ws.toArray n n2 dd dd2 sl sl2 (by simpa using hv) (by simpa using hw) (by rw[Ql,Ql];exact hsz)) ⟨ho,ho2,?_⟩
  rw[e];exact h2 hw
def sIx(n d:Nat):Option Int->Nat
 |none=>d
 |some v=>if v<0 then(v+(n:Int)).toNat else min v.toNat n
theorem Qjr(n d:Nat):sIx n d none=d:=rfl
theorem QtC(n d k:Nat):sIx n d (some (k:Int))=min k n:=by
 show(if(k:Int)<0 then((k:Int)+(n:Int)).toNat else min (k:Int).toNat n)=min k n;rw[if_neg (by omega),QB]
theorem Qw9(n d:Nat)(hd:d<=n)(o:Option Int):sIx n d o<=n:=by
 cases o with
 |none=>exact hd
 |some v=>
  show(if v<0 then(v+(n:Int)).toNat else min v.toNat n)<=n;by_cases hv:v<0
  ·rw[if_pos hv];omega
  ·rw[if_neg hv];exact Qf7 _ _
theorem QnJ(v:Int)(n d:Nat):(if v<0 then max (v+(n:Int)) 0 else min v (n:Int))=((sIx n d (some v):Nat):Int):=by
 show(if v<0 then max (v+(n:Int)) 0 else min v (n:Int))=(((if v<0 then(v+(n:Int)).toNat else min v.toNat n):Nat):Int);by_cases hv:v<0
 ·simp only[if_pos hv];omega
 ·simp only[if_neg hv];omega
theorem QkY(lo hi:Option Int)(n:Nat):QaQ lo hi 1 (n:Int)=(((sIx n 0 lo:Nat):Int),((sIx n n hi:Nat):Int)):=by
 have h1:¬((1:Int)<0):=by omega
 unfold QaQ;simp only[h1,if_false];refine Qc4 ?_ ?_
 ·cases lo with
  |none=>rfl
  |some v=>exact QnJ v n 0
 ·cases hi with
  |none=>rfl
  |some v=>exact QnJ v n n
theorem Qkw(i j:Nat):Yr (i:Int) (j:Int) 1=j - i:=by
 unfold Yr;have h1:(1:Int) > 0:=by omega
 simp only[h1,if_true,Int.ediv_one];split<;>omega
theorem QfO{v:Value}{o:Option Int}{Q:Option Int->Shared->Prop}(p:Qh9 v o)(h:Q o s):wpAny (model prog w) A (QAd v) Q E s:=by
 cases p with
 |none=>exact slicePart_none h
 |int i t=>exact slicePart_int h
theorem QbV{sl:Addr}{vl vu:Value}{lo hi:Option Int}{n:Nat}{Q:Int×Int×Nat->Shared->Prop}(hs:s.heap.IsSliceOf sl vl vu .none)(pl:Qh9 vl lo)(pu:Qh9 vu hi)
  (h:Q (((sIx n 0 lo:Nat):Int),1,sIx n n hi - sIx n 0 lo) s):wpAny (model prog w) A (Qd1 (.ref sl) (pure (n:Int))) Q E s:=by
 obtain⟨os,hos,hcs,hds⟩:=id hs;unfold Qd1 QAe;refine wpAny_bind (wpAny_bind (Qc0 hos hds (x:=vl) rfl (wpAny_bind (Qc0 hos hds (x:=vu) rfl (wpAny_bind (Qc0 hos hds (x:=.none) rfl (Qo ?_)))))));refine wpAny_bind (slicePart_none ?_);show wpAny _ _ (if((1:Int) == 0)=true then _ else _) _ _ s;rw[if_neg (by decide)];refine wpAny_bind (QfO pl (wpAny_bind (QfO pu (wpAny_bind (Qo ?_)))));show wpAny _ _ (match QaQ lo hi 1 (n:Int) with | (lo,hi)=>pure (lo,(1:Int),Yr lo hi 1)) _ _ s;rw[QkY lo hi n];show wpAny _ _ (pure (((sIx n 0 lo:Nat):Int),(1:Int),Yr ((sIx n 0 lo:Nat):Int) ((sIx n n hi:Nat):Int) 1)) _ _ s;rw[Qkw];exact Qo h
theorem Qo0(xs:Array Value)(i k:Nat):((QN k).filterMap λ(m:Nat)=>xs[((i:Int)+(m:Int)*1).toNat]?).toArray=((xs.toList.drop i).take k).toArray:=by
 have e:(λ(m:Nat)=>xs[((i:Int)+(m:Int)*1).toNat]?)=λm=>xs[i+m]? := by
  funext m
  have:((i:Int)+(m:Int)*1).toNat=i+m:=by omega
  rw[this]
 rw[e];have:=pick_run xs i k;rw[ZP] at this;have e2:((λx=>xs[x]?)∘λx=>i+x)=λm=>xs[i+m]? := rfl
 rw[e2] at this;rw[this]
theorem QdS{t sl:Addr}{items:Array Value}{vl vu:Value}{lo hi:Option Int}{Q:Value->Shared->Prop}(ht:IsTup s.heap t items)(hs:s.heap.IsSliceOf sl vl vu .none)(pl:Qh9 vl lo)(pu:Qh9 vu hi)
  (hw:¬(sIx items.size 0 lo=0/\sIx items.size items.size hi=items.size))
  (h:Q (.ref s.heap.objs.size) { s with heap:=s.heap.push { cls:=.type "tuple",data:=.seq ((items.toList.drop (sIx items.size 0 lo)).take (sIx items.size items.size hi - sIx items.size 0 lo)).toArray } })
  (hsz:items.size<=sizeLine):wpAny (model prog w) A (getItem (.ref t) (.ref sl)) Q E s:=by
 have htake:sizeOk (.seq ((items.toList.drop (sIx items.size 0 lo)).take (sIx items.size items.size hi - sIx items.size 0 lo)).toArray):=by
  show((items.toList.drop (sIx items.size 0 lo)).take (sIx items.size items.size hi - sIx items.size 0 lo)).toArray.size<=sizeLine;rw[Ql,YY,Qcs,Jh];omega
 have hj:sIx items.size items.size hi<=items.size:=Qw9 _ _ (Qf _) hi;obtain⟨os,hos,hcs,hds⟩:=id hs;have hTs:s.TypeIs (.ref sl) "slice" := ⟨os,hos,hcs⟩;unfold getItem
 try with_reducible refine ZJ ?_
 first | refine wpAny_bind (Qo ?_) | skip
 refine wpAny_bind (QzJ ht.typeIs (by decide) ?_);refine wpAny_bind (Qol (name:=Qe "__getitem__") ht.typeIs JR
  (Qdy JR ht.typeIs Qwp ?_ (Qzr _ _)))
 show wpAny _ _ (Qd0 (.ref t) >>= _) _ _ s;refine wpAny_bind (tupleItemsOf_ ht ?_);refine wpAny_bind (Qs6 hTs ?_);rw[if_pos (by decide)];refine wpAny_bind (QbV hs pl pu ?_);have hno:¬((((sIx items.size 0 lo:Nat):Int) == 0&&(1:Int) == 1&&(sIx items.size items.size hi - sIx items.size 0 lo) == items.size)=true):=by
  intro q;rw[JY,JY] at q;have q1:((sIx items.size 0 lo:Nat):Int)=0:=eq_of_beq q.1.1;have q2:sIx items.size items.size hi - sIx items.size 0 lo=items.size:=eq_of_beq q.2;exact hw ⟨by omega,by omega⟩
 show wpAny _ _ (if(((sIx items.size 0 lo:Nat):Int) == 0&&(1:Int) == 1&&(sIx items.size items.size hi - sIx items.size 0 lo) == items.size)=true then _ else _) _ _ s;rw[if_neg hno,Qo0]
 first
  |exact wpAny_bind (m:=Yy _) (Zq (Qo ⟨_,rfl,Qo h⟩) htake)
  |exact wpAny_bind (m:=Yy _) (Zq (wpAny_bind (Qo (Qo ⟨_,rfl,Qo h⟩))) htake)
  |exact wpAny_bind (wpAny_bind (m:=Yy _) (Zq (Qo (Qo ⟨_,rfl,Qo h⟩)) htake))
  |exact wpAny_bind (wpAny_bind (m:=Yy _) (Zq (Qo ⟨_,rfl,Qo h⟩) htake))
end
end HT
namespace L2
abbrev TO:=St->Hp->(Option Int->Hp->Prop)->Prop
def PO(X:Cx)(e:Option QV)(t:TO):Prop:=
 ∀(pins:List (Addr×Obj))(s:Shared)(σ:St)(H:Hp)(Q:Option Int->Hp->Prop),Inv X pins σ H s->t σ H Q ->
  wpAny (model X.prog X.w) X.A (evalPart e X.env) (λu s'=>∃o H',Inv X pins σ H' s'/\Qh9 u o/\Q o H') X.xe s
def QlG:TO:=λ_ H Q=>Q none H
def QlE(t:TE):TO:=λσ H Q=>t σ H λx H1=>∃i,x=.int i/\Q (some i) H1
theorem intsAre_of{ns:List Int}:∀{us:List Value},Vals (ns.map V.int) us->Qg4 us ns:=by
 induction ns with
 |nil=>intro us r;rw[Qfu] at r;cases r;exact .nil
 |cons n ns ih=>
  intro us r;rw[JB] at r;cases r with
  |cons r1 r2=>
   obtain⟨t,e⟩:=r1;subst e;exact .cons n t (ih r2)
section
variable{X:Cx}{e:QV}{te:TE}{lo hi:Option QV}{tl th:TO}{pos p2:Pos}
theorem Y1:PO X none QlG:=by
 intro pins s σ H Q I h;rw[evalPart_none];exact Qo ⟨none,H,I,.none,h⟩
theorem Y0(h:PE X e te):PO X (some e) (QlE te):=by
 intro pins s σ H Q I hw;rw[evalPart_some];refine thn (h pins s σ H _ I hw) λu s1 ⟨x,H1,I1,r1,q1⟩=>?_
 obtain⟨i,rfl,q⟩:=q1;obtain⟨t,rfl⟩:=r1;exact⟨some i,H1,I1,.int i t,q⟩
def SlR(X:Cx)(r:V->Option Int->Option Int->Hp->VK->Prop):Prop:=
 ∀(pins:List (Addr×Obj))(s:Shared)(σ:St)(H:Hp)(x:V)(v vl vu:Value)(lo hi:Option Int)(sl:Addr)(Q:VK),Inv X pins σ H s->RelV x v->s.heap.IsSliceOf sl vl vu .none->Qh9 vl lo->Qh9 vu hi->r x lo hi H Q ->
  ∃T id,typeLookup (.type T) "__getitem__" = pure (some (.builtin id))/\s.TypeIs v T/\wpAny (model X.prog X.w) X.A (getItem v (.ref sl)) (EP X pins σ Q) X.xe s
def tSl(r:V->Option Int->Option Int->Hp->VK->Prop)(te:TE)(tl th:TO):TE:=λσ H Q=>te σ H λx H1=>tl σ H1 λl H2=>th σ H2 λu H3=>r x l u H3 Q
theorem Yd{r:V->Option Int->Option Int->Hp->VK->Prop}(hr:SlR X r)(he:PE X e te)(hl:PO X lo tl)(hu:PO X hi th):PE X (.Subscript e (.Slice lo hi none p2) pos) (tSl r te tl th):=by
 intro pins s σ H Q I h;refine QzU (thn (he pins s σ H _ I h) λv s1 ⟨x,H1,I1,r1,q1⟩=>?_);refine wpAny_Slice (thn (hl pins s1 σ H1 _ I1 q1) λvl s2 ⟨l,H2,I2,pl,q2⟩=>thn (hu pins s2 σ H2 _ I2 q2) λvu s3 ⟨u,H3,I3,pu,q3⟩=>?_);rw[evalPart_none];refine Qo ?_
 have I4:Inv X pins σ H3 { s3 with heap:=s3.heap.push { cls:=.type "slice",data:=.fields #[vl,vu,.none] } }:=I3.kept (t':=s3.toks) λb ob q=>Qh _ q
 obtain⟨T,id,hT,ht,hg⟩:=hr pins { s3 with heap:=s3.heap.push { cls:=.type "slice",data:=.fields #[vl,vu,.none] } } σ H3 x v vl vu l u s3.heap.objs.size Q I4 r1 (Qzw ..) pl pu q3;show wpAny (model X.prog X.w) X.A (subscriptTail e (.Slice lo hi none p2) v (.ref s3.heap.objs.size)) (EP X pins σ Q) X.xe { s3 with heap:=s3.heap.push { cls:=.type "slice",data:=.fields #[vl,vu,.none] } };exact tail_any (ops:=[.ref s3.heap.objs.size,v]) ht hT hg (by with_unfolding_all rfl)
def QhS(xs:List V)(lo hi:Option Int):List V:=(xs.drop (HT.sIx xs.length 0 lo)).take (HT.sIx xs.length xs.length hi - HT.sIx xs.length 0 lo)
theorem Qfa(xs:List V)(lo hi:Option Int):(QhS xs lo hi).length<=xs.length:=by
 unfold QhS;rw[YY,Qcs];omega
def QCA(K:PySem.W.Frag):V->Option Int->Option Int->Hp->VK->Prop:=λx lo hi H Q=>∃a xs,x=.ref a/\SqT K H a xs /\
 ¬(HT.sIx xs.length 0 lo=0/\HT.sIx xs.length xs.length hi=xs.length)/\∀p,H p=none->Q (.ref p) (upd H p (.tup (QhS xs lo hi)))
theorem QwX:SlR X (QCA X.K):=by
 intro pins s σ H x v vl vu lo hi sl Q I rx hs pl pu h;obtain⟨a,xs,rfl,hx,hw,q⟩:=h;cases rx;obtain⟨its,r,ht,hz⟩:=I.tuple hx;have hlen:its.toArray.size=xs.length:=by rw[Ql];exact r.length.symm
 refine⟨"tuple",_,JR.lookup,ht.typeIs,?_⟩;refine HT.QdS ht hs pl pu (by rw[hlen];exact hw) ?_ (by rw[hlen];exact hz)
 rw[hlen];refine⟨.ref s.heap.objs.size,_,I.laid (t':=s.toks) (o:=.tup (QhS xs lo hi)) (λb ob q=>Qh _ q) (Qf _) ?_,rfl,q _ (I.hok.fresh (Qf _))⟩;exact⟨Qt (Qfa xs lo hi) hz,_,(r.drop (HT.sIx xs.length 0 lo)).take (HT.sIx xs.length xs.length hi - HT.sIx xs.length 0 lo),TupN.new _ _⟩
def QAy(K:PySem.W.Frag):R2:=λx y H Q=>∃a b xs ys,x=.ref a/\y=.ref b/\SqT K H a xs/\SqT K H b ys/\xs≠[]/\xs.length+ys.length<=sizeLine /\
 (ys=[]->Q (.ref a) H)/\(ys≠[]->∀p,H p=none->Q (.ref p) (upd H p (.tup (xs++ys))))
theorem Vals.nil_iff{xs:List V}{us:List Value}(r:Vals xs us):us=[]↔xs=[]:=by
 cases r with
 |nil=>simp
 |cons _ _=>simp
theorem QuA:OpR X (binaryOp .Add) (QAy X.K):=by
 intro pins s σ H x y v u Q I rx ry h;obtain⟨a,b,xs,ys,rfl,rfl,ha,hb,hx,hz,q1,q2⟩:=h;cases rx;cases ry;obtain⟨its,r1,p1,_⟩:=I.tuple ha;obtain⟨its2,r2,p2,_⟩:=I.tuple hb;refine HT.QvR p1 p2 (λz=>hx (r1.nil_iff.mp z)) (λz=>⟨.ref a,H,I,rfl,q1 (r2.nil_iff.mp z)⟩) (λz=>?_) (by rw[<- r1.length,<- r2.length];exact hz);refine⟨.ref s.heap.objs.size,_,I.laid (t':=s.toks) (o:=.tup (xs++ys)) (λb ob q=>Qh _ q) (Qf _) ?_,rfl,q2 (λw=>z (r2.nil_iff.mpr w)) _ (I.hok.fresh (Qf _))⟩;exact⟨by rw[Qj];exact hz,_,r1.append r2,TupN.new _ _⟩
end
def ixN(n:Nat)(i:Int):Option Nat:=if 0<=i then(if i<n then some i.toNat else none) else if -(n:Int)<=i then some (i+n).toNat else none
def atI{α:Type}(xs:List α)(i:Int):Option α:=(ixN xs.length i).bind λj=>xs[j]?
theorem Qnf{n:Nat}{i:Int}{j:Nat}(h:ixN n i=some j):seqIndex? i n=some j/\j<n /\ -(n:Int)<=i/\i<n:=by
 unfold ixN at h;by_cases h0:0<=i
 ·rw[if_pos h0] at h;by_cases h1:i<n
  ·rw[if_pos h1] at h;have e:i.toNat=j:=QH h;exact⟨by rw[Qj8 h0 h1,e],by omega,by omega,h1⟩
  ·rw[if_neg h1] at h;cases h
 ·rw[if_neg h0] at h;by_cases h1 : -(n:Int)<=i
  ·rw[if_pos h1] at h;have e:(i+n).toNat=j:=QH h;exact⟨by rw[Qh7 (by omega) h1,e],by omega,h1,by omega⟩
  ·rw[if_neg h1] at h;cases h
theorem QgT{α:Type}{xs:List α}{i:Int}{v:α}(h:atI xs i=some v):∃j,seqIndex? i xs.length=some j/\xs[j]? = some v/\j<xs.length /\ -(xs.length:Int)<=i/\i<xs.length:=by
 unfold atI at h;cases e:ixN xs.length i with
 |none=>rw[e] at h;cases h
 |some j=>
  rw[e] at h;obtain⟨h1,h2,h3,h4⟩:=Qnf e;exact⟨j,h1,h,h2,h3,h4⟩
theorem Q3{α:Type}{xs:List α}{j:Nat}{v:α}(h:xs[j]? = some v):atI xs (j:Int)=some v:=by
 have hj:j<xs.length:=(Q6.mp h).1;have e:ixN xs.length (j:Int)=some j:=by
  unfold ixN;rw[if_pos (by omega),if_pos (by omega)];simp
 unfold atI;rw[e];exact h
theorem Qdw{α:Type}(xs:List α)(v:α):atI (xs++[v]) (-1)=some v:=by
 have hl:(xs++[v]).length=xs.length+1:=by simp
 have e:ixN (xs++[v]).length (-1)=some xs.length:=by
  unfold ixN;rw[hl,if_neg (by decide),if_pos (by omega)]
  congr 1
  omega
 unfold atI;rw[e];show(xs++[v])[xs.length]? = some v;simp
def QiX(b:QV):Prop:=∀o i,subscripted b false o i=operate [o,i] (getItem o i)
def IxR(X:Cx)(r:R2):Prop:=
 ∀(value slice:QV)(pins:List (Addr×Obj))(s:Shared)(σ:St)(H:Hp)(x y:V)(v u:Value)(Q:VK),Inv X pins σ H s->RelV x v->RelV y u->r x y H Q ->
  subscripted slice false v u=operate [v,u] (getItem v u)->wpAny (model X.prog X.w) X.A (subscriptTail value slice v u) (EP X pins σ Q) X.xe s
def MtR(X:Cx)(id:String)(r:V->List V->Hp->VK->Prop):Prop:=
 ∀(pins:List (Addr×Obj))(s:Shared)(σ:St)(H:Hp)(x:V)(xs:List V)(v:Value)(us:List Value)(Q:VK),Inv X pins σ H s->RelV x v->Vals xs us->r x xs H Q ->
  wpAny (model X.prog X.w) X.A (call (.builtin id) (v::us)) (EP X pins σ Q) X.xe s
section
variable{X:Cx}{a b:QV}{ta tb:TE}{pos:Pos}
theorem Yo{r:R2}(hr:IxR X r)(ha:PE X a ta)(hb:PE X b tb)(hs:QiX b):PE X (.Subscript a b pos) (tOp r ta tb):=by
 intro pins s σ H Q I h;exact QzU (QBq ha hb I h λv u s2 x y H2 I2 rx ry q=>hr a b pins s2 σ H2 x y v u Q I2 rx ry q (hs _ _))
def Qwh(K:PySem.W.Frag):R2:=λx y H Q=>∃p xs i v,x=.ref p/\y=.int i/\SqL K H p xs/\atI xs i=some v/\Q v H
def QBN(K:PySem.W.Frag):R2:=λx y H Q=>∃p xs i v,x=.ref p/\y=.int i/\SqT K H p xs/\atI xs i=some v/\Q v H
def QBO:R2:=λx y H Q=>∃z i c,x=.str z/\y=.int i/\z.length<=sizeLine/\atI z.cps.toList i=some c/\Q (.str ⟨#[c]⟩) H
theorem Zu:IxR X (Qwh X.K):=by
 intro value slice pins s σ H x y v u Q I rx ry h hs;obtain⟨p,xs,i,z,rfl,rfl,hq,he,q⟩:=h;cases rx;obtain⟨t,rfl⟩:=ry;obtain⟨its,r,pl,hz⟩:=I.list hq;obtain⟨j,h1,h2,h3,h4,h5⟩:=QgT he;obtain⟨w,ew,rw'⟩:=r.get h2;have hl:=r.length;have hn:=Qeb;have fin:EP X pins σ Q w s:=⟨z,H,I,rw',q⟩;by_cases h0:0<=i
 ·have hj:i.toNat=j:=by
   rw[Qj8 h0 h5] at h1;exact QH h1
  exact item_listR pl.isList h0 (by omega) (by rw[hj];simpa using ew) fin hs
 ·have hj:(i+(its.toArray.size:Int)).toNat=j:=by
   rw[Qh7 (by omega) h4] at h1;rw[Ql,<- hl];exact QH h1
  exact QrD (x:=w) pl.isList.typeIs QzO.lookup
   (QrC (Q:=λr s'=>r=w/\EP X pins σ Q r s') pl.isList (by omega) (by rw[Ql]<;>omega) (by omega) (by rw[hj];simpa using ew) ⟨rfl,fin⟩) hs
theorem Qdo:IxR X (QBN X.K):=by
 intro value slice pins s σ H x y v u Q I rx ry h hs;obtain⟨p,xs,i,z,rfl,rfl,hq,he,q⟩:=h;cases rx;obtain⟨t,rfl⟩:=ry;obtain⟨its,r,pl,hz⟩:=I.tuple hq;obtain⟨j,h1,h2,h3,h4,h5⟩:=QgT he;obtain⟨w,ew,rw'⟩:=r.get h2;have hl:=r.length;have hn:=Qeb;have fin:EP X pins σ Q w s:=⟨z,H,I,rw',q⟩;exact QrD (x:=w) pl.typeIs slot_tuple_getitem.lookup
  (getItem_tuple (j:=j) (Q:=λr s'=>r=w/\EP X pins σ Q r s') pl (by omega) (by omega) (by rw[Ql,<- hl];exact h1) (by simpa using ew) ⟨rfl,fin⟩) hs
theorem Qne:IxR X QBO:=by
 intro value slice pins s σ H x y v u Q I rx ry h hs;obtain⟨z,i,c,rfl,rfl,hz,he,q⟩:=h;obtain⟨t,rfl⟩:=rx;obtain⟨t',rfl⟩:=ry;obtain⟨j,h1,h2,h3,h4,h5⟩:=QgT he;have hl:z.cps.toList.length=z.length:=by simp[Str.length]
 rw[hl] at h1 h4 h5;have hn:=Qeb;exact tail_any (QcE s z t) slot_str_getitem.lookup (getItem_str (c:=c) (by
  have e1:decide (i < -(2^63:Int))=false:=decide_eq_false (by omega);have e2:decide (i≥2^63)=false:=decide_eq_false (by omega);rw[e1,e2,Bool.or_false]) (by rw[h1];simpa using h2) ⟨.str ⟨#[c]⟩,H,I.tok _,⟨_,rfl⟩,q⟩) hs
theorem QkH(its:List Value)(n j:Nat)(u:Value):YH (·.setIfInBounds j u) { cls:=.type "list",data:=.seq its.toArray n }={ cls:=.type "list",data:=.seq (its.set j u).toArray n }:=by
 simp[YH]
theorem Inv.lst{pins:List (Addr×Obj)}{σ:St}{H:Hp}{s:Shared}{p:Addr}{xs:List V}(I:Inv X pins σ H s)(h:H p=some (.lst xs)) :
  ∃(its:List Value)(n:Nat),Vals xs its/\s.heap.get? p=some { cls:=.type "list",data:=.seq its.toArray n }/\xs.length<=sizeLine:=by
 obtain⟨z,its,n,r,e⟩:=I.hok p _ h;exact⟨its,n,r,e,z⟩
theorem Inv.lstUpd{pins:List (Addr×Obj)}{σ:St}{H:Hp}{s:Shared}{p:Addr}{xs ys:List V}{its its':List Value}{n n':Nat}{f:Obj->Obj}(I:Inv X pins σ H s)(h:H p=some (.lst xs))
  (ho:s.heap.get? p=some { cls:=.type "list",data:=.seq its.toArray n })(hf:f { cls:=.type "list",data:=.seq its.toArray n }={ cls:=.type "list",data:=.seq its'.toArray n' })(r:Vals ys its')(hz:ys.length<=sizeLine)(t:Nat) :
  Inv X pins σ (upd H p (.lst ys)) { s with heap:=s.heap.update p f,toks:=t }:=by
 have e:(s.heap.update p f).get? p=some { cls:=.type "list",data:=.seq its'.toArray n' }:=by
  rw[Heap.get?_update_self f ho (by rw[hf]<;>rfl),hf]
 refine I.write (x:=p) (e:=p) (by rw[h];trivial) (.inl rfl) (λb u hb q=>(Qkg _ _ (Qb1 hb)).trans q) ⟨_,e⟩ ?_
 exact⟨hz,its',n',r,e⟩
def QtL:V->V->V->Hp->(Hp->Prop)->Prop:=λo i v H Q=>∃p xs k j,o=.ref p/\i=.int k/\H p=some (.lst xs)/\ixN xs.length k=some j/\Q (upd H p (.lst (xs.set j v)))
theorem Qeq:QBw X QtL:=by
 intro pins s σ H o i v ov iv u Q I ro ri rv h;obtain⟨p,xs,k,j,rfl,rfl,hp,hj,q⟩:=h;cases ro;obtain⟨t,rfl⟩:=ri;obtain⟨its,n,r,ho,hz⟩:=I.lst hp;obtain⟨h1,h2,h3,h4⟩:=Qnf hj;have hl:=r.length;have hn:=Qeb;have I':Inv X pins σ (upd H p (.lst (xs.set j v))) { s with heap:=s.heap.update p (YH (·.setIfInBounds j u)) }:=
  I.lstUpd hp ho (QkH its n j u) (r.set rv j) (by rw[ZH];exact hz) s.toks
 by_cases h0:0<=k
 ·have hk:k.toNat=j:=by
   rw[Qj8 h0 h4] at h1;exact QH h1
  exact PySem.W.ki_setAt ho h0 (by omega) (by rw[Ql,<- hl];exact h4) (by rw[hk];exact⟨_,I',q⟩)
 ·have hk:(k+(its.toArray.size:Int)).toNat=j:=by
   rw[Qh7 (by omega) h3] at h1;rw[Ql,<- hl];exact QH h1
  exact PySem.W.ki_setBack ho (by omega) (by rw[Ql,<- hl];exact h3) (by omega) (by rw[hk];exact⟨_,I',q⟩)
theorem Qhn(lo hi:Option Int)(n:Nat):(sliceBounds lo hi none n).1=((HT.sIx n 0 lo:Nat):Int)/\(sliceBounds lo hi none n).2.1=((HT.sIx n n hi:Nat):Int)/\(sliceBounds lo hi none n).2.2=1:=by
 refine⟨?_,?_,rfl⟩
 ·cases lo with
  |none=>simp[sliceBounds,HT.sIx]
  |some i=>
   simp only[sliceBounds,HT.sIx,Qou,show(1:Int) > 0 by decide,if_true];by_cases h:i<0
   ·simp only[h,if_true]<;>omega
   ·simp only[h,if_false]<;>omega
 ·cases hi with
  |none=>simp[sliceBounds,HT.sIx]
  |some i=>
   simp only[sliceBounds,HT.sIx,Qou,show(1:Int) > 0 by decide,if_true];by_cases h:i<0
   ·simp only[h,if_true]<;>omega
   ·simp only[h,if_false]<;>omega
theorem Qgm(its:List Value)(lo hi:Option Int):slicePick its.toArray lo hi none=((its.drop (HT.sIx its.length 0 lo)).take (HT.sIx its.length its.length hi - HT.sIx its.length 0 lo)).toArray:=by
 obtain⟨h1,h2,h3⟩:=Qhn lo hi its.toArray.size;unfold slicePick;rw[h1,h2,h3];simp only[sliceRange_one,pick_run,Ql]<;>rfl
def QCB(K:PySem.W.Frag):V->Option Int->Option Int->Hp->VK->Prop:=λx lo hi H Q=>∃a xs,x=.ref a/\SqL K H a xs/\∀p,H p=none->Q (.ref p) (upd H p (.lst (QhS xs lo hi)))
theorem QtA:SlR X (QCB X.K):=by
 intro pins s σ H x v vl vu lo hi sl Q I rx hs pl pu h;obtain⟨a,xs,rfl,hx,q⟩:=h;cases rx;obtain⟨its,r,ht,hz⟩:=I.list hx;have hlen:=r.length;refine⟨"list",_,QzO.lookup,ht.isList.typeIs,?_⟩;refine wpAny_getItem_list_slice ht.isList hs pl pu .none (by simp) ?_ (by rw[Ql]<;>omega)
 rw[Qgm,<- hlen];refine⟨.ref s.heap.objs.size,_,I.laid (t':=s.toks) (o:=.lst (QhS xs lo hi)) (λb ob q=>Qh _ q) (Qf _) ?_,rfl,q _ (I.hok.fresh (Qf _))⟩;exact⟨Qt (Qfa xs lo hi) hz,_,0,(r.drop (HT.sIx xs.length 0 lo)).take (HT.sIx xs.length xs.length hi - HT.sIx xs.length 0 lo),QD _ rfl⟩
def QfE:V->Bool
 |.non=>true
 |.bl _=>true
 |.int _=>true
 |.str _=>true
 |_=>false
def eqV:V->V->Bool
 |.non,.non=>true
 |.bl a,.bl b=>a == b
 |.bl a,.int b=>(if a then 1 else 0) == b
 |.int a,.bl b=>a == (if b then 1 else 0)
 |.int a,.int b=>a == b
 |.str a,.str b=>a == b
 |_,_=>false
theorem QyC{A:Q1}{s:Shared}{y x:V}{u v:Value}(ry:RelV y u)(rx:RelV x v)(fy:QfE y=true)(fx:QfE x=true):Qop A s u v (eqV y x):=by
 cases y with
 |non=>
  cases ry;cases x with
  |non=>cases rx;exact SeqAt.EqAt.same _
  |bl b=>cases rx;exact SeqAt.EqAt.none_bool b
  |int b=>obtain⟨t,rfl⟩:=rx;exact SeqAt.EqAt.none_int b t
  |str b=>obtain⟨t,rfl⟩:=rx;exact SeqAt.EqAt.none_str b t
  |_=>exact absurd (show false=true from fx) Qp
 |bl a=>
  cases ry;cases x with
  |non=>cases rx;exact SeqAt.EqAt.bool_none a
  |bl b=>cases rx;exact Qch a b
  |int b=>obtain⟨t,rfl⟩:=rx;exact SeqAt.EqAt.bool_int a b t
  |str b=>obtain⟨t,rfl⟩:=rx;exact SeqAt.EqAt.bool_str a b t
  |_=>exact absurd (show false=true from fx) Qp
 |int a=>
  obtain⟨t',rfl⟩:=ry;cases x with
  |non=>cases rx;exact SeqAt.EqAt.int_none a t'
  |bl b=>cases rx;exact SeqAt.EqAt.int_bool a t' b
  |int b=>obtain⟨t,rfl⟩:=rx;exact SeqAt.EqAt.int_int a t' b t
  |str b=>obtain⟨t,rfl⟩:=rx;exact Qif a t' b t
  |_=>exact absurd (show false=true from fx) Qp
 |str a=>
  obtain⟨t',rfl⟩:=ry;cases x with
  |non=>cases rx;exact SeqAt.EqAt.str_none a t'
  |bl b=>cases rx;exact SeqAt.EqAt.str_bool a t' b
  |int b=>obtain⟨t,rfl⟩:=rx;exact Qie a t' b t
  |str b=>obtain⟨t,rfl⟩:=rx;exact SeqAt.EqAt.str_str a t' b t
  |_=>exact absurd (show false=true from fx) Qp
 |_=>exact absurd (show false=true from fy) Qp
def eqU(x:V)(u:Value):Bool:=match u with
 |.none=>eqV .non x
 |.bool b=>eqV (.bl b) x
 |.int i _=>eqV (.int i) x
 |.str z _=>eqV (.str z) x
 |_=>false
theorem QsL{x y:V}{u:Value}(r:RelV y u)(f:QfE y=true):eqU x u=eqV y x:=by
 cases y with
 |non=>cases r;rfl
 |bl b=>cases r;rfl
 |int i=>obtain⟨t,rfl⟩:=r;rfl
 |str z=>obtain⟨t,rfl⟩:=r;rfl
 |_=>exact absurd (show false=true from f) Qp
theorem Qfj{x:V}:∀{xs:List V}{us:List Value},Vals xs us->xs.all QfE=true->us.any (eqU x)=xs.any λy=>eqV y x
 |_,_,.nil,_=>rfl
 |y::xs,u::us,.cons r t,f=>by
  rw[Qcj,JY] at f;rw[Qap,Qap,QsL r f.1,Qfj t f.2]
theorem Qdl{A:Q1}{s:Shared}{x:V}{v:Value}(rx:RelV x v)(fx:QfE x=true):∀{xs:List V}{us:List Value},Vals xs us->xs.all QfE=true->∀u∈us,Qop A s u v (eqU x u)
 |_,_,.nil,_=>λu hu=>by cases hu
 |y::xs,u::us,.cons r t,f=>λu' hu=>by
  rw[Qcj,JY] at f;rcases QM.mp hu with rfl | hu
  ·rw[QsL r f.1];exact QyC r rx f.1 fx
  ·exact Qdl rx fx t f.2 u' hu
def inV(x:V)(xs:List V):Bool:=xs.any λy=>eqV y x
def rIn(K:PySem.W.Frag)(neg:Bool):R2:=λx y H Q=>∃p xs,y=.ref p/\(SqL K H p xs∨SqT K H p xs)/\QfE x=true/\xs.all QfE=true/\Q (.bl (if neg then !inV x xs else inV x xs)) H
theorem Qdg:OpR X (compareOp .In) (rIn X.K false):=by
 intro pins s σ H x y v u Q I rx ry h;obtain⟨p,xs,rfl,hq,fx,fs,q⟩:=h;cases ry;rcases hq with hq | hq
 ·obtain⟨its,r,pl,hz⟩:=I.list hq;refine Qtb (eqU x) pl.isList (λw hw=>Qdl rx fx r fs w (by simpa using hw)) ⟨.bl _,H,I,rfl,?_⟩;rw[show its.toArray.any (eqU x)=its.any (eqU x) by simp,Qfj r fs];exact q
 ·obtain⟨its,r,pl,hz⟩:=I.tuple hq;refine QrE (eqU x) pl (λw hw=>Qdl rx fx r fs w (by simpa using hw)) ⟨.bl _,H,I,rfl,?_⟩;rw[show its.toArray.any (eqU x)=its.any (eqU x) by simp,Qfj r fs];exact q
theorem Qd9:OpR X (compareOp .NotIn) (rIn X.K true):=by
 intro pins s σ H x y v u Q I rx ry h;obtain⟨p,xs,rfl,hq,fx,fs,q⟩:=h;cases ry;rcases hq with hq | hq
 ·obtain⟨its,r,pl,hz⟩:=I.list hq;refine Qoc (eqU x) pl.isList (λw hw=>Qdl rx fx r fs w (by simpa using hw)) ⟨.bl _,H,I,rfl,?_⟩;rw[show its.toArray.any (eqU x)=its.any (eqU x) by simp,Qfj r fs];exact q
 ·obtain⟨its,r,pl,hz⟩:=I.tuple hq;refine Qlg (eqU x) pl (λw hw=>Qdl rx fx r fs w (by simpa using hw)) ⟨.bl _,H,I,rfl,?_⟩;rw[show its.toArray.any (eqU x)=its.any (eqU x) by simp,Qfj r fs];exact q
theorem QhA:OpR X (compareOp .NotIn) (λx y H Q=>∃i j,x=.str i/\y=.str j/\Q (.bl (!(!(ZY j i 0 j.length 1).isEmpty))) H):=by
 intro pins s σ H x y v u Q I rx ry h;obtain⟨i,j,rfl,rfl,q⟩:=h;obtain⟨t,rfl⟩:=rx;obtain⟨t',rfl⟩:=ry;exact notIn_str ⟨.bl _,H,I,rfl,q⟩
theorem Z0:CallR X (.builtin "len") (λxs H Q=>∃p ys,xs=[.ref p]/\(SqL X.K H p ys∨SqT X.K H p ys)/\Q (.int ys.length) H):=by
 intro pins s σ H xs us Q I r h;obtain⟨p,ys,rfl,hq,q⟩:=h;obtain⟨u,rfl,rx⟩:=vals1 r;cases rx;have hn:=Qeb;rcases hq with hq | hq
 ·obtain⟨its,r',pl,hz⟩:=I.list hq;have hlen:=r'.length;exact Calls.call_len_list pl.isList (by simp only[Ql]<;>omega) ⟨.int ys.length,H,I.tok _,⟨s.toks+1,by rw[Ql,hlen]⟩,q⟩
 ·obtain⟨its,r',pl,hz⟩:=I.tuple hq;have hlen:=r'.length;exact len_tuple pl (by simp only[Ql]<;>omega) ⟨.int ys.length,H,I.tok _,⟨s.toks+1,by rw[Ql,hlen]⟩,q⟩
theorem Qbk:CallR X (.builtin "len") (λxs H Q=>∃z,xs=[.str z]/\z.length<=sizeLine/\Q (.int z.length) H):=by
 intro pins s σ H xs us Q I r h;obtain⟨z,rfl,hz,q⟩:=h;obtain⟨u,rfl,t,rfl⟩:=vals1 r;have hn:=Qeb;exact len_str (by omega) ⟨.int z.length,H,I.tok _,⟨_,rfl⟩,q⟩
theorem Qh0:CallR X (.type "list") (λxs H Q=>∃p ys,xs=[.ref p]/\(SqL X.K H p ys∨SqT X.K H p ys)/\∀l,H l=none->Q (.ref l) (upd H l (.lst ys))):=by
 intro pins s σ H xs us Q I r h;obtain⟨p,ys,rfl,hq,q⟩:=h;obtain⟨u,rfl,rx⟩:=vals1 r;cases rx;have fin:∀(its:List Value),Vals ys its->ys.length<=sizeLine->∀(h':JS)(c':Nat),(∀b o',s.heap.get? b=some o'->h'.get? b=some o') ->
   h'.get? s.heap.objs.size=some { cls:=.type "list",dict:=none,data:=.seq its.toArray c',slots:=#[] }->EP X pins σ Q (.ref s.heap.objs.size) { s with heap:=h' }:=λits r' hz h' c' kp e=>
  ⟨.ref s.heap.objs.size,_,I.laid (t':=s.toks) kp (Qf _) (show ObjOk X.prog X.w _ h' _ (.lst ys) from⟨hz,its,c',r',e⟩),rfl,q _ (I.hok.fresh (Qf _))⟩
 rcases hq with hq | hq
 ·obtain⟨its,r',pl,hz⟩:=I.list hq;have hlen:=r'.length;obtain⟨o,ho,hc,n,hd⟩:=pl.isList;exact call_list_seq p (.inl rfl) ho hc hd (λh' c' kp e=>fin its r' hz h' c' kp e) (by simp only[Ql]<;>omega)
 ·obtain⟨its,r',pl,hz⟩:=I.tuple hq;have hlen:=r'.length;obtain⟨o,ho,hc,n,hd⟩:=pl;exact call_list_seq p (.inr rfl) ho hc hd (λh' c' kp e=>fin its r' hz h' c' kp e) (by simp only[Ql]<;>omega)
theorem QgQ:CallR X (.type "tuple") (λxs H Q=>∃p ys,xs=[.ref p]/\((SqL X.K H p ys/\∀l,H l=none->Q (.ref l) (upd H l (.tup ys)))∨(SqT X.K H p ys/\Q (.ref p) H))):=by
 intro pins s σ H xs us Q I r h;obtain⟨p,ys,rfl,h⟩:=h;obtain⟨u,rfl,rx⟩:=vals1 r;cases rx;rcases h with⟨hq,q⟩ | ⟨hq,q⟩
 ·obtain⟨its,r',pl,hz⟩:=I.list hq;have hlen:=r'.length;refine call_tuple_list pl.isList (λh' kp=>?_) (by simp only[Ql]<;>omega);have I1:Inv X pins σ H { s with heap:=h' }:=I.kept (t':=s.toks) kp;have I2:Inv X pins σ (upd H h'.objs.size (.tup ys)) { s with heap:=h'.push { cls:=.type "tuple",data:=.seq its.toArray } }:=
   I1.laid (t':=s.toks) (λb o e=>Qh _ e) (Qf _) (show ObjOk X.prog X.w _ _ _ (.tup ys) from⟨hz,its,r',TupN.new _ _⟩)
  exact⟨.ref h'.objs.size,_,I2,rfl,q _ (I1.hok.fresh (Qf _))⟩
 ·obtain⟨its,r',pl,hz⟩:=I.tuple hq;exact call_tuple_same pl ⟨.ref p,H,I,rfl,q⟩
def tyV(K:PySem.W.Frag)(T:String)(x:V)(H:Hp):Prop:=match x with
 |.str _=>T = "str"
 |.int _=>T = "int"
 |.ref p=>(T = "list" /\ ∃xs,SqL K H p xs)∨(T = "tuple" /\ ∃o,K.lookup p=some o/\o.cls=.type "tuple" /\ o.dict=none) ∨
   (T = "dict" /\ ((∃kvs,H p=some (.dK kvs))∨∃kvs,H p=some (.dT kvs)))∨(T = "set" /\ ∃S n,H p=some (.set S n))
 |_=>False
theorem QrN{pins:List (Addr×Obj)}{σ:St}{H:Hp}{s:Shared}{T:String}{x:V}{v:Value}(I:Inv X pins σ H s)(r:RelV x v)(ty:tyV X.K T x H) :
  s.TypeIs v T/\∀a,v=.ref a->∃ob,s.heap.get? a=some ob/\ob.dict=none:=by
 cases x with
 |str z=>
  obtain⟨t,rfl⟩:=r;cases(show T = "str" from ty);exact⟨QcE s z t,λ_ e=>nomatch e⟩
 |int i=>
  obtain⟨t,rfl⟩:=r;cases(show T = "int" from ty);exact⟨QzN s i t,λ_ e=>nomatch e⟩
 |ref p=>
  cases r;rcases ty with⟨rfl,xs,hq⟩ | ⟨rfl,o,hk,hc,hd⟩ | ⟨rfl,hk⟩ | ⟨rfl,S,n,hk⟩
  ·obtain⟨its,_,pl,_⟩:=I.list hq;refine⟨pl.isList.typeIs,λa e=>?_⟩;cases e;obtain⟨o,n,e,c,hd,_⟩:=pl;exact⟨o,e,hd⟩
  ·refine⟨⟨o,I.kIn p o hk,hc⟩,λa e=>?_⟩;cases e;exact⟨o,I.kIn _ o hk,hd⟩
  ·have z:∃o,s.heap.get? p=some o/\o.ExactDict:=by
    rcases hk with⟨kvs,hk⟩ | ⟨kvs,hk⟩
    ·obtain⟨_,_,_,_,o,_,_,e,ex,_⟩:=I.hok p _ hk;exact⟨o,e,ex⟩
    ·obtain⟨_,_,_,_,o,_,_,e,ex,_⟩:=I.hok p _ hk;exact⟨o,e,ex⟩
   obtain⟨o,e,ex⟩:=z;refine⟨⟨o,e,ex.1⟩,λa e2=>?_⟩;cases e2;exact⟨o,e,ex.2.1⟩
  ·obtain⟨o,_,_,_,e,ex,_⟩:=I.hok p _ hk;refine⟨⟨o,e,ex.1⟩,λa e2=>?_⟩;cases e2;exact⟨o,e,ex.2.1⟩
 |_=>exact Jr ty
def QBF(K:PySem.W.Frag)(T:String)(r:V->List V->Hp->VK->Prop)(to:TE):TE:=λσ H Q=>to σ H λx H1=>tyV K T x H1/\r x [] H1 Q
def tBM(K:PySem.W.Frag)(T:String)(r:V->List V->Hp->VK->Prop)(to:TE)(t:TA):TE:=λσ H Q=>to σ H λx H1=>tyV K T x H1/\t σ H1 λxs H2=>r x xs H2 Q
variable{o e:QV}{es:List QV}{to:TE}{t:TA}{name:Str}{apos cpos:Pos}{T id:String}{r:V->List V->Hp->VK->Prop}
theorem Qmv(pa:PlainAttrs T)(slot:Slot T name id)(hty:typeOf (.builtin id)=pure (.type "method_descriptor"))(hm:MtR X id r)(ho:PE X o to)
  (hbase:attributeBase o name X.env (eval o X.env)=eval o X.env:=by rfl)(hline:(apos.endLine == cpos.line)=true:=by rfl):PE X (.Call (.Attribute o name apos) [] [] cpos) (QBF X.K T r to):=by
 intro pins s σ H Q I h;refine wpAny_Call_method0_late hbase hline (thn (ho pins s σ H _ I h) λv s1 ⟨x,H1,I1,r1,ty,q1⟩=>?_);obtain⟨h1,h2⟩:=QrN I1 r1 ty;exact⟨T,id,pa,slot,hty,h1,h2,Qi5 rfl (PySem.evalArgs_none (hm pins s1 σ H1 x [] v [] Q I1 r1 .nil q1))⟩
theorem Qbb(pa:PlainAttrs T)(slot:Slot T name id)(hty:typeOf (.builtin id)=pure (.type "method_descriptor"))(hm:MtR X id r)(ho:PE X o to)(ha:PA X (e::es) t)
  (hbase:attributeBase o name X.env (eval o X.env)=eval o X.env:=by rfl)
  (hfew:((backTo cpos (starEach (e::es) X.env)).all (λx => !x.1)&&(backToKw cpos (keywordEach [] X.env)).all (λx=>x.1.isSome)
   && decide ((e::es).length+([]:List Qfv).length+(if([]:List Qfv).isEmpty then 0 else 1)<30))=true:=by rfl)
  (hline:(apos.endLine == cpos.line)=true:=by rfl) (hs:starEach (e::es) X.env=(false,eval e X.env)::starEach es X.env:=by rfl) (hplain:(backTo cpos (starEach es X.env)).any (·.1)=false:=by rfl) :
  PE X (.Call (.Attribute o name apos) (e::es) [] cpos) (tBM X.K T r to t):=by
 intro pins s σ H Q I h;refine wpAny_Call_method_late hbase hfew hline rfl (thn (ho pins s σ H _ I h) λv s1 ⟨x,H1,I1,r1,ty,q1⟩=>?_);obtain⟨h1,h2⟩:=QrN I1 r1 ty;refine⟨T,id,pa,slot,hty,h1,h2,?_⟩;have hA:=ha cpos pins s1 σ H1 _ I1 q1;rw[hs] at hA ⊢;refine Qi5 (by show(false||(backTo cpos (starEach es X.env)).any (·.1))=false;rw[hplain]<;>rfl) (Qk8 ?_);exact thn hA λus s2 ⟨vs,H2,I2,r2,q2⟩=>hm pins s2 σ H2 x vs v us Q I2 r1 r2 q2
end
def MtM(X:Cx)(id:String)(r:V->List V->Hp->VK->Prop):Prop:=
 ∀(pins:List (Addr×Obj))(s:Shared)(σ:St)(H:Hp)(x:V)(xs:List V)(v:Value)(us:List Value)(Q:VK),Inv X pins σ H s->RelV x v->Vals xs us->r x xs H Q ->
  wpAny (model X.prog X.w) X.A (call (.builtin id) (v::us)) (EP X pins σ Q) X.xe s
theorem Vals.one:∀{x:V}{us:List Value},Vals [x] us->∃u,us=[u]/\RelV x u
 |_,_,.cons r .nil=>⟨_,rfl,r⟩
theorem Vals.zero:∀{us:List Value},Vals [] us->us=[]
 |_,.nil=>rfl
theorem Vals.dropLast{xs:List V}{us:List Value}(h:Vals xs us):Vals xs.dropLast us.dropLast:=by
 induction h with
 |nil=>exact .nil
 |cons r t ih=>
  cases t with
  |nil=>exact .nil
  |cons q t'=>exact .cons r ih
theorem Vals.rep{xs:List V}{us:List Value}(h:Vals xs us):∀k:Nat,Vals (Jc k xs).flatten (Jc k us).flatten
 |0=>.nil
 |k+1=>by
  rw[Zk,Zk,Z6,Z6];exact Vals.append h (Vals.rep h k)
theorem QkR{α:Type}(l:List α):l.eraseIdx (l.length - 1)=l.dropLast:=by
 induction l with
 |nil=>rfl
 |cons a r ih=>
  cases r with
  |nil=>rfl
  |cons b r=>
   have e:(a::b::r).length - 1=((b::r).length - 1)+1:=by
    have h1:(a::b::r).length=r.length+2:=rfl;have h2:(b::r).length=r.length+1:=rfl;omega
   rw[e,List.eraseIdx_cons_succ,ih]
   all_goals rfl
theorem foldl_rep(its:List Value):∀(k:Nat)(acc:List Value),
  QrG (λx1 x2=>x1++x2) acc.toArray (Jc k its.toArray)=(acc++(Jc k its).flatten).toArray
 |0,acc=>by simp
 |k+1,acc=>by
  have e:acc.toArray++its.toArray=(acc++its).toArray:=by simp
  have e2:(acc++its)++(Jc k its).flatten=acc++(Jc (k+1) its).flatten:=by
   rw[Zk,Z6,List.append_assoc]
  rw[<- e2,<- foldl_rep its k (acc++its),<- e,Zk,Qwc]
section
variable{X:Cx}{pins:List (Addr×Obj)}{σ:St}{H:Hp}{s:Shared}{l b:Addr}{xs ys zs:List V}
theorem Inv.lset{its its':List Value}{n:Nat}{f:Array Value->Array Value}{t':Nat}(I:Inv X pins σ H s)(hH:H l=some (.lst xs))
  (e:s.heap.get? l=some { cls:=.type "list",data:=.seq its.toArray n })(hf:f its.toArray=its'.toArray)(hv:Vals ys its')(hz:ys.length<=sizeLine) :
  Inv X pins σ (upd H l (.lst ys)) { s with heap:=s.heap.update l (YH f),toks:=t' }:=by
 have q:=PySem.IsL.update e f;rw[hf] at q;refine I.write (x:=l) (e:=l) (by rw[hH];exact trivial) (.inl rfl) (λb' u hb hu=>(Qkg s.heap (YH f) (Qb1 hb)).trans hu) ⟨_,q⟩ ?_
 exact⟨hz,its',_,hv,q⟩
theorem Inv.lnew{its:List Value}{t':Nat}(I:Inv X pins σ H s)(hv:Vals ys its)(hz:ys.length<=sizeLine) :
  Inv X pins σ (upd H s.heap.objs.size (.lst ys)) { s with heap:=s.heap.push { cls:=.type "list",data:=.seq its.toArray },toks:=t' }:=
 I.laid (λ_ _ q=>Qh _ q) (Qf _) ⟨hz,its,0,hv,QD _ rfl⟩
theorem Inv.fresh(I:Inv X pins σ H s):H s.heap.objs.size=none:=I.hok.fresh (Qf _)
theorem Inv.lstM(I:Inv X pins σ H s)(hH:H l=some (.lst xs)):xs.length<=sizeLine/\∃(its:List Value)(n:Nat),Vals xs its/\xs.length=its.length/\s.heap.get? l=some { cls:=.type "list",data:=.seq its.toArray n }:=by
 obtain⟨z,its,n,r,e⟩:=I.hok l _ hH;exact⟨z,its,n,r,r.length,e⟩
theorem QjJ{n:Nat}(h:n<=sizeLine):YB n=false:=by
 unfold YB;exact decide_eq_false (by omega)
end
section
variable{X:Cx}
def Qmd:V->List V->Hp->VK->Prop:=λx vs H Q=>∃l xs y,x=.ref l/\vs=[y]/\H l=some (.lst xs)/\xs.length<sizeLine/\Q .non (upd H l (.lst (xs++[y])))
theorem Qcc:MtM X "list.append" Qmd:=by
 intro pins s σ H x vs v us Q I rx rv h;obtain⟨l,xs,y,rfl,rfl,hH,hz,q⟩:=h;cases rx;obtain⟨u,rfl,ru⟩:=rv.one;obtain⟨z,its,n,r,hl,e⟩:=I.lstM hH;refine YT F.slot_list_append ⟨_,e,rfl⟩ F.entry_list_append (F.args_list_append_2 _ _) (PySem.list_append l its.toArray n u (by rw[Ql];omega)) ⟨e,?_⟩;refine⟨.non,_,I.lset (its':=its++[u]) hH e (by simp) (r.append (.cons ru .nil)) ?_,rfl,q⟩;rw[Qj,List.length_singleton];omega
def Qmc:V->List V->Hp->VK->Prop:=λx vs H Q=>∃l b xs zs,x=.ref l/\vs=[.ref b]/\H l=some (.lst xs)/\H b=some (.lst zs)/\xs.length+zs.length<=sizeLine/\Q .non (upd H l (.lst (xs++zs)))
theorem Qm3:MtM X "list.extend" Qmc:=by
 intro pins s σ H x vs v us Q I rx rv h;obtain⟨l,b,xs,zs,rfl,rfl,hH,hB,hz,q⟩:=h;cases rx;obtain⟨u,rfl,ru⟩:=rv.one;cases ru;obtain⟨z,its,n,r,hl,e⟩:=I.lstM hH;obtain⟨z2,its2,n2,r2,hl2,e2⟩:=I.lstM hB;have hsz:its.toArray.size+its2.toArray.size<=sizeLine:=by rw[Ql,Ql];omega
 have hlong:¬(!its.toArray.isEmpty&&YB (its.toArray.size+its2.toArray.size))=true:=by
  rw[QjJ hsz,Qwx];exact Qp
 refine YT F.slot_list_extend ⟨_,e,rfl⟩ F.entry_list_extend (F.args_list_extend_2 _ _)
  (AutoSeq1.list_extend_list_list_0 l its.toArray n b its2.toArray n2 hlong (by rw[Ql];omega) (by omega)) ⟨e,e2,?_⟩
 refine⟨.non,_,I.lset (its':=its++its2) hH e (by simp) (r.append r2) ?_,rfl,q⟩;rw[Qj];omega
def QCC:V->List V->Hp->VK->Prop:=λx vs H Q=>∃l xs y,x=.ref l/\vs=[]/\H l=some (.lst xs)/\xs[xs.length - 1]? = some y/\Q y (upd H l (.lst xs.dropLast))
theorem Qsw:MtM X "list.pop" QCC:=by
 intro pins s σ H x vs v us Q I rx rv h;obtain⟨l,xs,y,rfl,rfl,hH,hy,q⟩:=h;cases rx;have hus:=rv.zero;subst hus;obtain⟨z,its,n,r,hl,e⟩:=I.lstM hH;obtain⟨u,hu,ru⟩:=r.get hy;have hy':its.toArray[its.toArray.size - 1]? = some u:=by
  show its.toArray[its.length - 1]? = some u;rw[<- Qkl,<- hl];exact hu
 refine YT F.slot_list_pop ⟨_,e,rfl⟩ F.entry_list_pop (F.args_list_pop_1 _) (MeetsSeq.list_pop_last l its.toArray n u hy' (by rw[Ql];omega)) ⟨e,?_⟩;refine⟨y,_,I.lset (its':=its.dropLast) hH e ?_ r.dropLast ?_,ru,q⟩
 ·show its.toArray.eraseIdxIfInBounds (its.toArray.size - 1)=its.dropLast.toArray;rw[Ql,List.eraseIdxIfInBounds_toArray,QkR]
 ·rw[Qln];omega
def QBT:R2:=λx y H Q=>∃l b xs zs,x=.ref l/\y=.ref b/\H l=some (.lst xs)/\H b=some (.lst zs)/\xs.length+zs.length<=sizeLine/\∀p,H p=none->Q (.ref p) (upd H p (.lst (xs++zs)))
theorem Qsr:OpR X (binaryOp .Add) QBT:=by
 intro pins s σ H x y v u Q I rx ry h;obtain⟨l,b,xs,zs,rfl,rfl,hH,hB,hz,q⟩:=h;cases rx;cases ry;obtain⟨z,its,n,r,hl,e⟩:=I.lstM hH;obtain⟨z2,its2,n2,r2,hl2,e2⟩:=I.lstM hB;refine PySem.P.add_list e e2 ?_ (by rw[Ql,Ql];omega)
 have ea:its.toArray++its2.toArray=(its++its2).toArray:=by simp
 rw[ea];exact⟨.ref _,_,I.lnew (t':=s.toks) (r.append r2) (by rw[Qj];omega),rfl,q _ I.fresh⟩
def QBK:R2:=λx y H Q=>∃l k xs,x=.ref l/\y=.int k/\H l=some (.lst xs) /\ -(2^63)<=k/\k<2^63/\xs.length*k.toNat<=sizeLine /\
 ∀p,H p=none->Q (.ref p) (upd H p (.lst (Jc k.toNat xs).flatten))
theorem Qvj{α:Type}(xs:List α)(k:Nat):(Jc k xs).flatten.length=k*xs.length:=by
 induction k with
 |zero=>simp
 |succ k ih=>rw[Zk,Z6,Qj,ih,QfG,Nat.add_comm]
theorem Qx0:OpR X (binaryOp .Mult) QBK:=by
 intro pins s σ H x y v u Q I rx ry h;obtain⟨l,k,xs,rfl,rfl,hH,h1,h2,hz,q⟩:=h;cases rx;obtain⟨t,rfl⟩:=ry;obtain⟨z,its,n,r,hl,e⟩:=I.lstM hH;have hlen:its.toArray.size*k.toNat<=sizeLine:=by rw[Ql,<- hl];exact hz
 have hcap:¬its.toArray.size*k.toNat > (2^63 - 1) / 8:=by
  have:(sizeLine:Nat)<=(2^63 - 1) / 8:=by decide
  omega
 have hfit:¬(!Builtin.List.listFitsIndex k)=true:=by
  rw[fitsIndex_both h1 h2];exact Qp
 have hlong:¬YB (its.toArray.size*k.toNat)=true:=by
  rw[QjJ hlen];exact Qp
 have hnew:QrG (λx1 x2=>x1++x2) #[] (Jc (if its.toArray.isEmpty=true then 0 else k.toNat) its.toArray)=(Jc k.toNat its).flatten.toArray:=by
  have f0:∀m:Nat,QrG (λx1 x2=>x1++x2) #[] (Jc m its.toArray)=(Jc m its).flatten.toArray:=λm=>by
   have:=foldl_rep its m [];rw[Qwa] at this;exact this
  rw[f0];cases its with
  |nil=>simp
  |cons a r'=>rw[if_neg (by simp)]
 refine wpAny_binaryOp_repeat_ref (T := "list") (U := "int") (by decide) ⟨_,e,rfl⟩ (λs'=>QzN s' k t) noFill_list_mul F.fills_int_mul QAa repeat_list F.slot_int_index.lookup
  (YT QAa (QzN s k t) F.entry_int_rmul (F.args_int_rmul_2 _ _) (int___rmul___int_list k t l its.toArray n)
   ⟨e,rfl,⟨_,e,rfl⟩,YT F.slot_list_mul ⟨_,e,rfl⟩ F.entry_list_mul (F.args_list_mul_2 _ _) (AutoListH.list___mul___list_int_3 l its.toArray n k t hfit hcap hlong) ⟨e,?_⟩⟩)
 rw[hnew];exact⟨.ref _,_,I.lnew (t':=s.toks) (r.rep k.toNat) (by rw[Qvj,Nat.mul_comm];exact hz),rfl,q _ I.fresh⟩
end
section
variable{prog:Qm}{w:QZ}{A:Q1}{E:Value->Shared->Prop}{s:Shared}
end
section
variable{X:Cx}
end
end L2
namespace Att
open PySem.W PySem.Calls
theorem Qe2{P:Params}{h:JS}:∀(ns:List Int)(vs:List Value),WellAll P h vs (ns.map WData.int)->Qg4 vs ns:=by
 intro ns;induction ns with
 |nil=>
  intro vs w;rw[Qfu] at w;cases w;exact .nil
 |cons n ns ih=>
  intro vs w;rw[JB] at w;cases w with
  |cons a b=>
   cases a;exact .cons _ _ (ih _ b)
theorem QlV{l:OpenLaw}{n:Nat}(hn:l.most=some n){P:Params}{h:JS}{args:List WData}{vals:List Value}
  (hpre:l.row.toRowW.claim.pre args=true)(hwl:WellAll P h vals args) :
  ∃a vs ns,vals=[Jj a]/\args=[WData.list (ns.map WData.int)]/\h.get? a=some { cls:=.type "list",data:=.seq vs.toArray }/\Qg4 vs ns/\ns.length<=n:=by
 have hsh:WShape.hasAll [] args [.list .int]=true:=(pre_splitW hpre).1;have hc:l.pre.holds [] { args:=args }=true:=(pre_splitW hpre).2;obtain⟨d,r,rfl,h1,h2⟩:=hasAllW_cons hsh;obtain rfl:=hasAllW_nil h2;obtain⟨xs,rfl,h3⟩:=hasW_list h1;obtain⟨ns,rfl⟩:=items_int h3;have hlen:ns.length<=n:=by
  unfold OpenLaw.pre at hc;have h4:(WTm.not (.lt (.lit (.int (n:Int))) (.len (.arg 0)))).holds [] { args:=[.list (ns.map .int)] }=true:=by
   have h4:=(holds_andW hc).1;rw[hn] at h4;exact h4
  have h5:=condW_of h4 (w_not (w_lt w_lit (w_len_list (w_arg rfl))));rw[Qc] at h5;refine Nat.le_of_not_lt λq=>?_
  have q':(n:Int)<((ns.length:Nat):Int):=by omega
  first
   |(rw[decide_eq_true q'] at h5;exact absurd h5 (by decide))
   |(simp at h5;omega)
 cases hwl with
 |cons w1 w2=>
  cases w2;cases w1 with
  |list ho hall=>exact⟨_,_,ns,rfl,rfl,ho,Qe2 ns _ hall,hlen⟩
theorem Qmq(l:OpenLaw)(args:List WData):l.row.toRowW.claim.post args (.bool true) args=true:=
 postW_of (r:=l.row.toRowW) (X:=(true == true))
  (show QzR [] (.bool true) .bool=true by first | rfl | decide | simp[QzR,WShape.arms,WShape.armsAll])
  (show(WTm.eq .res (.lit (.bool true))).value [] { args:=args,res:=some (.bool true),after:=args }=some (.bool (true == true)) from w_eq_bool (w_res rfl) w_lit) rfl
theorem QiU{l:OpenLaw}{n:Nat}{q:Qm}{loose:List Str}{XP:(Str->Option Value)->JS->Prop}{YP:QZ->JS->Prop}{d:DefRec}
  (hn:l.most=some n)(hdf:d.params.defaults=[])
  (call:∀(w:QZ)(s₀ s₁:Shared)(mg mb:Str->Option Value)(fa:Addr)(o:Obj)(pm cd doc:Value)(a:Addr)(vs:List Value)(ns:List Int),
   Ground q loose [] XP w s₀ mg mb s₁.heap->YP w s₁.heap ->
   s₁.heap.get? fa=some o->o.data=.func (docDef d.name d.params d.body d.scope pm cd doc)->s₁.heap.CodeRec cd d.name->mg d.name=some (.ref fa) ->
   s₁.heap.get? a=some { cls:=.type "list",data:=.seq vs.toArray }->Qg4 vs ns->ns.length<=n->s₁.gens=#[] ->
   codeAny (model l.prog w) callerA (.call (.ref fa) ⟨[.ref a],[]⟩) (λr s'=>r=.ok (.ret (.bool true))/\OldK s₁.heap s'.heap/\s'.os=s₁.os/\Qei s'.gens) s₁) :
  WalkO q loose XP YP l.row.toRowW d [] (λf vs=>PySem.call f vs):=by
 intro w s₀ s₁ mg mb G Y fa o pm cd doc dV kV ho hd hcd hD hmg hg args vals as hpre hlay hrd hwl hlo;obtain rfl:dV=.none:=Dflts.none hD hdf;obtain rfl:kV=.none:=Dflts.noKw hD;obtain⟨a,vs,ns,rfl,rfl,hobj,hints,hlen⟩:=QlV hn hpre hwl;refine enter_call (Qay (call w s₀ s₁ mg mb fa o pm cd doc a vs ns G Y ho (fd_plain hd) hcd hmg hobj hints hlen hg) λr s' hq=>?_);obtain⟨rfl,h2,h3,h4⟩:=hq;exact⟨.inl ⟨.bool true,.bool true,[],rfl,λ_=>rfl,.bool true,Qmq l _,λ_=>⟨Qz7,λ_ hm=>(nomatch hm)⟩⟩,h2,h3,h4⟩
section
variable{prog:Qm}{w:QZ}{A:Q1}{E:Value->Shared->Prop}{s:Shared}{K:Frag}
end
end Att
namespace L2
theorem Qhc:∀{vs:List Value}{ns:List Int},Qg4 vs ns->Vals (ns.map V.int) vs
 |_,_,.nil=>.nil
 |_,_,.cons n t h=>.cons ⟨t,rfl⟩ (Qhc h)
def QBy(H:Hp):Prop:=∀b,H b=none∨∃o xs,H b=some (.frz o (.lst xs))
theorem Qp1{P:Qm}{w:QZ}{K:PySem.W.Frag}{mg mb:Str->Option Value}{CX:CXT}{k:Nat}{fa a:Addr}{fd:JQ}{x:Str}{sp:Sp}{s₁:Shared}{vs:List Value}{ns:List Int}
  (KX:K.In s₁.heap)(hns:s₁.heap.Ns mainGlobals mg)(hb:s₁.heap.Ns builtinsNs mb)(hbb:∀x:Str,x ≠ "__name__" -> mb x=bootBuiltins x)(hlim:s₁.heap.NoLimit)(hg:s₁.gens=#[])
  (ha:s₁.heap.get? a=some { cls:=.type "list",data:=.seq vs.toArray })(hi:Qg4 vs ns)(hl:ns.length<=sizeLine)(hr:Room k callerA)
  (F:∀base:JS,K.In base->base.Ns mainGlobals mg->FnOk P w K mg base CX k fa fd [x] sp)(hbind:∀(s:Shared)(u:Value),Qfy s fd ⟨[u],[]⟩ [(x,u)])
  (hsp:∀H:Hp,QBy H->SqL K H a (ns.map V.int)->sp [.ref a] H (λv _=>v=.bl true) λ_ _ _=>False)
  (hCX:∀H e s',CX [] H s₁ (λ_ _ _=>False) e s'->False) :
  codeAny (model P w) callerA (.call (.ref fa) ⟨[.ref a],[]⟩) (λr s'=>r=.ok (.ret (.bool true))/\OldK s₁.heap s'.heap/\s'.os=s₁.os/\Qei s'.gens) s₁:=by
 have rv:=Qhc hi;have lenV:=hi.length;have core:∀H:Hp,QBy H->SqL K H a (ns.map V.int)->HOk P w H s₁.heap->(∀b,H b≠none->b=a)->(H a≠none->K.lookup a=none) ->
   codeAny (model P w) callerA (.call (.ref fa) ⟨[.ref a],[]⟩) (λr s'=>r=.ok (.ret (.bool true))/\OldK s₁.heap s'.heap/\s'.os=s₁.os/\Qei s'.gens) s₁:=by
  intro H hO hS hok hA hK;have base_of:∀{b:Addr}{o:Obj},s₁.heap.get? b=some o->H b=none->(Qp8 s₁.heap H).get? b=some o:=λe n=>Qp7 e n
  have noA:∀{b:Addr}{o:Obj}{es:Array Qki}{ep:Nat},s₁.heap.get? b=some o->o.data=.dict es ep->H b=none:=λ{b o es ep} e d=>by
   cases q:H b with
   |none=>rfl
   |some u=>
    have e':b=a:=hA b (by rw[q];simp);subst e';rw[ha] at e;cases e;have d':Data.seq vs.toArray _=Data.dict es ep:=d;cases d'
  have nsK:∀{b:Addr}{m:Str->Option Value},s₁.heap.Ns b m->(Qp8 s₁.heap H).Ns b m:=λ{b m} ⟨o,es,ep,e,d,r⟩=>⟨o,es,ep,base_of e (noA e d),d,r⟩
  have hKb:K.In (Qp8 s₁.heap H):=λb o e=>base_of (KX b o e) (by
   cases q:H b with
   |none=>rfl
   |some u=>
    have e':b=a:=hA b (by rw[q];simp);subst e';rw[hK (by rw[q];simp)] at e;cases e)
  have hM:Mod K mg (Qp8 s₁.heap H):=⟨hKb,nsK hns,⟨mb,nsK hb,hbb⟩,let ⟨mc,h1,h2⟩:=hlim;⟨mc,nsK h1,h2⟩⟩;have e0:Env0 P w K mg (Qp8 s₁.heap H) callerA [] s₁ H:=⟨rfl,hM,λb o e=>Qu3 e,YA (Qnn _ _),trivial,λb hb=>absurd (show b∈([]:List Addr) from hb) (by simp),hok,.of_eq hg⟩;refine Qay ((F _ hKb (nsK hns)).run callerA [] s₁ H ⟨[.ref a],[]⟩ [.ref a] [.ref a] _ _ hr e0 (hbind s₁ (.ref a)) (.cons rfl .nil) (hsp H hO hS)) λr s' h=>?_
  cases r with
  |error e=>exact(hCX H e s' h).elim
  |ok fl=>
   cases fl with
   |next=>exact Jr h
   |brk=>exact Jr h
   |cont=>exact Jr h
   |ret u=>
    obtain⟨v,H',os,bare,un,hok',r',q⟩:=h;have q':v=.bl true:=q;subst q';obtain rfl:u=ZM true:=r';refine⟨rfl,OldK.of_keep λb o e=>?_,os,bare⟩;cases q:H b with
    |none=>exact un.keep b o e q (by intro z;exact absurd (show b∈([]:List Addr) from z) (by simp)) (by simp)
    |some u=>
     rcases hO b with z | ⟨ob,xs,z⟩
     ·rw[q] at z;cases z
     ·have z2:=un.frzs b ob _ z;obtain⟨e1,_⟩:=hok b _ z;obtain⟨e2,_⟩:=hok' b _ z2;rw[e] at e1;cases e1;exact e2
 cases hk:K.lookup a with
 |some o=>
  have e:=KX a o hk;rw[ha] at e;cases e;refine core (λ_=>none) (λ_=>.inl rfl) (.inr ⟨_,vs.toArray,_,hk,rfl,rfl,rfl,by rw[Ql,lenV];exact hl,by simpa using rv⟩) (λb u z=>by have z':(none:Option HO)=some u:=z;cases z') (λb z=>absurd rfl z) λz=>absurd rfl z
 |none=>
  refine core (λb=>if b=a then some (.frz { cls:=.type "list",data:=.seq vs.toArray } (.lst (ns.map V.int))) else none) (λb=>?_) (.inl (.inr ⟨{ cls:=.type "list",data:=.seq vs.toArray },if_pos rfl⟩)) (λb u z=>?_) (λb z=>?_) λ_=>hk
  ·by_cases hb:b=a
   ·exact .inr ⟨_,_,if_pos hb⟩
   ·exact .inl (if_neg hb)
  ·by_cases hb:b=a
   ·have z':=(if_pos hb).symm.trans z;cases z';subst hb;exact⟨ha,by rw[Qc];exact hl,vs,_,rv,ha⟩
   ·have z':=(if_neg hb).symm.trans z;cases z'
  ·by_cases hb:b=a
   ·exact hb
   ·exact absurd (if_neg hb) z
theorem Qtq{l:PySem.W.OpenLaw}{n k:Nat}{q:Qm}{loose:List Str}{XP:(Str->Option Value)->JS->Prop}{YP:QZ->JS->Prop}{d:DefRec}{K:Params->PySem.W.Frag}{CX:QZ->CXT}{sp:QZ->Sp}{x:Str}
  (hn:l.most=some n)(hn2:n<=sizeLine)(hdf:d.params.defaults=[])(hr:Room k callerA)
  (hY:∀(w:QZ)(h:JS),YP w h->(K w.params).In h)
  (F:∀(w:QZ)(mg:Str->Option Value)(fa:Addr)(h:JS),(K w.params).In h->h.Ns mainGlobals mg->mg d.name=some (.ref fa) ->
   ∃fd:JQ,(∀(s:Shared)(u:Value),Qfy s fd ⟨[u],[]⟩ [(x,u)]) /\
    ∀base:JS,(K w.params).In base->base.Ns mainGlobals mg->FnOk l.prog w (K w.params) mg base (CX w) k fa fd [x] (sp w))
  (hsp:∀(w:QZ)(H:Hp)(a:Addr)(ns:List Int),ns.length<=n->QBy H->SqL (K w.params) H a (ns.map V.int)->sp w [.ref a] H (λv _=>v=.bl true) λ_ _ _=>False)
  (hCX:∀(w:QZ)(H:Hp)(s:Shared)(e:Value)(s':Shared),CX w [] H s (λ_ _ _=>False) e s'->False) :
  PySem.W.WalkO q loose XP YP l.row.toRowW d [] (λf vs=>PySem.call f vs):=by
 refine Att.QiU hn hdf λw s₀ s₁ mg mb fa o pm cd doc a vs ns G Y ho hd hcd hmg hobj hints hlen hg=>?_
 have KX:=hY w _ Y;obtain⟨fd,hb,hF⟩:=F w mg fa _ KX G.T.g hmg;exact Qp1 KX G.T.g G.T.b G.T.builtins G.T.nolimit hg hobj hints (Qt hlen hn2) hr hF hb (λH hO hS=>hsp w H a ns hlen hO hS) λH e s'=>hCX w H s₁ e s'
def Y4(s:J7)(j:Nat):J7:=match s with
 |.ClassDef _ _ _ body _ _ _ _ _ _ _=>body.getD j (.Pass ⟨0,0,0,0⟩)
 |_=>.Pass ⟨0,0,0,0⟩
def QcO(s:J7):Arguments:=match s with
 |.FunctionDef _ a _ _ _ _ _ _ _ _=>a
 |_=>{ posonlyargs:=[],args:=[],vararg:=none,kwonlyargs:=[],kw_defaults:=[],kwarg:=none,defaults:=[] }
def ZU(s:J7):List J7:=match s with
 |.FunctionDef _ _ b _ _ _ _ _ _ _=>b
 |_=>[]
def QU(s:J7):Qai:=match s with
 |.FunctionDef _ _ _ _ _ _ sc _ _ _=>sc
 |_=>{ kind:=.function,names:=[],isGenerator:=false,isCoroutine:=false }
abbrev CX0:CXT:=λ_ _ _ _ _ _=>False
abbrev E0:XK:=λ_ _ _=>False
theorem Qdf{X:Cx}:Y8 CX0 X E0:=λ_ _ _ _ _ _ _ h=>h.elim
structure Fun (K:PySem.W.Frag) (x qual:Str) (st:J7) (f:Addr) (fd:JQ):Prop where
 ex:∃(oc:Value)(od:Option Addr)(kV doc pm:Value)(an:Option Addr)(cdv ct:Value)(osl:Array (Option Value)),
  fd=PySem.W.fnOf x qual (QcO st) (ZU st) (QU st) .none kV doc pm an cdv ct/\K.lookup f=some ⟨oc,od,.func fd,osl⟩/\PySem.W.codeIn K cdv qual=true
 kp:PySem.W.keepIn K (.ref f)=true
section
variable{P:Qm}{w:QZ}{K:PySem.W.Frag}{mg:Str->Option Value}{base:JS}
theorem Fun.ok{x qual:Str}{st:J7}{f:Addr}{fd:JQ}{N ps:List Str}{k:Nat}{sp:Sp}(F:Fun K x qual st f fd)(S:Yb N ps (QU st))(len:∀vs H Q E,sp vs H Q E->vs.length=ps.length)
  (hbody:∀(cdv:Value)(A:Q1)(outer:List Env)(s:Shared)(H:Hp)(vs:List V)(Q:VK)(E:XK),Room k (A.deeper (envOfC qual (QU st) s.heap.objs.size f cdv))->sp vs H Q E ->
   ∃t,PSs (cxOf CX0 P w K mg base N qual (QU st) f cdv A outer s H E).nox (ZU st) t/\t { nx:=λ_ H'=>Q .non H',rt:=Q } (start N vs) H):FnOk P w K mg base CX0 (k+1) f fd ps sp:=by
 obtain⟨oc,od,kV,doc,pm,an,cdv,ct,osl,rfl,lk,hcd⟩:=F.ex;refine Qyy lk hcd S len λA outer s H vs Q E hr hsp=>?_
 obtain⟨t,h,q⟩:=hbody cdv A outer s H vs Q E hr hsp;exact⟨t,h.nox,q⟩
theorem Fun.binds{x qual:Str}{st:J7}{f:Addr}{fd:JQ}{ps:List Str}(F:Fun K x qual st f fd)
  (h:∀(kV doc pm:Value)(an:Option Addr)(cdv ct:Value)(us:List Value),us.length=ps.length->bindArgs (PySem.W.fnOf x qual (QcO st) (ZU st) (QU st) .none kV doc pm an cdv ct) ⟨us,[]⟩=pure (ps.zip us)):Binds K fd ps []:=by
 obtain⟨oc,od,kV,doc,pm,an,cdv,ct,osl,rfl,lk,hcd⟩:=F.ex;exact .all (h kV doc pm an cdv ct)
theorem QsJ{x qual:Str}{st:J7}{f:Addr}{oc:Value}{od an:Option Addr}{osl:Array (Option Value)}{kV doc pm cdv ct:Value}(l:K.lookup f=some ⟨oc,od,.func (PySem.W.fnOf x qual (QcO st) (ZU st) (QU st) .none kV doc pm an cdv ct),osl⟩)
  (c:PySem.W.codeIn K cdv qual=true)(k:PySem.W.keepIn K (.ref f)=true):Fun K x qual st f (PySem.W.fnOf x qual (QcO st) (ZU st) (QU st) .none kV doc pm an cdv ct):=⟨⟨oc,od,kV,doc,pm,an,cdv,ct,osl,rfl,l,c⟩,k⟩
end
theorem QA6{A:Q1}{k:Nat}(hr:Room k A):A.units+1<cLine:=Jt (Qox (by decide:1<=64) _) hr.units
theorem QeJ{n:Nat}(h:n<=1000):n<sizeLine:=Jt h (by decide)
section
variable{X:Cx}
theorem pv(i:Nat){x:Str}{pos:Pos}(hN:X.N[i]? = some x:=by rfl)(hv:Vis X.env.scope x:=by first | exact Qx rfl | exact QL (Qx rfl) | exact QL (QL rfl))(hd:(x == ("__debug__" : Str))=false:=by decide)
  (hcd:(x == ("__classdict__" : Str))=false:=by decide):PE X (.Name x pos) (Qbq i):=Qsl hN hv hd hcd
end
theorem Qb0{A B:Prop}(h:B):if false=true then A else B:=by
 rw[if_neg Qp];exact h
theorem QbZ{A B:Prop}(h:A):if true=true then A else B:=by
 rw[if_pos rfl];exact h
theorem QBZ{c A B:Prop}[Decidable c](h1:c->A)(h2:¬c->B):if c then A else B:=by
 by_cases h:c
 ·rw[if_pos h];exact h1 h
 ·rw[if_neg h];exact h2 h
theorem QAY{c A B:Prop}[Decidable c](hc:c)(h:B):if(!decide c)=true then A else B:=by
 rw[decide_eq_true hc];exact Qb0 h
def Same(H H':Hp):Prop:=∀b o,H b=some o->H' b=some o
theorem Same.refl(H:Hp):Same H H:=λ_ _ h=>h
theorem Same.trans{H H1 H2:Hp}(a:Same H H1)(b:Same H1 H2):Same H H2:=λc o h=>b c o (a c o h)
theorem Same.free{H H':Hp}(e:Same H H'){l:Addr}(h:H' l=Qzs):H l=Qzs:=by
 cases q:H l with
 |none=>rfl
 |some o=>
  rw[e l o q] at h;cases h
theorem Same.seq{K:PySem.W.Frag}{H H':Hp}{a:Addr}{xs:List V}(e:Same H H')(h:SqL K H a xs):SqL K H' a xs:=by
 rcases h with(h | ⟨o,h⟩) | h
 ·exact .inl (.inl (e _ _ h))
 ·exact .inl (.inr ⟨o,e _ _ h⟩)
 ·exact .inr h
end L2
set_option maxHeartbeats 4000000
namespace L2
def blk(X:Cx)(M:List Str)(scope:Qai)(cl:List (Str×Addr))(ex:List Addr)(s3:Shared)(H3:Hp)(C:Addr):Cx where
 prog:=X.prog
 w:=X.w
 K:=X.K
 mg:=X.mg
 base:=X.base
 A:=X.A
 N:=M
 s₀:=s3
 H₀:=H3
 env:=compEnvC scope cl C X.env
 outer:=X.stack
 stack:=X.stack
 ex:=ex
 fn:=λ_=>false
 calm:=X.calm
 pn:=[]
 xe:=λ_ _=>False
def Qcp(env:Env):List (Str×Qbd)->List (Str×Addr)->List (Str×Addr)
 |[],acc=>acc
 |(n,k)::r,acc=>Qcp env r (if k=.free then(n,(env.cells.lookup n).getD 0)::acc else acc)
theorem QiN{env:Env}:∀(l:List (Str×Qbd))(acc:List (Str×Addr)),(∀x∈l,x.2=.free->∃c,env.cells.lookup x.1=some c) ->
  (forIn (m:=Sem) l acc λx cs=>(if(x.2 == Jg)=true then do let a <- cellOf env x.1;pure (Zz ((x.1,a)::cs)) else pure (Zz cs)))=pure (Qcp env l acc)
 |[],acc,_=>rfl
 |(n,k)::r,acc,h=>by
  rw[List.forIn_cons];by_cases hk:k=.free
  ·subst hk;obtain⟨c,hc⟩:=h (n,.free) Jl rfl;have e1:cellOf env n=pure c:=by unfold cellOf;rw[hc]
   have e2:Qcp env ((n,.free)::r) acc=Qcp env r ((n,c)::acc):=by
    show Qcp env r (if Jg=.free then(n,(env.cells.lookup n).getD 0)::acc else acc)=_;rw[if_pos rfl,hc];rfl
   rw[e2];show((if(Jg == Jg)=true then do let a <- cellOf env n;pure (Zz ((n,a)::acc)) else pure (Zz acc)) >>= _)=_;rw[if_pos (show(Jg == Jg)=true by decide),e1];exact QiN r _ λx hx=>h x (QX _ hx)
  ·have hb:(k == Jg)=false:=by simpa using hk
   have e2:Qcp env ((n,k)::r) acc=Qcp env r acc:=by
    show Qcp env r (if k=.free then(n,(env.cells.lookup n).getD 0)::acc else acc)=_;rw[if_neg hk]
   rw[e2];show((if(k == Jg)=true then _ else pure (Zz acc)) >>= _)=_;rw[hb,if_neg Qp];exact QiN r _ λx hx=>h x (QX _ hx)
theorem QiO{scope:Qai}{env:Env}(h:∀x∈scope.names,x.2=.free->∃c,env.cells.lookup x.1=some c):closureFor scope env=pure (Qcp env scope.names []):=by
 have e:=QiN (env:=env) scope.names [] h;unfold closureFor;show(forIn scope.names [] _ >>= _)=_;have e':(forIn (m:=Sem) scope.names ([]:List (Str×Addr)) λx cs=>match x with | (name,kind)=>(if(kind == Jg)=true then do let a <- cellOf env name;pure (Zz ((name,a)::cs)) else pure (Zz cs)))=pure (Qcp env scope.names []):=e
 first
  |(rw[e'];rfl)
  |(refine Eq.trans (congrArg (λt=>t >>= _) e') ?_;rfl)
theorem QiP{env:Env}:∀(l:List (Str×Qbd))(acc:List (Str×Addr)),(∀x∈l,x.2=.free->∃c,env.cells.lookup x.1=some c)->(∀x c,acc.lookup x=some c->env.cells.lookup x=some c) ->
  (∀x c,(Qcp env l acc).lookup x=some c->env.cells.lookup x=some c)/\(∀x c,acc.lookup x=some c->(Qcp env l acc).lookup x=some c)/\∀x,(x,Jg)∈l->∃c,(Qcp env l acc).lookup x=some c
 |[],acc,_,ha=>⟨ha,λ_ _ h=>h,λ_ h=>nomatch h⟩
 |(n,k)::r,acc,h,ha=>by
  have hr:∀x∈r,x.2=.free->∃c,env.cells.lookup x.1=some c:=λx hx=>h x (QX _ hx)
  by_cases hk:k=.free
  ·subst hk;obtain⟨c,hc⟩:=h (n,.free) Jl rfl;have e2:Qcp env ((n,.free)::r) acc=Qcp env r ((n,c)::acc):=by
    show Qcp env r (if Jg=.free then(n,(env.cells.lookup n).getD 0)::acc else acc)=_;rw[if_pos rfl,hc];rfl
   rw[e2];have ha':∀x c',((n,c)::acc).lookup x=some c'->env.cells.lookup x=some c':=λx c' q=>by
    rw[Jm] at q;cases hx:x == n with
    |true=>
     rw[hx] at q;have z:c=c':=QH q;have y:x=n:=by simpa using hx
     rw[y,<- z];exact hc
    |false=>rw[hx] at q;exact ha x c' q
   obtain⟨i1,i2,i3⟩:=QiP r ((n,c)::acc) hr ha';refine⟨i1,λx c' q=>?_,λx hx=>?_⟩
   ·refine i2 x c' ?_
    rw[Jm];cases hx:x == n with
    |true=>
     have y:x=n:=by simpa using hx
     have:=ha x c' q;rw[y,hc] at this;exact this
    |false=>exact q
   ·rcases QM.mp hx with z | z
    ·cases z;exact⟨c,i2 n c (by rw[Jm,beq_self_eq_true])⟩
    ·exact i3 x z
  ·have e2:Qcp env ((n,k)::r) acc=Qcp env r acc:=by
    show Qcp env r (if k=.free then(n,(env.cells.lookup n).getD 0)::acc else acc)=_;rw[if_neg hk]
   rw[e2];obtain⟨i1,i2,i3⟩:=QiP r acc hr ha;refine⟨i1,i2,λx hx=>?_⟩;rcases QM.mp hx with z | z
   ·cases z;exact absurd rfl hk
   ·exact i3 x z
theorem Qcn{l:List (Str×Qbd)}{x:Str}{k:Qbd}(h:l.lookup x=some k):(x,k)∈l:=by
 induction l with
 |nil=>cases h
 |cons p r ih=>
  obtain⟨n,q⟩:=p;rw[Jm] at h;cases hx:x == n with
  |true=>
   rw[hx] at h;have y:x=n:=by simpa using hx
   have z:q=k:=QH h;subst y z;exact Jl
  |false=>rw[hx] at h;exact QX _ (ih h)
theorem Qbs{env:Env}:∀{names:List (Str×Qbd)}{x:Str}{k:Qbd},(names.map λ(n,k)=>if(k == Jg&&env.scope.kind == .function&&env.kindOf n == some .cell) then(n,Yt) else(n,k)).lookup x=some k ->
  names.lookup x=some k∨(k=.cell/\names.lookup x=some .free)
 |[],x,k,h=>by cases h
 |(n,q)::r,x,k,h=>by
  have ih:=@Qbs env r x k;rw[JB] at h;have h':Yc x ((if(q == Jg&&env.scope.kind == .function&&env.kindOf n == some .cell)=true then(n,Yt) else(n,q))::_)=some k:=h;cases hx:x == n with
  |true=>
   by_cases hc:(q == Jg&&env.scope.kind == .function&&env.kindOf n == some .cell)=true
   ·rw[if_pos hc,Jm,hx] at h';have z:Yt=k:=QH h';have y:q=.free:=by simp at hc;exact hc.1.1
    refine .inr ⟨z.symm,?_⟩;rw[Jm,hx,y]
   ·rw[if_neg hc,Jm,hx] at h';refine .inl ?_
    rw[Jm,hx];exact h'
  |false=>
   have h2:Yc x (r.map λ(n,k)=>if(k == Jg&&env.scope.kind == .function&&env.kindOf n == some .cell) then(n,Yt) else(n,k))=some k:=by
    by_cases hc:(q == Jg&&env.scope.kind == .function&&env.kindOf n == some .cell)=true
    ·rw[if_pos hc,Jm,hx] at h';exact h'
    ·rw[if_neg hc,Jm,hx] at h';exact h'
   rw[Jm,hx];exact ih h2
theorem relabel_free{env:Env}:∀{names:List (Str×Qbd)}{x:Str},names.lookup x=some .free->(names.map λ(n,k)=>if(k == Jg&&env.scope.kind == .function&&env.kindOf n == some .cell) then(n,Yt) else(n,k)).lookup x=some .cell ∨
   (names.map λ(n,k)=>if(k == Jg&&env.scope.kind == .function&&env.kindOf n == some .cell) then(n,Yt) else(n,k)).lookup x=some .free
 |[],x,h=>by cases h
 |(n,q)::r,x,h=>by
  have ih:=@relabel_free env r x;rw[JB];show Yc x ((if(q == Jg&&env.scope.kind == .function&&env.kindOf n == some .cell)=true then(n,Yt) else(n,q))::_)=some .cell∨Yc x ((if(q == Jg&&env.scope.kind == .function&&env.kindOf n == some .cell)=true then(n,Yt) else(n,q))::_)=some .free;cases hx:x == n with
  |true=>
   rw[Jm,hx] at h;have z:q=Jg:=QH h;subst z;by_cases hc:(Jg == Jg&&env.scope.kind == .function&&env.kindOf n == some .cell)=true
   ·rw[if_pos hc,Jm,hx];exact .inl rfl
   ·rw[if_neg hc,Jm,hx];exact .inr rfl
  |false=>
   rw[Jm,hx] at h;by_cases hc:(q == Jg&&env.scope.kind == .function&&env.kindOf n == some .cell)=true
   ·rw[if_pos hc,Jm,hx];exact ih h
   ·rw[if_neg hc,Jm,hx];exact ih h
def QgO(N:List Str)(sc:Qai)(M:List Str)(scope:Qai)(cap:List (Option Nat)):Bool:=
 cap.length == M.length&&(M.zip cap).all (λ(x,o)=>match o with
  |none=>scope.names.lookup x == some .local
  |some j=>N[j]? == some x&&(scope.names.lookup x == some .free&&(sc.names.lookup x == some .cell||sc.names.lookup x == some .free))) &&
 (scope.kind == .function&&scope.names.all λy=>y.2 != .cell&&((y.2 != .free||(sc.names.lookup y.1 == some .cell||sc.names.lookup y.1 == some .free))&&(y.2 != .local||scope.names.lookup y.1 == some .local)))
def QdU(cap:List (Option Nat))(σ:St):St:=cap.map λo=>match o with
 |none=>none
 |some j=>(σ[j]?).getD none
structure CapOk (N:List Str) (sc:Qai) (M:List Str) (scope:Qai) (cap:List (Option Nat)):Prop where
 len:cap.length=M.length
 own:∀(i j:Nat)(x:Str),M[i]? = some x->cap[i]? = some (some j)->N[j]? = some x/\scope.names.lookup x=some .free/\(sc.names.lookup x=some .cell∨sc.names.lookup x=some .free)
 kind:scope.kind=.function
 cell:∀y∈scope.names,y.2≠.cell
 free:∀y∈scope.names,y.2=.free->sc.names.lookup y.1=some .cell∨sc.names.lookup y.1=some .free
 loc:∀y∈scope.names,y.2=.local->scope.names.lookup y.1=some .local
theorem CapOk.of{N:List Str}{sc:Qai}{M:List Str}{scope:Qai}{cap:List (Option Nat)}(h:QgO N sc M scope cap=true):CapOk N sc M scope cap:=by
 unfold QgO at h;simp only[JY,JA,beq_iff_eq] at h;obtain⟨⟨h1,h2⟩,h3,h4⟩:=h;refine⟨h1,λi j x e1 e2=>?_,h3,λy hy z=>?_,λy hy z=>?_,λy hy z=>?_⟩
 ·have hm:(x,some j)∈M.zip cap:=by
   have:(M.zip cap)[i]? = some (x,some j):=by rw[List.getElem?_zip_eq_some];exact⟨e1,e2⟩
   exact J4 this
  have:=h2 _ hm;simp only[JY,beq_iff_eq,Qwe] at this;exact this
 ·have:=(h4 y hy).1;simp[z] at this
 ·have:=(h4 y hy).2.1
  simpa [z] using this
 ·have:=(h4 y hy).2.2
  simpa [z] using this
section
variable{X:Cx}{pins:List (Addr×Obj)}{σ:St}{H H3:Hp}{s3:Shared}{M:List Str}{scope:Qai}{cap:List (Option Nat)}{fp:List Addr}{h4:JS}{t4:Nat}
theorem Cx.Ok.cells(ok:X.Ok){N:List Str}(c:CapOk N X.env.scope M scope cap):∀y∈scope.names,y.2=.free->∃d,X.env.cells.lookup y.1=some d:=λy hy z=>ok.has y.1 (c.free y hy z)
theorem Qfg(I:Inv X pins σ H3 s3)(c:CapOk X.N X.env.scope M scope cap)(hf:∀b∈fp,FpOk X pins H3 b)(hb:∀b∈fp,b<s3.heap.objs.size)
  (hn:h4.Ns s3.heap.objs.size λ_=>none)(hk:∀b o,s3.heap.get? b=some o->h4.get? b=some o) :
  Inv (blk X M scope (Qcp X.env scope.names []) fp s3 H3 s3.heap.objs.size) [] (QdU cap σ) H3 { s3 with heap:=h4,toks:=t4 }:=by
 obtain⟨c1,c2,c3⟩:=QiP scope.names [] (I.ok.cells c) (λx d q=>by cases q);refine⟨⟨I.ok.mod,c.kind,I.ok.glob,I.ok.blt,Qf _,λx y d e1 e2=>I.ok.inj x y d (c1 x d e1) (c1 y d e2),λx hx=>?_,(λx d z=>nomatch z),I.ok.hd,I.ok.frames,.inl rfl,λb hb'=>?_,I.bs,
  Qt I.ok.bsz I.sz,λb o e z=>?_,λb hb' z=>?_,I.stack,I.stkFree⟩,rfl,I.bare,Un.kept hk,⟨_,hn,λi x v e1 e2 e3=>?_⟩,λx d e=>?_,I.hok.fresh (Qf _),λx d e=>I.freeC x d (c1 x d e),λp hp=>(nomatch hp),I.hok.kept hk,?_⟩
 ·have hx':(relabel scope X.env).names.lookup x=some .cell∨(relabel scope X.env).names.lookup x=some .free:=hx;rcases hx' with q | q
  ·rcases Qbs q with z | ⟨_,z⟩
   ·exact absurd rfl (c.cell _ (Qcn z))
   ·exact c3 x (Qcn z)
  ·rcases Qbs q with z | ⟨z,_⟩
   ·exact c3 x (Qcn z)
   ·cases z
 ·obtain⟨f0,f1,f2,f3,f4,f5⟩:=hf b hb';exact⟨Q2 (hb b hb'),λx d e=>f4 x d (c1 x d e)⟩
 ·obtain⟨f0,f1,f2,f3,f4,f5⟩:=hf b z;rcases f3 with q | q
  ·exact I.ok.noex b o e q
  ·exact absurd (QR (Qs e) (Qt I.ok.bsz q)) (Yg _)
 ·obtain⟨f0,f1,f2,f3,f4,f5⟩:=hf b hb';rcases QM.mp (I.stkSub b z) with q | q
  ·exact f1 q
  ·exact f2 q
 ·have e2':(cap.map λo=>match o with | none=>none | some j=>(σ[j]?).getD none)[i]? = some (some v):=e2;rw[Qz] at e2';cases q:cap[i]? with
  |none=>rw[q] at e2';cases e2'
  |some o=>
   rw[q] at e2';cases o with
   |none=>cases e2'
   |some j=>
    have e4:(σ[j]?).getD none=some v:=QH e2';have e5:σ[j]? = some (some v):=by
     cases r:σ[j]? with
     |none=>rw[r] at e4;cases e4
     |some o=>rw[r] at e4;exact congrArg some e4
    obtain⟨n1,n2,n3⟩:=c.own i j x e1 q;obtain⟨m,hm,hl⟩:=I.loc;obtain⟨u,ru,lk⟩:=hl j x v n1 e5 (n3.elim (λz=>.inr (.inl z)) λz=>.inr (.inr z));refine⟨u,ru,.inr ?_⟩;rcases lk with⟨k1,_⟩ | ⟨_,d,k2,k3⟩
    ·have k1':X.env.scope.names.lookup x=some .local:=k1;rcases n3 with z | z<;>(rw[z] at k1';cases k1')
    ·obtain⟨d',hd'⟩:=c3 x (Qcn n2);have ed:d'=d:=by
      have:=c1 x d' hd';rw[k2] at this;exact(QH this).symm
     subst ed;exact⟨(relabel_free n2:(relabel scope X.env).names.lookup x=some .cell∨(relabel scope X.env).names.lookup x=some .free),d',hd',k3.keeps hk⟩
 ·obtain⟨v,q⟩:=I.cell x d (c1 x d e);exact⟨v,q.keeps hk⟩
 ·show(cap.map _).length=M.length;rw[Qc];exact c.len
theorem QnW{σ':St}{s':Shared}{h':JS}(I:Inv X pins σ H3 s3)(hf:∀b∈fp,FpOk X pins H3 b)(J:Inv (blk X M scope (Qcp X.env scope.names []) fp s3 H3 s3.heap.objs.size) [] σ' H s')(hs:QaN s3.heap.objs.size s'.heap h') :
  Inv X pins σ H { s' with heap:=h' }:=by
 have u:Un (frs X.stack) fp H3 H s3.heap s'.heap:=J.base;have ne:∀b o,s3.heap.get? b=some o->b≠s3.heap.objs.size:=λb o e=>Q2 (Qs e)
 have hC:H s3.heap.objs.size=none:=J.free;refine I.call' (ch:=fp) (s':={ s' with heap:=h' }) J.os ⟨λb o e n hb hx=>(hs.2 b (ne b o e)).trans (u.keep b o e n hb hx),λb o e n hb hx=>?_,u.free,λb o e hx=>?_,u.tups,u.frzs,u.tbls⟩ (λb o e=>?_) J.bare λb hb=>?_
 ·obtain⟨sl,q⟩:=u.slot b o e n hb hx;exact⟨sl,(hs.2 b (ne b o e)).trans q⟩
 ·obtain⟨o',q⟩:=u.there b o e hx;exact⟨o',(hs.2 b (ne b o e)).trans q⟩
 ·refine(J.hok b o e).stay (λc v hc q=>(hs.2 c ?_).trans q) (λ_ q=>q) λ_ _ q=>q
  rintro rfl;rcases hc with z | z
  ·rw[<- z,hC] at e;cases e
  ·rw[hC] at z;cases z
 ·obtain⟨f0,f1,f2,f3,f4,f5⟩:=hf b hb;exact⟨f3,f1,f4,f5⟩
end
def Wk:St->St->Prop
 |[],[]=>True
 |none::a,_::b=>Wk a b
 |some v::a,some u::b=>v=u/\Wk a b
 |_,_=>False
theorem Wk.len:∀{a b:St},Wk a b->a.length=b.length
 |[],[],_=>rfl
 |none::a,_::b,h=>congrArg (·+1) (Wk.len (a:=a) (b:=b) h)
 |some v::a,some u::b,h=>congrArg (·+1) (Wk.len (a:=a) (b:=b) h.2)
 |[],_::_,h=>h.elim
 |some _::_,[],h=>h.elim
 |none::_,[],h=>h.elim
 |some _::_,none::_,h=>h.elim
theorem Wk.get:∀{a b:St},Wk a b->∀(i:Nat) v,a[i]? = some (some v)->b[i]? = some (some v)
 |[],[],_,i,v,h=>by simp at h
 |none::a,x::b,h,0,v,e=>by simp at e
 |none::a,x::b,h,i+1,v,e=>by
  simp only[Qan] at e ⊢;exact Wk.get (a:=a) (b:=b) h i v e
 |some q::a,some u::b,h,0,v,e=>by
  simp only[Qi2] at e ⊢;rw[<- h.1];exact e
 |some q::a,some u::b,h,i+1,v,e=>by
  simp only[Qan] at e ⊢;exact Wk.get (a:=a) (b:=b) h.2 i v e
 |[],_::_,h,_,_,_=>h.elim
 |some _::_,[],h,_,_,_=>h.elim
 |none::_,[],h,_,_,_=>h.elim
 |some _::_,none::_,h,_,_,_=>h.elim
theorem Inv.wk{X:Cx}{pins:List (Addr×Obj)}{σ σ':St}{H:Hp}{s:Shared}(I:Inv X pins σ H s)(h:Wk σ' σ):Inv X pins σ' H s:=I.weak h.len h.get
def Qkq(J:It)(body:V->Hp->(Hp->Prop)->Prop)(Qn:Hp->Prop)(H:Hp):Prop:=
 ∃W:Nat->Nat->Hp->Prop,(∃m,W 0 m H)/\∀i m H2,W i m H2->(J.stop i H2/\Qn H2)∨(J.go i H2/\∀x H3,J.yld i H2 x H3->body x H3 λH6=>∃m',m'<m/\W (i+1) m' H6)
abbrev Act:=(Shared->Prop)->Shared->Prop
def BodyOk(Y:Cx)(σ:St)(act:Act)(b:Hp->(Hp->Prop)->Prop):Prop:=
 ∀(pins:List (Addr×Obj))(s:Shared)(H:Hp)(k:Hp->Prop)(Q:Shared->Prop),Inv Y pins σ H s->b H k->(∀s' H',Inv Y pins σ H' s'->k H'->Q s')->act Q s
theorem Qdu{Y:Cx}{σ:St}{tg:QV}{elt:QV}{gens:List Qga}{scope:Qai}{cpos:Pos}{d:Nat}{it D:Addr}{fp:List Addr}{tn:Nat->JS->Prop}{J:It}{pins:List (Addr×Obj)}{s:Shared}{H:Hp}{body:V->Hp->(Hp->Prop)->Prop}{Qn:Hp->Prop}{R:Qtc->Shared->Prop}{act:Value->Act}
  (hc:Y.calm=true)(T:Turn Y.prog Y.w Y.K tg J fp it tn)(st:tn 0 s.heap)(hf:∀b∈fp,FpOk Y pins H b)
  (hturn:∀(Q:PySem.Fin->Shared->Prop)(E:Value->Shared->Prop)(s:Shared),wpAny (model Y.prog Y.w) Y.A (pyNext (.ref it)) (λr s1=>match r with
   |none=>Q (.done .next) s1
   |some v=>wpAny (model Y.prog Y.w) Y.A (letOwnedTupleGo tg (.ref it) v) (λ_ s2=>act v (λs3=>Q (.again (.compLoop (.ListComp elt gens scope cpos) d (.ref it) (.ref D) Y.env)) s3) s2) E s1) E s ->
   wpAny (model Y.prog Y.w) Y.A (compTurn (.ListComp elt gens scope cpos) d (.ref it) (.ref D) Y.env) Q E s)
  (hact:∀(x:V)(u:Value),RelV x u->BodyOk Y σ (act u) (body x))
  (I:Inv Y pins σ H s)(h:Qkq J body Qn H)(hR:∀s' H',Inv Y pins σ H' s'->Qn H'->R (.ok .next) s') :
  codeAny (model Y.prog Y.w) Y.A (.compLoop (.ListComp elt gens scope cpos) d (.ref it) (.ref D) Y.env) R s:=by
 obtain⟨W,⟨m0,w0⟩,turn⟩:=h;have stat:∀{H':Hp},(∀b∈fp,H' b=none)->∀b∈fp,FpOk Y pins H' b:=λhn b hb=>⟨hn b hb,(hf b hb).2⟩
 refine codeAny_loop rfl (λn s'=>∃i H',Inv Y pins σ H' s'/\tn i s'.heap/\(∀b∈fp,H' b=none)/\W i n H') (λn s3 hI=>?_) m0 ⟨0,H,I,st,λb hb=>(hf b hb).1,w0⟩;show wpAny _ Y.A ((compTurn (.ListComp elt gens scope cpos) d (.ref it) (.ref D) Y.env).onRaise (λx=>do noteFrame x Y.env;theTreesLotGoes x)) _ _ s3;refine wpAny_noted (hturn _ _ _ ?_);obtain⟨i,H3,I3,st3,fr3,w3⟩:=hI;rcases turn i n H3 w3 with⟨stop,qn⟩ | ⟨go,step⟩
 ·refine thn (T.done Y rfl rfl rfl hc i pins s3 σ H3 _ I3 (stat fr3) st3 stop) λr s4 ⟨hr,I4⟩=>?_
  subst hr;exact hR s4 H3 I4 qn
 ·refine thn (T.item Y rfl rfl rfl hc i pins s3 σ H3 _ I3 (stat fr3) st3 go) λr s4 ⟨u,hr,h4⟩=>?_
  subst hr;refine thn h4 λ_ s5 ⟨x,H5,I5,r5,y5,st5,fr5⟩=>?_
  have I5':=I5.pinned (stat fr5) (T.obj _ _ st5);refine hact x u r5 _ s5 H5 _ _ I5' (step x H5 y5) λs7 H7 I7 ⟨m',hm,w7⟩=>?_
  refine⟨rfl,m',hm,i+1,H7,I7.unpinned,T.keep _ _ _ st5 λb hb o e=>(I7.pin (b,o) (JJ _ (JJ _ (Qcm hb e)))).1,λb hb=>?_,w7⟩;obtain⟨o,e,dd⟩:=T.obj _ _ st5 b hb;exact(I7.pin (b,o) (JJ _ (JJ _ (Qcm hb e)))).2.1
abbrev QlB (ifs:List QV) (env:Env):Sem Bool:=forIn ifs true λc r=>if r=true then do let ok <- isTrue c env (eval c env);pure (Zz ok) else pure (Zz r)
def PTs(Y:Cx)(ifs:List QV)(t:TT):Prop:=
 ∀(pins:List (Addr×Obj))(s:Shared)(σ:St)(H:Hp)(Q:Bool->Hp->Prop),Inv Y pins σ H s->t σ H Q->wpAny (model Y.prog Y.w) Y.A (QlB ifs Y.env) (TP Y pins σ Q) Y.xe s
def QaR:TT:=λ_ H Q=>Q true H
theorem QaV{Y:Cx}:PTs Y [] QaR:=λpins s σ H Q I h=>wpAny_tests_nil ⟨H,I,h⟩
theorem Qmn{Y:Cx}{c:QV}{t:TT}(h:PT Y c t):PTs Y [c] t:=λpins s σ H Q I q=>wpAny_tests_one (h pins s σ H Q I q)
def Qry(Y:Cx)(tg:QV)(ifs:List QV)(inner:Act):Value->Act:=λu Q s=>
 wpAny (model Y.prog Y.w) Y.A (assign tg Y.env u) (λ_ s4=>wpAny (model Y.prog Y.w) Y.A (QlB ifs Y.env) (λok s5=>if ok=true then inner Q s5 else Q s5) (λ_ _=>False) s4) (λ_ _=>False) s
def bOf(σ:St)(g:TG)(tc:TT)(inner:St->Hp->(Hp->Prop)->Prop):V->Hp->(Hp->Prop)->Prop:=λx H k=>g x σ H λσ4 H4=>Wk σ σ4/\tc σ4 H4 λb H5=>
 if b=true then inner σ4 H5 k else k H5
theorem QgR{Y:Cx}{σ:St}{tg:QV}{ifs:List QV}{g:TG}{tc:TT}{inner:Act}{ri:St->Hp->(Hp->Prop)->Prop}(hx:Y.xe=λ_ _=>False)(hg:PG Y tg g)(ht:PTs Y ifs tc)(he:∀σ4,BodyOk Y σ4 inner (ri σ4))(x:V)(u:Value)(r:RelV x u) :
  BodyOk Y σ (Qry Y tg ifs inner u) (bOf σ g tc ri x):=by
 intro pins s H k Q I h hQ;have hx':∀(v:Value)(s':Shared),Y.xe v s'->False:=λv s' z=>by rw[hx] at z;exact z
 refine wpAny_mono (hg pins s σ H x u _ I r h) (λ_ s4 ⟨σ4,H4,I4,wk,q4⟩=>?_) hx';refine wpAny_mono (ht pins s4 σ4 H4 _ I4 q4) (λb s5 ⟨H5,I5,q5⟩=>?_) hx';cases b with
 |false=>
  rw[if_neg Qp] at q5;rw[if_neg Qp];exact hQ s5 H5 (I5.wk wk) q5
 |true=>
  rw[if_pos rfl] at q5;rw[if_pos rfl];exact he σ4 pins s5 H5 k Q I5 q5 λs' H' I' k'=>hQ s' H' (I'.wk wk) k'
def Qn8(Y:Cx)(elt:QV)(D:Addr):Act:=λQ s=>wpAny (model Y.prog Y.w) Y.A (eval elt Y.env) (λv s6=>wpAny (model Y.prog Y.w) Y.A (call (.builtin "list.append") [.ref D,v]) (λ_ s7=>Q s7) (λ_ _=>False) s6) (λ_ _=>False) s
def Qwl(p:Addr)(te:TE):St->Hp->(Hp->Prop)->Prop:=λσ H k=>te σ H λv H6=>∃ys,H6 p=some (.lst ys)/\ys.length<sizeLine/\k (upd H6 p (.lst (ys++[v])))
theorem QgS{Y:Cx}{σ:St}{elt:QV}{te:TE}{D:Addr}(hx:Y.xe=λ_ _=>False)(he:PE Y elt te):BodyOk Y σ (Qn8 Y elt D) (Qwl D te σ):=by
 intro pins s H k Q I h hQ;have hx':∀(v:Value)(s':Shared),Y.xe v s'->False:=λv s' z=>by rw[hx] at z;exact z
 refine wpAny_mono (he pins s σ H _ I h) (λv s6 ⟨y,H6,I6,r6,ys,e,hz,q⟩=>?_) hx';exact wpAny_mono (Qcc (X:=Y) pins s6 σ H6 (.ref D) [y] (.ref D) [v] (λ_ H'=>k H') I6 rfl (.cons r6 .nil) ⟨D,ys,y,rfl,rfl,e,hz,q⟩) (λ_ s7 ⟨_,H7,I7,_,q7⟩=>hQ s7 H7 I7 q7) hx'
theorem Qja{Y:Cx}{elt tg iter:QV}{ifs:List QV}{scope:Qai}{cpos:Pos}{it D:Addr}(Q:PySem.Fin->Shared->Prop)(E:Value->Shared->Prop)(s:Shared)
  (h:wpAny (model Y.prog Y.w) Y.A (pyNext (.ref it)) (λr s1=>match r with
   |none=>Q (.done .next) s1
   |some v=>wpAny (model Y.prog Y.w) Y.A (letOwnedTupleGo tg (.ref it) v) (λ_ s2=>Qry Y tg ifs (Qn8 Y elt D) v (λs3=>Q (.again (.compLoop (.ListComp elt [⟨tg,iter,ifs,0⟩] scope cpos) 0 (.ref it) (.ref D) Y.env)) s3) s2) E s1) E s) :
  wpAny (model Y.prog Y.w) Y.A (compTurn (.ListComp elt [⟨tg,iter,ifs,0⟩] scope cpos) 0 (.ref it) (.ref D) Y.env) Q E s:=by
 rw[compTurn_list];refine wpAny_bind (wpAny_standAt (wpAny_bind (thn h λr s1 h1=>?_)));cases r with
 |none=>exact Qo h1
 |some v=>
  refine wpAny_bind (thn h1 λ_ s2 h2=>?_);refine wpAny_bind (wpAny_mono h2 (λ_ s4 h4=>wpAny_bind (wpAny_mono h4 (λok s5 h5=>?_) λ_ _ f=>f.elim)) λ_ _ f=>f.elim);cases ok with
  |false=>exact Qo h5
  |true=>exact wpAny_bind (wpAny_bind (wpAny_mono h5 (λx s6 h6=>wpAny_bind (wpAny_mono h6 (λ_ s7 h7=>Qo (Qo h7)) λ_ _ f=>f.elim)) λ_ _ f=>f.elim))
def tComp(cap:List (Option Nat))(wi:TI)(g:TG)(tc:TT)(te:TE):TE:=λσ H Q=>wi σ H λJ H1=>∀p,H1 p=none->Qkq J (bOf (QdU cap σ) g tc (Qwl p te)) (Q (.ref p)) (upd H1 p (.lst []))
theorem FpOk.upd{X:Cx}{pins:List (Addr×Obj)}{H:Hp}{b a:Addr}{o:HO}(h:FpOk X pins H b)(hne:b≠a):FpOk X pins (upd H a o) b:=⟨by rw[QK hne];exact h.1,h.2⟩
theorem Y3{X:Cx}{M:List Str}{cap:List (Option Nat)}{elt tg iter:QV}{ifs:List QV}{scope:Qai}{pos:Pos}{wi:TI}{g:TG}{tc:TT}{te:TE}(hc:X.calm=true)(ok:QgO X.N X.env.scope M scope cap=true)
  (hi:PI X tg iter wi)(hb:∀cl ex s3 H3 C,PG (blk X M scope cl ex s3 H3 C) tg g/\PTs (blk X M scope cl ex s3 H3 C) ifs tc/\PE (blk X M scope cl ex s3 H3 C) elt te)
  (hs:∀x,foldedSetIterable iter X.env x=pure x:=by intro _;rfl):PE X (.ListComp elt [⟨tg,iter,ifs,0⟩] scope pos) (tComp cap wi g tc te):=by
 intro pins s σ H Q I h;have c:=CapOk.of ok;rw[eval_ListComp];refine QcD (use:=none) rfl hs (QiO (I.ok.cells c)) c.kind c.loc ?_
 refine thn (hi pins s σ H _ I h) λv s1 h1=>thn h1 λitv s2 h2=>?_
 obtain⟨it,fp,tn,J,H2,e,I2,T,st2,f2,hW⟩:=h2;subst e;refine Zq (Qey c.cell (by intro y hy;simp at hy) (λh₁ hns₁ hsb₁=>?_) c.kind);have I3:Inv X pins σ (upd H2 s2.heap.objs.size (.lst [])) { s2 with heap:=s2.heap.push { cls:=.type "list",data:=.seq ([]:List Value).toArray } }:=I2.lnew (t':=s2.toks) (ys:=[]) .nil (Jn _);have lt2:∀b∈fp,b<s2.heap.objs.size:=λb hb=>by obtain⟨o,e,_⟩:=T.obj _ _ st2 b hb;exact Qs e
 have f3:∀b∈fp,FpOk X pins (upd H2 s2.heap.objs.size (.lst [])) b:=λb hb=>(f2 b hb).upd (Q2 (lt2 b hb))
 generalize hs3:({ s2 with heap:=s2.heap.push { cls:=.type "list",data:=.seq ([]:List Value).toArray } }:Shared)=s3 at I3;have e3:s3.heap=s2.heap.push { cls:=.type "list",data:=.seq ([]:List Value).toArray }:=by rw[<- hs3]
 have z3:s3.heap.objs.size=s2.heap.objs.size+1:=by rw[e3,QbT]
 have hk:∀b o,s3.heap.get? b=some o->h₁.get? b=some o:=λb o e=>hsb₁.extBut b o (by
  have:=Qs e;rw[e3] at this;exact Q2 this) (Qh _ (e3 ▸ e))
 have hn₁:h₁.Ns s3.heap.objs.size λ_=>none:=by rw[e3];exact hns₁
 have B:=Qfg (t4:=s3.toks+([]:List (Str×Value)).length) (fp:=fp) I3 c f3 (λb hb=>by rw[z3];exact Qft (lt2 b hb)) hn₁ hk;have st4:tn 0 h₁:=T.keep _ _ _ st2 λb hb o e=>hk b o (by rw[e3];exact Qh _ e)
 have fp4:∀b∈fp,FpOk (blk X M scope (Qcp X.env scope.names []) fp s3 (upd H2 s2.heap.objs.size (.lst [])) s3.heap.objs.size) [] (upd H2 s2.heap.objs.size (.lst [])) b:=λb hb=>by
  refine⟨(f3 b hb).1,(B.ok.exf b hb).1,B.ok.exfs b hb,.inl hb,(B.ok.exf b hb).2,λp hp=>(nomatch hp)⟩
 obtain⟨hg,ht,he⟩:=hb (Qcp X.env scope.names []) fp s3 (upd H2 s2.heap.objs.size (.lst [])) s3.heap.objs.size;have loop:codeAny (model X.prog X.w) X.A (.compLoop (.ListComp elt [⟨tg,iter,ifs,0⟩] scope pos) 0 (.ref it) (.ref s2.heap.objs.size) (compEnvC scope (Qcp X.env scope.names []) s3.heap.objs.size X.env))
   (compPost (model X.prog X.w) X.A X.xe none (EP X pins σ Q) (.ref s2.heap.objs.size) s3.heap.objs.size) { s3 with heap:=h₁,toks:=s3.toks+([]:List (Str×Value)).length }:=by
  refine Qdu (Y:=blk X M scope (Qcp X.env scope.names []) fp s3 (upd H2 s2.heap.objs.size (.lst [])) s3.heap.objs.size) (gens:=[⟨tg,iter,ifs,0⟩]) (d:=0) hc T st4 fp4
   (λQ E s h=>Qja Q E s h) (λx u r=>QgR rfl hg ht (λσ4=>QgS rfl he) x u r) B (hW _ (I2.hok.fresh (Qf _))) λs' H' I' q=>?_
  obtain⟨m,hn,_⟩:=I'.loc;exact⟨m,hn,λh' hs'=>⟨.ref s2.heap.objs.size,H',QnW I3 f3 I' hs',rfl,q⟩⟩
 exact QdA loop (T.self _ 0 _ _ _ st4 loop)
section
variable{X:Cx}
theorem QiR:CallR X (.builtin "isinstance") (λxs H Q=>∃x t T b,xs=[x,.ty T]/\TyOf X.K H x t/\PySem.W.kitOne X.K t (.type T)=some b/\Q (.bl b) H):=by
 intro pins s σ H xs us Q I r h;obtain⟨x,t,T,b,rfl,ty,e,q⟩:=h;obtain⟨u,v,rfl,ru,rv⟩:=vals2 r;cases(show v=QcS T from rv);exact Qng I ru ty e λtk=>⟨.bl b,H,I.tok tk,rfl,q⟩
theorem Qj4{bs:List Bool}:∀{us:List Value},Vals (bs.map V.bl) us->LSm.BoolsAre us bs:=by
 induction bs with
 |nil=>intro us r;cases r;exact .nil
 |cons b bs ih=>
  intro us r;cases r with
  |cons r t=>
   cases(show _=ZM b from r);exact .cons b (ih t)
theorem Qrv:CallR X (.builtin "all") (λxs H Q=>∃(p:Addr)(bs:List Bool),xs=[.ref p]/\SqL X.K H p (bs.map V.bl)/\X.calm=true/\Q (.bl (bs.all id)) H):=by
 intro pins s σ H xs us Q I r h;obtain⟨p,bs,rfl,hp,hc,q⟩:=h;obtain⟨u,rfl,ru⟩:=vals1 r;cases ru;obtain⟨its,rv,pl,hz⟩:=I.list hp;have hl:=pl.isList;have hb:=Qj4 rv;have hlt:p<s.heap.objs.size:=by obtain⟨_,e,_⟩:=hl;exact Qs e
 refine call_all_walk (QgX hl ?_);refine⟨s.heap.objs.size,[s.heap.objs.size,p],[s.heap.objs.size],its.toArray.size,_,_,λi=>(bs[i]?).getD true,rfl,Walks.list (A:=X.A.in1) (I.ok.hd hc) _ p (Q2 hlt) its.toArray,
  ⟨⟨_,QD _ rfl,rfl,rfl⟩,hl.push _⟩,λi v s' Q' E' hP hQ=>?_,λh' tk hk=>?_⟩
 ·obtain⟨b,e,rfl⟩:=hb.get i v (by simpa using hP);simp only[e,Qot] at hQ;exact Zp hQ
 ·have e:((QN its.toArray.size).all λi=>(bs[i]?).getD true)=bs.all id:=by
   rw[Ql,hb.length];exact LSm.range_all bs
  rw[e];exact⟨.bl _,H,I.kept (Qz8 hk),rfl,q⟩
def QBJ:V->Option Int->Option Int->Hp->VK->Prop:=λx lo hi H Q=>∃a xs,x=.ref a/\H a=some (.tup xs)/\∀p H',Same H H'->H' p=some (.tup (QhS xs lo hi))->Q (.ref p) H'
theorem JK{H:Hp}{p:Addr}{o:HO}(h:H p=none):Same H (upd H p o):=λb u e=>by rw[QK (Q7 e h)];exact e
theorem QcM{prog:Qm}{w:QZ}{A:Q1}{E:Value->Shared->Prop}{s:Shared}{t sl:Addr}{items:Array Value}{vl vu:Value}{lo hi:Option Int}{Q:Value->Shared->Prop}(ht:IsTup s.heap t items)(hs:s.heap.IsSliceOf sl vl vu .none)(pl:Qh9 vl lo)(pu:Qh9 vu hi)
  (h1:HT.sIx items.size 0 lo=0)(h2:HT.sIx items.size items.size hi=items.size)(h:Q (.ref t) s):wpAny (model prog w) A (getItem (.ref t) (.ref sl)) Q E s:=by
 obtain⟨os,hos,hcs,hds⟩:=id hs;have hTs:s.TypeIs (.ref sl) "slice" := ⟨os,hos,hcs⟩;unfold getItem
 try with_reducible refine ZJ ?_
 first | refine wpAny_bind (Qo ?_) | skip
 refine wpAny_bind (QzJ ht.typeIs (by decide) ?_);refine wpAny_bind (Qol (name:=Qe "__getitem__") ht.typeIs JR
  (Qdy JR ht.typeIs Qwp ?_ (Qzr _ _)))
 show wpAny _ _ (Qd0 (.ref t) >>= _) _ _ s;refine wpAny_bind (tupleItemsOf_ ht ?_);refine wpAny_bind (Qs6 hTs ?_);rw[if_pos (by decide)];refine wpAny_bind (HT.QbV hs pl pu ?_);show wpAny _ _ (if(((HT.sIx items.size 0 lo:Nat):Int) == 0&&(1:Int) == 1&&(HT.sIx items.size items.size hi - HT.sIx items.size 0 lo) == items.size)=true then _ else _) _ _ s;rw[if_pos (by rw[h1,h2];simp)];refine wpAny_bind (m:=QAc _) (wpAny_bind (Qs6 ht.typeIs (Qo ?_)));rw[if_pos (by decide)];exact wpAny_bind (wpAny_rule (Qo ⟨_,rfl,Qo h⟩))
theorem QwY:SlR X QBJ:=by
 intro pins s σ H x v vl vu lo hi sl Q I rx hs pl pu h;obtain⟨a,xs,rfl,hx,q⟩:=h;by_cases hw:HT.sIx xs.length 0 lo=0/\HT.sIx xs.length xs.length hi=xs.length
 ·cases rx;obtain⟨its,r,ht,hz⟩:=I.tuple (SqT.of hx);have hlen:its.toArray.size=xs.length:=by rw[Ql];exact r.length.symm
  refine⟨"tuple",_,JR.lookup,ht.typeIs,?_⟩;refine QcM ht hs pl pu (by rw[hlen];exact hw.1) (by rw[hlen];exact hw.2) ?_
  refine⟨.ref a,H,I,rfl,q a H (Same.refl H) ?_⟩;have e:QhS xs lo hi=xs:=by
   unfold QhS;rw[hw.1,hw.2];simp
  rw[e];exact hx
 ·exact QwX pins s σ H (.ref a) v vl vu lo hi sl Q I rx hs pl pu ⟨a,xs,rfl,SqT.of hx,hw,λp hp=>q p _ (JK hp) upd_same⟩
def Qxm:R2:=λx y H Q=>∃a b xs ys,x=.ref a/\y=.ref b/\H a=some (.tup xs)/\H b=some (.tup ys)/\xs.length+ys.length<=sizeLine/\∀p H',Same H H'->H' p=some (.tup (xs++ys))->Q (.ref p) H'
theorem QuB:OpR X (binaryOp .Add) Qxm:=by
 intro pins s σ H x y v u Q I rx ry h;obtain⟨a,b,xs,ys,rfl,rfl,ha,hb,hz,q⟩:=h;by_cases hx:xs=[]
 ·subst hx;cases rx;cases ry;obtain⟨its,r1,p1,_⟩:=I.tuple (SqT.of ha);obtain⟨its2,r2,p2,_⟩:=I.tuple (SqT.of hb);cases r1;obtain⟨⟨cls,dd,data,sl⟩,ho,hc,n,hd⟩:=id p1;obtain⟨⟨cls2,dd2,data2,sl2⟩,ho2,hc2,n2,hd2⟩:=id p2;simp only at hc hd hc2 hd2;subst hc hd hc2 hd2;exact Qs9 ⟨_,ho,rfl⟩ ⟨_,ho2,rfl⟩ Qid Qom PySem.F.slot_tuple_add PySem.F.entry_tuple_add (PySem.F.args_tuple_add_2 _ _)
   (tuple_addW0 a b #[] its2.toArray n n2 dd dd2 sl sl2 rfl) ⟨ho,ho2,⟨.ref b,H,I,rfl,q b H (Same.refl H) hb⟩⟩
 ·exact QuA pins s σ H _ _ v u Q I rx ry ⟨a,b,xs,ys,rfl,rfl,SqT.of ha,SqT.of hb,hx,hz,λe=>q a H (Same.refl H) (by rw[e,Zn];exact ha),λ_ p hp=>q p _ (JK hp) upd_same⟩
def QAo:TE:=λ_ H Q=>∀p,H p=none->Q (.ref p) (upd H p (.dK []))
theorem Qt2{pos:Pos}:PE X (.Dict [] [] pos) QAo:=λpins s σ H Q I h=>by
 refine wpAny_Dict_empty ⟨.ref s.heap.objs.size,_,I.laid (a:=s.heap.objs.size) (o:=.dK []) (t':=s.toks) (λ_ _ q=>Qh _ q) (Qf _) ?_,rfl,h _ (I.hok.fresh (Qf _))⟩;have hb:sysModules<s.heap.objs.size:=Nat.lt_trans (by decide) (I.mod.glob.keeps I.bk).lt;exact⟨Jn _,beq_eq_false_iff_ne.mpr (Qb1 (Q2 hb)),[],.nil,Qkh s.heap⟩
end
end L2
namespace Rz
open Sem (wp)
section
variable{prog:Qm}{w:QZ}{A:Q1}{E:Value->Shared->Prop}{s:Shared}
end
end Rz
namespace L2
section
variable{X:Cx}{pins:List (Addr×Obj)}{σ:St}{H:Hp}{s:Shared}{h':JS}
theorem Inv.turnedNew{t':Nat}{ch:List Addr}{a:Addr}{o:HO}(I:Inv X pins σ H s)(hch:∀b∈ch,FpOk X pins H b)(k:∀b u,b∉ch->s.heap.get? b=some u->h'.get? b=some u)(hp:s.heap.objs.size<=a)
  (new:ObjOk X.prog X.w (upd H a o) h' a o):Inv X pins σ (upd H a o) { s with heap:=h',toks:=t' }:=by
 have hn:H a=none:=I.hok.fresh hp;have nch:∀b u,H b=some u->b∉ch:=λb u e z=>by rw[(hch b z).1] at e;cases e
 refine I.step (g':=s.gens) (d':=s.drawn) (ch:=ch) (λb hb=>?_) (λb u _ _ hc e _=>k b u hc e) (λb u _ _ hc e _=>⟨u.slots,k b u hc e⟩) (λb u hc e n=>?_) (λb u hc e=>⟨u,k b u hc e⟩)
  (λb xs e=>by rw[QK (Q7 e hn)];exact e) (λb u v e=>by rw[QK (Q7 e hn)];exact e) (λb ps e=>⟨#[],by rw[QK (Q7 e hn),e];simp⟩) (λm hm=>?_) (λb u e=>?_) I.bare
 ·obtain⟨f0,f1,f2,f3,f4,f5⟩:=hch b hb;exact⟨f3,f1,f4,f5⟩
 ·rw[QK (Q2 (QR (Qs e) hp))];exact n
 ·obtain⟨u,es,ep,ho,r⟩:=hm;exact⟨u,es,ep,k _ u (λz=>(hch _ z).2.1 rfl) ho,r⟩
 ·by_cases hb:b=a
  ·subst hb;rw[upd_same] at e;cases e;exact new
  ·rw[QK hb] at e;refine(I.hok b u e).stay (λc v hc q=>k c v ?_ q) (λc q=>by rw[QK (Q7 q hn)];exact q) λc xs q=>by rw[QK (Q7 q hn)];exact q
   rcases hc with z | z
   ·rw[z];exact nch b u e
   ·exact nch c _ z
theorem Inv.turnedAll{t':Nat}{ch:List Addr}(I:Inv X pins σ H s)(hch:∀b∈ch,FpOk X pins H b)(k:∀b u,b∉ch->s.heap.get? b=some u->h'.get? b=some u):Inv X pins σ H { s with heap:=h',toks:=t' }:=by
 have nch:∀b u,H b=some u->b∉ch:=λb u e z=>by rw[(hch b z).1] at e;cases e
 refine I.step (g':=s.gens) (d':=s.drawn) (ch:=ch) (λb hb=>?_) (λb u _ _ hc e _=>k b u hc e) (λb u _ _ hc e _=>⟨u.slots,k b u hc e⟩) (λb u hc e n=>n) (λb u hc e=>⟨u,k b u hc e⟩)
  (λb xs e=>e) (λb u v e=>e) (λb ps e=>⟨#[],by rw[e];simp⟩) (λm hm=>?_) (λb u e=>?_) I.bare
 ·obtain⟨f0,f1,f2,f3,f4,f5⟩:=hch b hb;exact⟨f3,f1,f4,f5⟩
 ·obtain⟨u,es,ep,ho,r⟩:=hm;exact⟨u,es,ep,k _ u (λz=>(hch _ z).2.1 rfl) ho,r⟩
 ·refine(I.hok b u e).stay (λc v hc q=>k c v ?_ q) (λc q=>q) λc xs q=>q
  rcases hc with z | z
  ·rw[z];exact nch b u e
  ·exact nch c _ z
end
section
variable{X:Cx}
end
end L2
namespace Rk
open L2
def QBD:Option HO->Option (List V)
 |some (.tup xs)=>some xs
 |_=>none
def Qhf(H:Hp):V->Option (List V)
 |.ref a=>QBD (H a)
 |_=>none
theorem Qjb(H:Hp)(a:Addr):Qhf H (.ref a)=QBD (H a):=rfl
def isT(H:Hp)(x:V):Bool:=(Qhf H x).isSome
def Kn(p:Addr)(H:Hp):V->Prop
 |.non=>True
 |.bl _=>True
 |.int _=>True
 |.str _=>True
 |.ref a=>a≠p/\((∃xs,H a=some (.tup xs))∨(∃xs,H a=some (.lst xs))∨∃kvs,H a=some (.dK kvs))
 |_=>False
def KnD(p:Addr):Nat->Hp->V->Prop
 |0,H,x=>Kn p H x
 |n+1,H,x=>Kn p H x/\∀xs,Qhf H x=some xs->∀y∈xs,KnD p n H y
def KX(p:Addr)(H H':Hp):Prop:=∀b o,b≠p->H b=some o->H' b=some o
theorem KX.of{p:Addr}{H H':Hp}(h:Same H H'):KX p H H':=λb o _ e=>h b o e
theorem KX.new{p q:Addr}{H:Hp}{o:HO}(h:H q=none):KX p H (L2.upd H q o):=KX.of (JK h)
theorem KnD.low{p:Addr}{H:Hp}:∀{n:Nat}{x:V},KnD p (n+1) H x->KnD p n H x
 |0,x,h=>h.1
 |n+1,x,h=>⟨h.1,λxs e y hy=>KnD.low (h.2 xs e y hy)⟩
theorem KnD.tup{p:Addr}{H:Hp}{n:Nat}{a:Addr}{xs:List V}(hp:a≠p)(e:H a=some (.tup xs))(h:∀y∈xs,KnD p n H y):KnD p (n+1) H (.ref a):=
 ⟨⟨hp,.inl ⟨xs,e⟩⟩,λys z y hy=>h y (by
  have z':some xs=some ys:=by rw[<- z,Qjb,e];rfl
  cases z';exact hy)⟩
theorem KnD.int{p:Addr}{H:Hp}(i:Int):∀(n:Nat),KnD p n H (.int i)
 |0=>trivial
 |n+1=>⟨trivial,λ_ e=>nomatch e⟩
theorem QlA{H:Hp}{a:Addr}{xs:List V}(e:H a=some (.tup xs)):Qhf H (.ref a)=some xs:=by rw[Qjb,e];rfl
def QsG(H:Hp)(x:V):List Int:=((Qhf H x).getD []).map λy=>match y with
 |.int i=>i
 |_=>0
def IntsT(H:Hp)(x:V)(ns:List Int):Prop:=∃a,x=.ref a/\H a=some (.tup (ns.map V.int))
theorem IntsT.eq{H:Hp}{x:V}{ns:List Int}(h:IntsT H x ns):QsG H x=ns:=by
 obtain⟨a,rfl,e⟩:=h;unfold QsG;rw[QlA e];show(ns.map V.int).map _=ns;rw[Q8];exact List.map_id _
theorem QbR:bootBuiltins "isinstance" = some (.builtin "isinstance"):=by decide
theorem Qdv:bootBuiltins "int" = some (.type "int"):=by decide
theorem QnS:bootBuiltins "bool" = some (.type "bool"):=by decide
theorem Z4:bootBuiltins "tuple" = some (.type "tuple"):=by decide
theorem QiS:bootBuiltins "list" = some (.type "list"):=by decide
theorem Qff:bootBuiltins "str" = some (.type "str"):=by decide
theorem Qy4:bootBuiltins "all" = some (.builtin "all"):=by decide
theorem Qbm:bootBuiltins "len" = some (.builtin "len"):=by decide
theorem Qs0:bootBuiltins "max" = some (.builtin "max"):=by decide
theorem QsZ:bootBuiltins "min" = some (.builtin "min"):=by decide
end Rk
namespace L2
theorem QeY{J:It}{body:V->Hp->(Hp->Prop)->Prop}{Qn:Hp->Prop}{H:Hp}(n:Nat)(Pv:Nat->Hp->Prop)(h0:Pv 0 H)
  (hs:∀i H2,i<n->Pv i H2->J.go i H2/\∀x H3,J.yld i H2 x H3->∀k:Hp->Prop,(∀H6,Pv (i+1) H6->k H6)->body x H3 k)(hd:∀H2,Pv n H2->J.stop n H2/\Qn H2):Qkq J body Qn H:=by
 refine⟨λi m H=>m=n - i/\i<=n/\Pv i H,⟨n,by simp,Jn _,h0⟩,?_⟩;rintro i m H2 ⟨rfl,hi,p⟩;by_cases hlt:i<n
 ·obtain⟨go,st⟩:=hs i H2 hlt p;exact .inr ⟨go,λx H3 y=>st x H3 y _ λH6 p6=>⟨n - (i+1),by omega,rfl,hlt,p6⟩⟩
 ·have e:i=n:=by omega
  subst e;exact .inl (hd H2 p)
end L2
namespace Rk
open L2
def Qjo(K:PySem.W.Frag):Sp:=λvs H Q _=>∃a ns k,vs=[.ref a,.int k]/\SqL K H a ((ns:List Int).map V.int)/\ns.length<2^20/\0<=k/\∀c,Q (.int c) H
def QwW:Sp:=λvs H Q _=>∃c,vs=[.int c]/\∀p n,H p=none->Q (.ref p) (upd H p (.lst [.int n]))
def Cs(p:Addr)(H:Hp):List V->List (Int×Int)->Prop:=Zw λx ij=>∃d,d≠p/\x=.ref d/\H d=some (.tup [.int ij.1,.int ij.2])
def Qzp(a b:Int×Int):Prop:=a.1<b.1∨(a.1=b.1/\a.2<b.2)
structure Good (h w:Int) (L:List (Int×Int)):Prop where
 asc:L.Pairwise Qzp
 ins:∀x∈L,0<=x.1/\x.1<h/\0<=x.2/\x.2<w
 len:L.length<=36
theorem QjX(x:Int){m:Int}(h:0<m):0<=x % m/\x % m<m:=⟨Qww _ (by omega),QrJ _ h⟩
def notStar:QV->Bool
 |.Starred _ _=>false
 |_=>true
theorem Qbr{e:QV}{es:List QV}{env:Env}(h:notStar e=true):starEach (e::es) env=(false,eval e env)::starEach es env:=by
 cases e<;>first | rfl | cases h
section
variable{X:Cx}
theorem Zo{e:QV}{es:List QV}{te:TE}{t:TA}(ha:PE X e te)(hr:PA X es t)(hs:notStar e=true:=by rfl):PA X (e::es) (Qae te t):=Qk ha hr (Qbr hs)
inductive PEs (X:Cx):List QV->List TE->Prop
 |nil:PEs X [] []
 |cons {e es te ts}:PE X e te->notStar e=true->PEs X es ts->PEs X (e::es) (te::ts)
def QBH:List TE->TA
 |[]=>Qej
 |t::ts=>Qae t (QBH ts)
theorem PEs.pa{es:List QV}{ts:List TE}(h:PEs X es ts):PA X es (QBH ts):=by
 induction h with
 |nil=>exact Qq
 |cons a s _ ih=>exact Zo a ih s
def Sm(H:Hp)(x:V):Prop:=∀ps,Qhf H x=some ps->ps.length<sizeLine
def Qzk(p:Addr)(H:Hp)(x:V):Prop:=KnD p 3 H x/\Sm H x/\∀xs,Qhf H x=some xs->∀y∈xs,Sm H y
theorem QB1{P:V->Prop}:∀y∈([]:List V),P y:=λ_ h=>nomatch h
theorem QBb{P:V->Prop}{a:V}{l:List V}(h:P a)(k:∀y∈l,P y):∀y∈a::l,P y:=λy hy=>by
 rcases QM.mp hy with e | e
 ·subst e;exact h
 ·exact k y e
theorem ZB{n:Nat}(h:n<=1000):n<sizeLine:=Jt h (by decide)
def Fine(p:Addr):Nat->Hp->V->Prop
 |0,H,x=>Kn p H x/\Sm H x
 |n+1,H,x=>Kn p H x/\Sm H x/\∀xs,Qhf H x=some xs->∀y∈xs,Fine p n H y
theorem Fine.sm{p:Addr}{H:Hp}{x:V}:∀{n:Nat},Fine p n H x->Sm H x
 |0,h=>h.2
 |_+1,h=>h.2.1
theorem Fine.knd{p:Addr}{H:Hp}:∀{n:Nat}{x:V},Fine p n H x->KnD p n H x
 |0,_,h=>h.1
 |_+1,_,h=>⟨h.1,λxs e y hy=>(h.2.2 xs e y hy).knd⟩
theorem Fine.thing{p:Addr}{H:Hp}{x:V}(h:∀n,Fine p n H x):Qzk p H x:=⟨(h 3).knd,(h 0).2,λxs e y hy=>((h 1).2.2 xs e y hy).2⟩
theorem Qiy{e:List QV}{t t':TA}(h:PA X e t)(k:∀σ H Q,t' σ H Q->t σ H Q):PA X e t':=λpos pins s σ H Q I q=>h pos pins s σ H Q I (k σ H Q q)
def QwJ(t:TA):TE:=λσ H Q=>t σ H λxs H1=>xs.length<=1000/\∀a H2,Same H1 H2->H1 a=none->H2 a=some (.tup xs)->Q (.ref a) H2
def Qtt(t:TA):TE:=λσ H Q=>t σ H λxs H1=>xs.length<=1000/\∀a H2,Same H1 H2->H1 a=none->H2 a=some (.lst xs)->Q (.ref a) H2
theorem Ym{es:List QV}{t:TA}{x1}{pos:Pos}(h:PA X es t):PE X (.Tuple es x1 pos) (QwJ t):=by
 intro pins s σ H Q I hq;refine Qwn (thn (h pos pins s σ H _ I hq) λus s1 ⟨xs,H1,I1,r,z,q⟩=>⟨by rw[<- r.length];exact Ji (ZB z),?_⟩);have hf:H1 s1.heap.objs.size=none:=I1.hok.fresh (Qf _);refine⟨.ref s1.heap.objs.size,upd H1 s1.heap.objs.size (.tup xs),I1.laid (t':=s1.toks) (λb u e=>Qh _ e) (Qf _) ?_,rfl,q _ _ (JK hf) hf upd_same⟩;exact⟨Ji (ZB z),us,r,⟨_,QD _ rfl,rfl,rfl,_,rfl⟩⟩
theorem Za{es:List QV}{t:TA}{pos:Pos}(h:PA X es t):PE X (.List es pos) (Qtt t):=by
 intro pins s σ H Q I hq;refine Qzq (thn (h pos pins s σ H _ I hq) λus s1 ⟨xs,H1,I1,r,z,q⟩=>⟨by rw[<- r.length];exact Ji (ZB z),?_⟩);have hf:H1 s1.heap.objs.size=none:=I1.hok.fresh (Qf _);refine⟨.ref s1.heap.objs.size,upd H1 s1.heap.objs.size (.lst xs),I1.laid (t':=s1.toks) (λb u e=>Qh _ e) (Qf _) ?_,rfl,q _ _ (JK hf) hf upd_same⟩;exact⟨Ji (ZB z),us,0,r,QD _ rfl⟩
def Qxl:R2:=λx y H Q=>∃l b xs zs,x=.ref l/\y=.ref b/\H l=some (.lst xs)/\H b=some (.lst zs)/\xs.length+zs.length<=1000/\∀a H2,Same H H2->H a=none->H2 a=some (.lst (xs++zs))->Q (.ref a) H2
theorem QaW:OpR X (binaryOp .Add) Qxl:=λpins s σ H x y v u Q I rx ry ⟨l,b,xs,zs,e1,e2,h1,h2,hl,k⟩=>
 Qsr pins s σ H x y v u Q I rx ry ⟨l,b,xs,zs,e1,e2,h1,h2,Ji (ZB hl),λa ha=>k a _ (JK ha) ha upd_same⟩
end
def FineA(p:Addr)(H:Hp)(x:V):Prop:=∀n,Fine p n H x
theorem FineA.thing{p:Addr}{H:Hp}{x:V}(h:FineA p H x):Qzk p H x:=Fine.thing h
end Rk
namespace Rx
open PySem.Calls L2 PySem.W Builtin Builtin.ObjectAttr Builtin.Getset_descriptor
def ExAt(a C:Addr)(h:JS):Prop:=∃o vs,h.get? a=some o/\o.cls=.ref C/\o.data=.fields vs
theorem ExAt.ty{M:Qlm}{h:JS}{a C:Addr}(x:ExAt a C h):Looks M h (typeOf (.ref a)) (.ref C):=by
 obtain⟨o,vs,e,c,_⟩:=x;exact c ▸ (Looks.ld e).andThen .now
structure ExC (K:PySem.W.Frag) (C:Addr):Prop where
 ga:findIn K (.ref C) "__getattribute__" = some (some (.builtin "BaseException.__getattribute__"))
 hk:findIn K (.ref C) "__getattr__" = some none
 bas:mroIn K C (.type "BaseException")=some true
 cls:(clsIn K C).isSome=true
 att:findIn K (.ref C) "__class__" = some (some (.builtin "object.__class__"))
 spc:specialIn K (.builtin "object.__class__") "__get__" = some (some (.builtin "getset_descriptor.__get__"))
 tks:takesIn K (.builtin "object.__class__")=some true
 mro:mroIn K C (.type "object")=some true
section
variable{prog:Qm}{w:QZ}{A:Q1}{E:Value->Shared->Prop}{s:Shared}{K:PySem.W.Frag}{a C:Addr}
theorem Qvz{M:Qlm}{h:JS}(X:K.In h)(c:ExC K C):Looks M h (find (.ref a) (.ref C) "__class__") (.bind (.builtin "getset_descriptor.__get__") (.builtin "object.__class__")):=by
 have l1:=looks_findIn (M:=M) X c.att;have l2:=looks_specialIn (M:=M) X c.spc;have l3:=looks_takesIn (M:=M) X c.tks;have l4:Looks M h (dataDescriptor? (some (.builtin "object.__class__")) (some (.builtin "getset_descriptor.__get__"))) (some (.builtin "getset_descriptor.__get__",.builtin "object.__class__")):=l3.andThen .now;exact l1.andThen (l2.andThen (l4.andThen (Looks.tag .now)))
theorem QyB{R:Qtc->Shared->Prop}{tp:Value}(X:K.In s.heap)(I:ExAt a C s.heap)(c:ExC K C)(h:R (.ok (.ret (.ref C))) s) :
  codeAny (model prog w) A (.call (.builtin "getset_descriptor.__get__") ⟨[.builtin "object.__class__",.ref a,tp],[]⟩) R s:=by
 obtain⟨h0,g0,d0,t0,o0⟩:=s;have la:=I.ty (M:=model prog w);have lb:=looks_mroIn (M:=model prog w) X c.mro;refine Qv4 KF.slot_gs.plain KF.entry_gs (KF.slot_gs.check _ _ _ _ _ _ _ _ KF.type_class (KF.args_gs _ _ _) ?_);unfold Qfx.«getset_descriptor.__get__»;unfold descrGet;rw[dga_obj];refine wpAny_bind (Qo ?_);unfold descrGetter;unfold descrCheckInstance;unfold descrNameAndClass;unfold isInstance;simp only[KF.owner_class]
 repeat lk
 refine⟨Code.quiet_builtin _ (by decide),codeAny_builtin KF.entry_class ?_⟩;unfold Qfx.«object.__class__»;unfold shownTypeOf
 repeat lk
 exact h
theorem Qri{M:Qlm}{nameV:Value}{Q:Unit->Shared->Prop}(X:K.In s.heap)(I:ExAt a C s.heap)(c:ExC K C)(hq:Q () s):wpAny M A (checkBuiltinCall "BaseException.__getattribute__" ⟨[.ref a,nameV],[]⟩) Q E s:=by
 have hk:builtinKind "BaseException.__getattribute__" = some .slot:=by decide
 have hsplit:splitId "BaseException.__getattribute__" = some ("BaseException", "__getattribute__"):=by decide
 have ha:=F.args_bexc_ga (.ref a) nameV;have la:=I.ty (M:=M);have lb:=looks_mroIn (M:=M) X c.bas;have li:Looks M s.heap (isInstance (.ref a) (.type "BaseException")) true:=la.andThen lb;simp only[checkBuiltinCall,hk,hsplit];refine wpAny_bind (li.at ?_)
 repeat (first | exact hq | wp_step)
theorem Qrh{Q:Option Value->Shared->Prop}(X:K.In s.heap)(I:ExAt a C s.heap)(c:ExC K C)(h:Q (some (.ref C)) { s with toks:=s.toks+1 }):wpAny (model prog w) A (getAttr? (.ref a) "__class__") Q E s:=by
 obtain⟨h0,g0,d0,t0,o0⟩:=s;have la:=I.ty (M:=model prog w);have lb:=looks_findIn (M:=model prog w) X c.ga;have lc:=looks_findIn (M:=model prog w) X c.hk;have ld:=Qvz (M:=model prog w) (a:=a) X c;have f3:=QrL.ga.bind (.ref a);have hx2:(onTheHeap (Jj C)&&Qah "BaseException.__getattribute__" == Qah "object.__getattribute__")=false:=by
  have e:(Qah "BaseException.__getattribute__" == Qah "object.__getattribute__")=false:=by decide
  rw[e];rfl
 unfold getAttr?;unfold getAttrBy?;unfold getAttrBy;refine wpAny_bind (wpAny_mkText (wpAny_bind (wpAny_attempt (ZJ (wpAny_bind (la.at (wpAny_bind (lb.at ?_))))))));simp only[hx2,Qaq,if_false];unfold getAttrByItsOwn;refine wpAny_bind (m:=hookBefore (.ref C)) ?_
 show wpAny _ _ (typeLookup (.ref C) "__getattr__") _ _ _;refine lc.at ?_
 refine wpAny_bind (wpAny_attempt (ZJ ?_));show wpAny _ _ (boundAndCalled _ _ _) _ _ _;unfold boundAndCalled;rw[f3];refine wpAny_bind (Qo ?_);refine Qel (Qv4 QrL.ga.plain F.entry_bexc_ga (Qri X I c ?_));unfold Qfx.«object.__getattribute__»;refine wpAny_bind (Qo (wpAny_bind (Qo (wpAny_bind (la.at (wpAny_bind (ld.at ?_)))))));show wpAny _ _ (bindTo (.builtin "getset_descriptor.__get__") (.builtin "object.__class__") (.ref a) (.ref C)) _ _ _;unfold bindTo;refine wpAny_bind (ZJ (Qel (QyB (s:=⟨h0,g0,d0,t0+1,o0⟩) X I c ?_)));exact Qo (handed_on rfl (Qo h))
theorem Qvn(c:ExC K C):KitX K (.ref a) (.ref C) (ExAt a C) where
 ty:=λ_ _ _ I=>I.ty
 it:=λ_ _ X _=>by
  have q:=c.cls;unfold clsIn at q;split at q
  ·rename_i ho
   intro A' Q' E' s' k z;unfold isType loadHead;exact wpAny_bind (Qlb (k _ _ (X _ _ ho)) (Qo z))
  ·cases q
 ne:=λh tp dd its n sl X htp=>by
  have q:=c.cls;refine Bool.eq_false_iff.mpr λz=>?_
  cases Value.ref.inj (beq_iff_eq.mp z);unfold clsIn at q;split at q
  ·rename_i ho
   cases(X _ _ ho).symm.trans htp
  ·cases q
 ca:=λX I k=>Qrh X I c k
end
end Rx
namespace Rx
open PySem.Calls L2
abbrev mroV:List Value:=[.type "ValueError",.type "Exception",.type "BaseException",.type "object"]
def Qzn(h:JS)(C:Addr):Prop:=∃bm N nm q bs hdct sn sub ab col dd k0 k1 k2 k3 k5 mN,
 h.get? C=some (excClassObj nm q C N bs bm hdct sn sub ab col dd k0 k1 k2 k3 k5 "ValueError.__new__")/\h.Ns N mN/\mN "__init__" = none/\OwnTail h mroV bm
theorem Ql6{K:PySem.W.Frag}{h:JS}{C:Addr}(X:K.In h)(q:PySem.W.excIn K C mroV "ValueError.__new__" = true):Qzn h C:=by
 unfold PySem.W.excIn at q;split at q;next dd cd sl ho=>
  split at q;next C' bm k0 k1 k2 k3 n k5 hm hs=>
   obtain⟨q,e6⟩:=QP.mp q;obtain⟨q,e5⟩:=QP.mp q;obtain⟨q,e4⟩:=QP.mp q;obtain⟨q,e3⟩:=QP.mp q;obtain⟨e1,e2⟩:=QP.mp q;cases beq_iff_eq.mp e1;cases beq_iff_eq.mp e2;rcases cd with⟨c1,c2,c3,c4,c5,c6,c7,c8,c9,ca,cb⟩
   rcases sl with⟨sl⟩
   have e7:cb=false:=by
    cases cb with
    |false=>rfl
    |true=>cases e3
   have hm:c3=.ref C::bm:=hm;have hs:sl=[k0,k1,k2,k3,some (.builtin "ValueError.__new__"),k5]:=hs;subst hm hs e7;have hn:h.Ns c4 (h.nsMap c4):=.of_isNs (PySem.W.isNs_of_in X e5);exact⟨_,_,_,_,_,_,_,_,_,_,_,_,_,_,_,_,_,X _ _ ho,hn,PySem.W.nsMap_none_of_in X e5 (beq_iff_eq.mp e6),PySem.W.tail_of_in X e4⟩
  next=>cases q
 next=>cases q
theorem obj_there{P:Qm}{w:QZ}{H:Hp}{h:JS}{a:Addr}{o:HO}(x:ObjOk P w H h a o):∃u,h.get? a=some u:=by
 cases o with
 |lst xs=>obtain⟨_,_,_,_,e⟩:=x;exact⟨_,e⟩
 |tup xs=>obtain⟨_,_,_,p⟩:=x;obtain⟨_,e,_⟩:=p;exact⟨_,e⟩
 |dK kvs=>obtain⟨_,_,_,_,o,_,_,e,_⟩:=x;exact⟨_,e⟩
 |dT kvs=>obtain⟨_,_,_,_,o,_,_,e,_⟩:=x;exact⟨_,e⟩
 |set S n=>obtain⟨o,_,_,_,e,_⟩:=x;exact⟨_,e⟩
 |ins C dx fs=>obtain⟨_,_,_,e,_⟩:=x;exact⟨_,e⟩
 |own y=>exact x
 |xd fs=>obtain⟨_,⟨_,_,_,e,_⟩,_⟩:=x;exact⟨_,e⟩
 |rng lo hi=>obtain⟨_,_,_,e⟩:=x;exact⟨_,e⟩
 |frz ob u=>exact⟨_,x.1⟩
 |tbl ps=>exact⟨_,x⟩
 |met f y=>exact⟨_,x⟩
 |ext φ=>exact x.2.1
def Fly(P:Qm)(w:QZ)(outer:List Env)(H:Hp)(s:Shared)(C:Addr)(H':Hp)(e:Value)(s':Shared):Prop:=
 ∃(a t:Addr)(B:JS),e=.ref a/\s'.os=s.os/\Qei s'.gens/\Qz9 B outer a (.ref C) (.ref t) s'.heap/\s.heap.get? a=none/\H' a=none /\
  ∀h2:JS,B.StaysIn h2->s'.heap.UpToSlots h2->Un (frs outer) [] H H' s.heap h2/\HOk P w H' h2
def CXE(P:Qm)(w:QZ):CXT:=λouter H s E e s'=>∃C H',Fly P w outer H s C H' e s'/\E (.ref C) none H'
def QrR(E:XK)(C:Addr)(te:TE):TS:=λ_ σ H=>te σ H λ_ H1=>E (.ref C) none H1
section
variable{X:Cx}{E:XK}{C:Addr}{x:Str}{e0:QV}{te:TE}{np cpos pos:Pos}
theorem Qyz{pins:List (Addr×Obj)}{σ:L2.St}{H:Hp}{s:Shared}{h1:JS}{a:Addr}{vs:List Value}{M:Qlm}{EE:Value->Shared->Prop}(I:Inv X pins σ H s)(hstk:X.stack=X.env::X.outer)(hfr:X.env.frame=some X.env.locals)(hex:X.ex=[])
  (hx:Heap.MadeExcOf s.heap h1 a (.ref C) vs) :
  wpAny M X.A (leaving X.env (.ref a)) (λ_ s2=>Fly X.prog X.w X.outer X.H₀ X.s₀ C H (.ref a) s2) EE { s with heap:=h1 }:=by
 have fr:X.A.frames=some (X.env::X.outer):=by rw[<- hstk];exact I.ok.frames
 have ff:s.heap.FunFrames X.base (X.env::X.outer):=by rw[<- hstk];exact I.stack
 have hin:∀env∈X.env::X.outer,∀b,env.frame=some b->b∈frs (X.env::X.outer):=λenv he b hb=>QbL.mpr ⟨env,he,hb⟩
 refine wpAny_leaves_madeW (base:=PySem.W.hideAll s.heap (frs (X.env::X.outer))) (h:=s.heap) (L:=X.env.locals) fr hfr (λb o q=>PySem.W.of_hideAll _ q) (PySem.W.funFrames_hide ff hin) hx λh' t x1 x2 x3 x4=>?_
 have nex:∀b:Addr,b∉X.ex:=λb=>by rw[hex];simp
 have free0:X.s₀.heap.get? a=none:=by
  cases q:X.s₀.heap.get? a with
  |none=>rfl
  |some o=>
   obtain⟨o',e⟩:=I.base.there a o q (nex a);rw[hx.new] at e;cases e
 have freeH:H a=none:=by
  cases q:H a with
  |none=>rfl
  |some o=>
   obtain⟨u,e⟩:=obj_there (I.hok a o q);rw[hx.new] at e;cases e
 have stf:∀b∈frs (X.env::X.outer),H b=none:=λb hb=>I.stkFree b (by rw[hstk];exact hb)
 refine⟨a,t,_,rfl,I.os,I.bare,x1,free0,freeH,λh2 st up=>?_⟩;have up2:s.heap.UpToSlots h2:=((Qzv hx.keeps).trans x4).trans up;have kp:∀b o,s.heap.get? b=some o->b∉frs (X.env::X.outer)->h2.get? b=some o:=λb o e n=>st b o (PySem.W.hideAll_get _ e n)
 have own:∀b o,X.s₀.heap.get? b=some o->b≠X.env.locals:=λb o e z=>by
  have h1:=Qs e;have h2:=I.ok.above;rw[z] at h1;exact absurd (QR h1 h2) (Yg _)
 have nfr:∀b o,X.s₀.heap.get? b=some o->b∉frs X.outer->b∉frs (X.env::X.outer):=λb o e n hb=>by
  unfold frs at hb n;rw[Y9,hfr] at hb;rcases QM.mp hb with z | z
  ·exact own b o e z
  ·exact n z
 have hdat:∀b∈frs X.outer,∀o,s.heap.get? b=some o->∀vs,o.data≠.fields vs:=λb hb o e=>by
  obtain⟨_,o',ho',hd⟩:=I.funs.mem hb;rw[e] at ho';cases ho';exact hd
 refine⟨⟨λb o e n hb _=>kp b o (I.base.keep b o e n hb (nex b)) (nfr b o e hb),λb o e n hb _=>?_,λb o e n _=>I.base.free b o e n (nex b),λb o e _=>?_,I.base.tups,I.base.frzs,I.base.tbls⟩,λb o e=>?_⟩
 ·obtain⟨sl,e1⟩:=I.base.slot b o e n hb (nex b);obtain⟨sl2,e2⟩:=up2 b _ e1 (hdat b hb _ e1);exact⟨sl2,e2⟩
 ·obtain⟨o',e1⟩:=I.base.there b o e (nex b);by_cases hb:b∈frs X.outer
  ·obtain⟨sl2,e2⟩:=up2 b _ e1 (hdat b hb _ e1);exact⟨_,e2⟩
  ·exact⟨o',kp b o' e1 (nfr b o e hb)⟩
 ·refine(I.hok b o e).stay (λc u hc q=>kp c u q λhm=>?_) (λ_ q=>q) λ_ _ q=>q
  have z:=stf c hm;rcases hc with r | r
  ·rw[r,e] at z;cases z
  ·rw[r] at z;cases z
theorem Qdd(hxe:∀e s1,wpAny (model X.prog X.w) X.A (leaving X.env e) (λ_ s2=>CXE X.prog X.w X.outer X.H₀ X.s₀ E e s2) (λe' s2=>CXE X.prog X.w X.outer X.H₀ X.s₀ E e' s2) s1->X.xe e s1)
  (hstk:X.stack=X.env::X.outer)(hfr:X.env.frame=some X.env.locals)(hex:X.ex=[])(hc:X.calm=true)(hg:Gl X x)(hm:X.mg x=some (.ref C))(q:PySem.W.excIn X.K C mroV "ValueError.__new__" = true)
  (ha:PE X e0 te)(he:starEach [e0] X.env=[(false,eval e0 X.env)]:=by rfl)(hd:(x == ("__debug__" : Str))=false:=by decide) :
  PS X (.Raise (some (.Call (.Name x np) [e0] [] cpos)) none pos) (QrR E C te):=by
 intro pins s σ H D I h;obtain⟨bm,N,nm,qn,bs,hdct,sn,sub,ab,col,dd,k0,k1,k2,k3,k5,mN,hC,hN,hni,T⟩:=Ql6 I.ok.mod.kin q;refine wpAny_Raise_call_subT (k5:=k5) (k3:=k3) (k2:=k2) (k1:=k1) (k0:=k0) (dd:=dd) (col:=col) (ab:=ab) (sub:=sub) (sn:=sn) (hdct:=hdct) (bs:=bs) (N:=N) (q:=qn) (nm:=nm) (C:=C) PySem.F.excBase_ValueError (T.hasType PySem.F.excBase_ValueError.hasBase) (I.ok.hd hc) (by rw[he];rfl) hni (QdO I hg hm ?_ hd);refine⟨rfl,?_⟩;rw[he];refine Qk8 (QbI (thn (ha pins s σ H _ I h) λu s1 ⟨v,H1,I1,r1,q1⟩=>QeB ⟨rfl,by show 1<=sizeLine;decide,I1.bk _ _ hC,hN.keeps I1.bk,T.keeps I1.bk,λh' e hx=>?_⟩));exact hxe _ _ (thn (Qyz I1 hstk hfr hex hx) λ_ s2 z=>⟨C,H1,z,q1⟩)
end
def exO(a C:Addr):HO:=.ext (ExAt a C)
structure ByC (K:PySem.W.Frag) (C R:Addr):Prop where
 ty:PySem.W.typeIn K (.ref R)=some (.type "type")
 cls:(PySem.W.clsIn K R).isSome=true
 base:PySem.W.mroIn K R (.type "BaseException")=some true
 sub:PySem.W.mroIn K C (.ref R)=some true
theorem Qkt{K:PySem.W.Frag}{M:Qlm}{h:JS}{R:Addr}(X:K.In h)(c:(PySem.W.clsIn K R).isSome=true):PySem.W.Looks M h (isType (.ref R)) true:=by
 unfold PySem.W.clsIn at c;split at c
 ·rename_i ho
  intro A' Q' E' s' k z;unfold isType loadHead;exact wpAny_bind (Qlb (k _ _ (X _ _ ho)) (Qo z))
 ·cases c
theorem QkG{M:Qlm}{A:Q1}{E:Value->Shared->Prop}{K:PySem.W.Frag}{a C R:Addr}{s:Shared}{Q:Bool->Shared->Prop}(X:K.In s.heap)(I:ExAt a C s.heap)(c:ByC K C R)(h:Q true s) :
  wpAny M A (excMatches (.ref a) (.ref R)) Q E s:=by
 obtain⟨h0,g0,d0,t0,o0⟩:=s;have l1:=PySem.W.looks_typeIn (M:=M) X c.ty;have l2:=Qkt (M:=M) X c.cls;have l3:=PySem.W.looks_mroIn (M:=M) X c.base;have l4:=PySem.W.looks_mroIn (M:=M) X c.sub;have l5:=I.ty (M:=M);have l6:PySem.W.Looks M h0 (isSubtype (.type "type") (.type "tuple")) false:=PySem.W.Looks.of_pure tc_notTuple;unfold excMatches isExcClass isInstance
 repeat (first | lk | exact h)
abbrev mkd (X:Cx) (e:Value):Cx:={ X with A:=X.A.mark (some e),calm:=false,xe:=λ_ _=>False }
section
variable{X:Cx}{pins:List (Addr×Obj)}{σ:L2.St}{H:Hp}{s:Shared}
theorem Qni(I:Inv X pins σ H s)(e:Value):Inv (mkd X e) pins σ H s:=
 ⟨⟨I.ok.mod,I.ok.kind,I.ok.glob,I.ok.blt,I.ok.above,I.ok.inj,I.ok.has,I.ok.cab,(λh=>nomatch h),I.ok.frames,I.ok.stk,I.ok.exf,I.ok.bs,I.ok.bsz,I.ok.noex,I.ok.exfs,I.ok.funs,I.ok.frf⟩,I.os,I.bare,I.base,I.loc,I.cell,I.free,I.freeC,I.pin,I.hok,I.len⟩
theorem Qp4{e:Value}(ok:X.Ok)(I:Inv (mkd X e) pins σ H s):Inv X pins σ H s:=⟨ok,I.os,I.bare,I.base,I.loc,I.cell,I.free,I.freeC,I.pin,I.hok,I.len⟩
theorem Qnh{a C:Addr}(I:Inv X pins σ H s)(hf:H a=none)(h0:X.s₀.heap.get? a=none)(hp:∀p∈X.pn++pins,p.1≠a)(x:ExAt a C s.heap):Inv X pins σ (upd H a (exO a C)) s:=by
 obtain⟨o,vs,ho,hcl,hd⟩:=id x;have ne:∀b u,H b=some u->b≠a:=λb u e z=>by rw[z,hf] at e;cases e
 refine⟨I.ok,I.os,I.bare,⟨I.base.keep,I.base.slot,λb u e n hx=>?_,I.base.there,λb xs e=>?_,λb u xs e=>?_,λb ps e=>?_⟩,I.loc,I.cell,?_,λy c e=>?_,λp hp'=>?_,λb u e=>?_,I.len⟩
 ·rw[QK (λz=>by rw[z,h0] at e;cases e)];exact I.base.free b u e n hx
 ·have q:=I.base.tups b xs e;rw[QK (ne b _ q)];exact q
 ·have q:=I.base.frzs b u xs e;rw[QK (ne b _ q)];exact q
 ·obtain⟨m,q⟩:=I.base.tbls b ps e;exact⟨m,by rw[QK (ne b _ q)];exact q⟩
 ·obtain⟨m,⟨oL,es,ep,hoL,hdL,_⟩,_⟩:=I.loc;rw[QK (λz=>by rw[z,ho] at hoL;cases hoL;rw[hd] at hdL;cases hdL)];exact I.free
 ·obtain⟨v,oc,hoc,hdc⟩:=I.cell y c e;rw[QK (λz=>by rw[z,ho] at hoc;cases hoc;rw[hd] at hdc;cases hdc)];exact I.freeC y c e
 ·obtain⟨e,n,r⟩:=I.pin p hp';exact⟨e,by rw[QK (hp p hp')];exact n,r⟩
 ·by_cases hb:b=a
  ·subst hb;rw[upd_same] at e;cases e;exact⟨x,⟨o,ho⟩,λh1 h2 y k=>by
    obtain⟨o',vs',e',c',d'⟩:=y;exact⟨o',vs',k _ e',c',d'⟩⟩
  ·rw[QK hb] at e;exact(I.hok b u e).stay (λ_ _ _ q=>q) (λc q=>by rw[QK (ne c _ q)];exact q) λc xs q=>by rw[QK (ne c _ q)];exact q
theorem Qp5{i:Nat}{n:Str}{m:Str->Option Value}{v:Option Value}{h':JS}{tk:Nat}(I:Inv X pins σ H s)(hN:X.N.Nodup)(hi:X.N[i]? = some n)
  (hm:∀(j:Nat)(x:Str)(u:V),X.N[j]? = some x->σ[j]? = some (some u)->Vis X.env.scope x->∃y,RelV u y/\Look X.env s.heap m x y)
  (hn:h'.Ns X.env.locals (λx=>if x=n then v else m x))(hs:QaN X.env.locals s.heap h'):Inv X pins (σ.set i none) H { s with heap:=h',toks:=tk }:=by
 have neL:∀b o,X.s₀.heap.get? b=some o->b≠X.env.locals:=λb o e=>Q2 (QR (Qs e) I.ok.above)
 have cne:=I.cne;refine⟨I.ok,I.os,I.bare,⟨λb o e z hb hx=>(hs.2 b (neL b o e)).trans (I.base.keep b o e z hb hx),λb o e z hb hx=>?_,I.base.free,λb o e hx=>?_,I.base.tups,I.base.frzs,I.base.tbls⟩,⟨_,hn,λj y u e1 e2 e3=>?_⟩,λy c e=>?_,I.free,I.freeC,λp hp=>?_,λb o e=>?_,?_⟩
 ·obtain⟨sl,e1⟩:=I.base.slot b o e z hb hx;exact⟨sl,(hs.2 b (neL b o e)).trans e1⟩
 ·obtain⟨o',e1⟩:=I.base.there b o e hx;exact⟨o',(hs.2 b (neL b o e)).trans e1⟩
 ·by_cases hj:j=i
  ·subst hj;rw[Qfn] at e2;split at e2
   ·split at e2<;>cases e2
   ·exact absurd rfl ‹¬_›
  ·rw[Qa6 (Qb1 hj)] at e2;obtain⟨u',r',q⟩:=hm j y u e1 e2 e3;refine⟨u',r',?_⟩;rcases q with⟨k,e⟩ | ⟨k,c,e,z⟩
   ·have:y≠n:=λe=>hj (Qgy hN e1 (e ▸ hi))
    exact .inl ⟨k,by simp[this,e]⟩
   ·exact .inr ⟨k,c,e,z.sameBut hs (cne y c e)⟩
 ·obtain⟨w',z⟩:=I.cell y c e;exact⟨w',z.sameBut hs (cne y c e)⟩
 ·obtain⟨e,z,ne,nf,d⟩:=I.pin p hp;exact⟨(hs.2 p.1 ne).trans e,z,ne,nf,d⟩
 ·refine(I.hok b o e).stay (λc u hc q=>(hs.2 c ?_).trans q) (λ_ q=>q) λ_ _ q=>q
  rintro rfl;have z:=I.free;rcases hc with r | r
  ·rw[r,e] at z;cases z
  ·rw[r] at z;cases z
 ·rw[ZH];exact I.len
end
def XP(X:Cx)(pins:List (Addr×Obj))(Ex:L2.St->Addr->Hp->Prop)(e:Value)(s1:Shared):Prop:=
 ∃(σ:L2.St)(C:Addr)(H':Hp)(a t:Addr)(B:JS),e=.ref a/\Qz9 B X.stack a (.ref C) (.ref t) s1.heap/\H' a=none/\X.s₀.heap.get? a=none/\(∀p∈X.pn++pins,p.1≠a) /\
  (∀(h2:JS)(tk:Nat),B.StaysIn h2->s1.heap.UpToSlots h2->Inv X pins σ H' { s1 with heap:=h2,toks:=tk })/\Ex σ C H'
abbrev TX:=L2.St->Hp->VK->(Addr->Hp->Prop)->Prop
def PEX(X:Cx)(e:QV)(t:TX):Prop:=∀(pins:List (Addr×Obj))(s:Shared)(σ:L2.St)(H:Hp)(Q:VK)(Ex:Addr->Hp->Prop),Inv X pins σ H s->t σ H Q Ex ->
 wpAny (model X.prog X.w) X.A (eval e X.env) (EP X pins σ Q) (XP X pins λσ1 C H1=>σ1=σ/\Ex C H1) s
section
variable{X:Cx}{k:Nat}{f:Addr}{fd:JQ}{ps:List Str}{sp:Sp}{x:Str}{p pos:Pos}{e:QV}{es:List QV}{t:TA}
end
section
variable{X:Cx}{R:Addr}{i:Nat}{n r:Str}{call hx:QV}{tc:TX}{th:TE}{rp np hp hpos pos:Pos}
end
structure Qoa (k:Nat) (A:Q1):Prop where
 dp:A.depth+3*k+5<recursionLimit
 un:A.units+16*k+200<cLine
theorem Room.m{k:Nat}{A:Q1}(r:Room k A)(e:Value):Qoa k (A.mark (some e)):=⟨r.dp,r.un⟩
structure FnM (P:Qm) (w:QZ) (K:PySem.W.Frag) (mg:Str->Option Value) (base:JS) (k:Nat) (f:Addr) (fd:JQ) (ps:List Str) (sp:Sp):Prop where
 len:∀vs H Q E,sp vs H Q E->vs.length=ps.length
 run:∀(A:Q1)(outer:List Env)(s:Shared)(H:Hp)(args:Args)(us:List Value)(vs:List V)(Q:VK)(E:XK),Qoa k A->Env0 P w K mg base A outer s H->Qfy s fd args (ps.zip us)->Vals vs us->sp vs H Q E ->
  codeAny (model P w) A (.call (.ref f) args) (CR CX0 outer P w H s Q E) s
def cxM(P:Qm)(w:QZ)(K:PySem.W.Frag)(mg:Str->Option Value)(base:JS)(N:List Str)(qual:Str)(scope:Qai)(f:Addr)(cd:Value)(A:Q1)(outer:List Env)(s:Shared)(H:Hp)(E:XK):Cx:=
 { cxOf CX0 P w K mg base N qual scope f cd A outer s H E with calm:=false,xe:=λ_ _=>False }
section
variable{P:Qm}{w:QZ}{K:PySem.W.Frag}{mg:Str->Option Value}{base:JS}
theorem QkN{N ps:List Str}{qual:Str}{scope:Qai}{f:Addr}{cd:Value}{A:Q1}{outer:List Env}{s s1:Shared}{H:Hp}{E:XK}{us:List Value}{vs:List V}
  (S:Yb N ps scope)(e0:Env0 P w K mg base A outer s H)(hl:vs.length=ps.length)(r:Vals vs us)
  (x:InCallC s s.heap.objs.size (bindL (envOfC qual scope s.heap.objs.size f cd).kindOf (ps.zip us) λ_=>none) (cellsFrom (s.heap.objs.size+1) scope.names []) (bindC (envOfC qual scope s.heap.objs.size f cd).kindOf (ps.zip us) λ_=>none) s1) :
  L2.Inv (cxM P w K mg base N qual scope f cd A outer s H E) [] (start N vs) H s1:=by
 have e1:Env0 P w K mg base { A with handled:=none } outer s H:=⟨e0.frames,e0.mod,e0.bs,e0.bsz,e0.funs,e0.frf,e0.hok,e0.bare⟩;have I:=QhL (CX:=CX0) (E:=E) (A:={ A with handled:=none }) S rfl e1 hl r x;exact⟨⟨I.ok.mod,I.ok.kind,I.ok.glob,I.ok.blt,I.ok.above,I.ok.inj,I.ok.has,I.ok.cab,(λh=>nomatch h),I.ok.frames,I.ok.stk,I.ok.exf,I.ok.bs,I.ok.bsz,I.ok.noex,I.ok.exfs,I.ok.funs,I.ok.frf⟩,I.os,I.bare,I.base,I.loc,I.cell,I.free,I.freeC,I.pin,I.hok,I.len⟩
theorem okM{x qual:Str}{st:J7}{f:Addr}{fd:JQ}{N ps:List Str}{k:Nat}{sp:Sp}(F:Fun K x qual st f fd)(S:Yb N ps (QU st))(len:∀vs H Q E,sp vs H Q E->vs.length=ps.length)
  (hbody:∀(cdv:Value)(A:Q1)(outer:List Env)(s:Shared)(H:Hp)(vs:List V)(Q:VK)(E:XK),Qoa k (A.deeper (envOfC qual (QU st) s.heap.objs.size f cdv))->sp vs H Q E ->
   ∃t,PSs (cxM P w K mg base N qual (QU st) f cdv A outer s H E) (ZU st) t/\t { nx:=λ_ H'=>Q .non H',rt:=Q } (start N vs) H):FnM P w K mg base (k+1) f fd ps sp:=by
 obtain⟨oc,od,kV,doc,pm,an,cdv,ct,osl,rfl,lk,hcd⟩:=F.ex;refine⟨len,λA outer s H args us vs Q E hr e0 hb r hsp=>?_⟩;have hl:=len _ _ _ _ hsp;have KX:K.In s.heap:=e0.mod.kin.keeps λb o e=>(e0.bs b o e).1
 have lim:s.heap.NoLimit:=e0.mod.nolimit.keeps λb o e=>(e0.bs b o e).1
 have hkind:∀y∈ps.zip us,(QU st).names.lookup y.1=some .local∨((QU st).names.lookup y.1=some .cell/\((cellsFrom (s.heap.objs.size+1) (QU st).names []).lookup y.1).isSome=true):=λ⟨n,v⟩ hy=>by
  rcases S.par n (QcV hy).1 with q | q
  ·exact .inl q
  ·exact .inr ⟨q,PySem.W.cellsFrom_some _ _ _ (.inl q)⟩
 have hdp:A.depth<recursionLimit:=by have:=hr.dp;omega
 refine Qta hdp (KX _ _ lk) rfl S.co S.gen rfl (PySem.W.codeRec_of KX hcd) (hb _ _ _ _ ?_);refine QkZ S.kind hkind λenv he s1 x=>?_
 subst he;refine⟨lim.keeps x.toInCall.keep,codeAny_func ?_⟩;have hr2:Qoa k (A.deeper (envOfC qual (QU st) s.heap.objs.size f cdv)):=⟨by have:=hr.dp;show A.depth+1+3*k+5<_;omega,by have:=hr.un;show A.units+3+16*k+200<_;omega⟩;obtain⟨t,ht,hq⟩:=hbody cdv A outer s H vs Q E hr2 hsp;have I:=QkN (E:=E) S e0 hl r x;refine wpAny_mono (ht [] s1 (start N vs) H _ I hq) (λfl s' hs=>?_) λe s' hs=>Jr hs
 have fin:∀{σ':L2.St}{H':Hp}{v:V}{u:Value},L2.Inv (cxM P w K mg base N qual (QU st) f cdv A outer s H E) [] σ' H' s'->RelV v u->Q v H'->CE outer P w H s Q u s':=
  λ{σ' H' v u} J rv q=>⟨v,H',J.os,J.bare,J.base,J.hok,rv,q⟩
 cases fl with
 |ret u=>
  obtain⟨v,σ',H',J,rv,q⟩:=hs;exact fin J rv q
 |next=>
  obtain⟨σ',H',J,q⟩:=hs;exact fin (v:=V.non) (u:=J6) J rfl q
 |brk=>
  obtain⟨_,_,_,q⟩:=hs;exact Jr q
 |cont=>
  obtain⟨_,_,_,q⟩:=hs;exact Jr q
end
section
variable{X:Cx}{k:Nat}{f:Addr}{fd:JQ}{ps:List Str}{sp:Sp}{x:Str}{p pos:Pos}{e:QV}{es:List QV}{t:TA}
theorem Qo7(F:FnM X.prog X.w X.K X.mg X.base k f fd ps sp)(hr:Qoa k X.A)(hg:Gl X x)(hm:X.mg x=some (.ref f))(hk:PySem.W.keepIn X.K (.ref f)=true)(hb:Binds X.K fd ps [])
  (ha:PA X (e::es) t)(hdb:(x == ("__debug__" : Str))=false:=by decide)(he:starEach (e::es) X.env=(false,eval e X.env)::starEach es X.env:=by rfl)(hpl:(backTo pos (starEach es X.env)).any (·.1)=false:=by rfl) :
  PE X (.Call (.Name x p) (e::es) [] pos) (λσ H Q=>t σ H λvs H1=>sp vs H1 Q E0):=by
 intro pins s σ H Q I h;refine Z1 (QdO I hg hm ?_ hdb);refine PySem.W.callWith_K (h₀:=X.base) I.ok.mod.kin hk (thn (ha pos pins s σ H _ I h) λus s1 ⟨vs,H1,I1,r,q⟩=>⟨I1.kIn,?_⟩) he hpl;have hl:us.length=ps.length:=by rw[<- r.length];exact F.len _ _ _ _ q
 have hbb:Qfy s1 fd ⟨us,[]⟩ (ps.zip us):=by
  have z:=hb s1 us I1.kIn (by rw[Zn];exact hl);rw[Zn] at z;exact z
 refine Qel (Qay (F.run X.A X.stack s1 H1 ⟨us,[]⟩ us vs Q _ hr I1.env0 hbb r q) λr s2 hq=>?_);cases r with
 |error e=>exact Jr hq
 |ok fl=>
  cases fl with
  |ret u=>exact I1.after hq
  |next=>exact Jr hq
  |brk=>exact Jr hq
  |cont=>exact Jr hq
end
section
variable{X:Cx}
theorem Qh1:CallR X (.builtin "isinstance") (λxs H Q=>∃a C y c b,xs=[.ref a,y]/\H a=some (exO a C)/\ExC X.K C/\(∀u,RelV y u->u=c)/\PySem.W.kitOne X.K (.ref C) c=some b/\Q (.bl b) H):=by
 intro pins s σ H xs us Q I r h;obtain⟨a,C,y,c,b,rfl,ha,hc,hy,e,q⟩:=h;obtain⟨u,v,rfl,ru,rv⟩:=vals2 r;cases(show u=Jj a from ru);cases hy v rv;exact PySem.W.kia_one (Qvn hc) I.kIn (I.hok a _ ha).1 e (λz=>nomatch z) λtk=>⟨.bl b,H,I.tok tk,rfl,q⟩
theorem bools_eq{bs:List Bool}{us:List Value}(r:Vals (bs.map V.bl) us):us=bs.map ZM:=by
 induction bs generalizing us with
 |nil=>cases r;rfl
 |cons b bs ih=>
  cases r with
  |cons r t=>
   cases(show _=ZM b from r);rw[ih t];rfl
def QdQ:Value->Bool
 |.bool b=>b
 |_=>false
theorem QkT(bs:List Bool):(bs.map ZM).countP QdQ=bs.countP id:=by
 rw[List.countP_map];exact List.countP_congr λb _=>Iff.rfl
def QtP:V->List V->Hp->VK->Prop:=λx vs H Q=>∃(l:Addr)(bs:List Bool),x=.ref l/\vs=[.bl true]/\H l=some (.lst (bs.map V.bl))/\Q (.int (bs.countP id:Nat)) H
theorem QpV:MtR X "list.count" QtP:=by
 intro pins s σ H x vs v us Q I rx rv h;obtain⟨l,bs,rfl,rfl,hH,q⟩:=h;cases rx;obtain⟨u,rfl,ru⟩:=rv.one;cases(show u=ZM true from ru);obtain⟨z,its,n,r,hl,e⟩:=I.lstM hH;have hi:=bools_eq r;subst hi;refine YT F.slot_list_count ⟨_,e,rfl⟩ F.entry_list_count (F.args_list_count_2 _ _) (SeqAt.list_countAt l (bs.map ZM).toArray n none #[] (.bool true) QdQ) ⟨e,λy hy=>?_,?_⟩
 ·obtain⟨b,_,rfl⟩:=Qw.mp (ZO.mp hy);have:=Qch (A:=X.A.in1) (s:=s) b true;rw[show(b == true)=b by cases b<;>rfl] at this;exact this
 ·have e2:((bs.map ZM).toArray.toList.countP QdQ:Nat)=bs.countP id:=QkT bs;rw[e2];exact⟨.int (bs.countP id:Nat),H,I.tok _,⟨_,rfl⟩,q⟩
def QtN:V->List V->Hp->VK->Prop:=λx vs H Q=>∃(l:Addr)(bs:List Bool)(j:Nat),x=.ref l/\vs=[.bl true]/\H l=some (.lst (bs.map V.bl))/\bs[j]? = some true/\(∀m,m<j->bs[m]? = some false)/\Q (.int (j:Nat)) H
theorem QpU:MtR X "list.index" QtN:=by
 intro pins s σ H x vs v us Q I rx rv h;obtain⟨l,bs,j,rfl,rfl,hH,hj,hm,q⟩:=h;cases rx;obtain⟨u,rfl,ru⟩:=rv.one;cases(show u=ZM true from ru);obtain⟨z,its,n,r,hl,e⟩:=I.lstM hH;have hi:=bools_eq r;subst hi;have hlt:=(Q6.mp hj).1;have hsz:(bs.map ZM).toArray.size=bs.length:=by simp
 rw[Qc] at z;have hbig:bs.length<2^60:=Jt z (by decide);refine YT F.slot_list_index ⟨_,e,rfl⟩ F.entry_list_index (F.args_list_index_2 _ _) (SeqAt.list_indexAt l (bs.map ZM).toArray n none #[] (.bool true) QdQ j (by rw[hsz];exact hlt) (by omega) ?_ ?_) ⟨e,λy hy=>?_,?_⟩
 ·have:=(Q6.mp hj).2;simp[QdQ,this]
 ·intro m hm1 hm2;have:=(Q6.mp (hm m hm2)).2;simp[QdQ,this]
 ·obtain⟨b,_,rfl⟩:=Qw.mp (ZO.mp hy);have:=Qch (A:=X.A.in1) (s:=s) b true;rw[show(b == true)=b by cases b<;>rfl] at this;exact this
 ·exact⟨.int (j:Nat),H,I.tok _,⟨_,rfl⟩,q⟩
end
end Rx
namespace Rd
open L2
mutual
inductive Dat (H:Hp):V->Qb->Prop
 |non:Dat H .non .none
 |bl (b:Bool):Dat H (.bl b) (.bool b)
 |int (i:Int):Dat H (.int i) (.int i)
 |str (x:Str):Jx (.str x)=true->Dat H (.str x) (.str x)
 |tup {a:Addr} {xs:List V} {ds:List Qb}:H a=some (.tup xs)->Dats H xs ds->Dat H (.ref a) (.tuple ds)
 |lst {a:Addr} {xs:List V} {ds:List Qb}:H a=some (.lst xs)->Dats H xs ds->Dat H (.ref a) (.list ds)
inductive Dats (H:Hp):List V->List Qb->Prop
 |nil:Dats H [] []
 |cons {x:V} {xs:List V} {d:Qb} {ds:List Qb}:Dat H x d->Dats H xs ds->Dats H (x::xs) (d::ds)
end
mutual
theorem Y5{P:Qm}{w:QZ}{H:Hp}{h:JS}(ok:HOk P w H h):∀(d:Qb)(x:V)(v:Value),Dat H x d->RelV x v->(∃as,Reads h v d as)/\d.canLay0=true
 |.none,_,v,.non,r=>by cases r;exact⟨⟨_,.none⟩,rfl⟩
 |.bool b,_,v,.bl _,r=>by cases r;exact⟨⟨_,.bool b⟩,rfl⟩
 |.int i,_,v,.int _,r=>by obtain⟨t,rfl⟩:=r;exact⟨⟨_,.int i t⟩,rfl⟩
 |.str z,_,v,.str _ c,r=>by obtain⟨t,rfl⟩:=r;exact⟨⟨_,.str z t⟩,c⟩
 |.tuple ds,_,v,.tup (a:=a) (xs:=xs) e q,r=>by
  cases r;obtain⟨_,its,rv,o,ho,hc,_,n,hd⟩:=ok a _ e;obtain⟨⟨as,ra⟩,cl⟩:=Qak ok ds xs its q rv;exact⟨⟨as,.tuple ho hc hd ra⟩,cl⟩
 |.list ds,_,v,.lst (a:=a) (xs:=xs) e q,r=>by
  cases r;obtain⟨_,its,n,rv,ho⟩:=ok a _ e;obtain⟨⟨as,ra⟩,cl⟩:=Qak ok ds xs its q rv;exact⟨⟨a::as,.list ho rfl rfl ra⟩,cl⟩
 |.dict _,_,_,q,_=>nomatch q
theorem Qak{P:Qm}{w:QZ}{H:Hp}{h:JS}(ok:HOk P w H h):∀(ds:List Qb)(xs:List V)(vs:List Value),Dats H xs ds->Vals xs vs->(∃as,ReadsAll h vs ds as)/\Yw ds=true
 |[],_,vs,.nil,r=>by cases r;exact⟨⟨_,.nil⟩,rfl⟩
 |d::ds,_,vs,.cons (x:=x) (xs:=xs) q qs,r=>by
  cases r with
  |cons r rs=>
   obtain⟨⟨a1,r1⟩,c1⟩:=Y5 ok d x _ q r;obtain⟨⟨a2,r2⟩,c2⟩:=Qak ok ds xs _ qs rs;exact⟨⟨_,.cons r1 r2⟩,by simp[Yw,c1,c2]⟩
end
mutual
theorem QjY{H H':Hp}(s:Same H H'):∀(d:Qb)(x:V),Dat H x d->Dat H' x d
 |.none,_,.non=>.non
 |.bool _,_,.bl _=>.bl _
 |.int _,_,.int _=>.int _
 |.str _,_,.str _ c=>.str _ c
 |.tuple ds,_,.tup (xs:=xs) e q=>.tup (s _ _ e) (Qe7 s ds xs q)
 |.list ds,_,.lst (xs:=xs) e q=>.lst (s _ _ e) (Qe7 s ds xs q)
 |.dict _,_,q=>nomatch q
theorem Qe7{H H':Hp}(s:Same H H'):∀(ds:List Qb)(xs:List V),Dats H xs ds->Dats H' xs ds
 |[],_,.nil=>.nil
 |d::ds,_,.cons (x:=x) (xs:=xs) q qs=>.cons (QjY s d x q) (Qe7 s ds xs qs)
end
theorem Dat.same{H H':Hp}{x:V}{d:Qb}(q:Dat H x d)(s:Same H H'):Dat H' x d:=QjY s d x q
theorem Dats.length{H:Hp}:∀{xs:List V}{ds:List Qb},Dats H xs ds->xs.length=ds.length
 |_,_,.nil=>rfl
 |_,_,.cons _ q=>by rw[Qu,Qu,q.length]
section
variable{X:Cx}
def QCG(X:Cx):R2:=λx y H Q=>∃dx dy,Dat H x dx/\Dat H y dy/\X.A.units+min dx.depth dy.depth<cLine/\Q (.bl (QY dx dy)) H
theorem Qx6:OpR X (compareOp .Eq) (QCG X):=by
 intro pins s σ H x y v u Q I rx ry h;obtain⟨dx,dy,qx,qy,hu,q⟩:=h;obtain⟨⟨as,ra⟩,ca⟩:=Y5 I.hok dx x v qx rx;obtain⟨⟨bs,rb⟩,cb⟩:=Y5 I.hok dy y u qy ry;exact SeqAt.compareEq_reads ra rb ca cb hu ⟨.bl _,H,I,rfl,q⟩
open Classical in
noncomputable def eqH (h:JS) (d:Qb) (y:Value):Bool:=decide (∃e as,Reads h y e as/\e.canLay0=true/\QY e d=true)
open Classical in
theorem QBd{h:JS}{d:Qb}{y:Value}(q:∃e as,Reads h y e as/\e.canLay0=true/\QY e d=true):eqH h d y=true:=by
 unfold eqH;exact decide_eq_true q
open Classical in
theorem QBe{h:JS}{d:Qb}{y:Value}(q:¬ ∃e as,Reads h y e as/\e.canLay0=true/\QY e d=true):eqH h d y=false:=by
 unfold eqH;exact decide_eq_false q
theorem QsM{h:JS}{d e:Qb}{y:Value}{as:List Addr}(r:Reads h y e as)(c:e.canLay0=true):eqH h d y=QY e d:=by
 cases q:QY e d with
 |true=>exact QBd ⟨e,as,r,c,q⟩
 |false=>
  refine QBe λ⟨e',as',r',c',q'⟩=>?_
  rw[<- SeqAt.Reads.unique e e' y as as' c r r',q] at q';cases q'
theorem Qfk{h:JS}{d:Qb}:∀{vs:List Value}{ds:List Qb}{as:List Addr},ReadsAll h vs ds as->Yw ds=true->vs.any (eqH h d)=ds.any λe=>QY e d
 |_,_,_,.nil,_=>rfl
 |_,_,_,.cons r rs,c=>by
  simp only[Yw,JY] at c;rw[Qap,Qap,QsM r c.1,Qfk rs c.2]
theorem QeW{A:Q1}{s:Shared}{d:Qb}{v:Value}{bs:List Addr}(rv:Reads s.heap v d bs)(cv:d.canLay0=true):∀{vs:List Value}{ds:List Qb}{as:List Addr},ReadsAll s.heap vs ds as->Yw ds=true->A.units+d.depth<cLine ->
  ∀u∈vs,Qop A s u v (eqH s.heap d u)
 |_,_,_,.nil,_,_=>λu hu=>nomatch hu
 |_,_,_,.cons (d:=e) r rs,c,hu=>λu hm=>by
  simp only[Yw,JY] at c;rcases QM.mp hm with z | z
  ·subst z;rw[QsM r c.1];exact SeqAt.eqAt_reads e d A s _ v _ bs r rv c.1 cv (Jt (Qox (Qf7 _ _) _) hu)
  ·exact QeW rv cv rs c.2 hu u z
def QBQ(X:Cx)(neg:Bool):R2:=λx y H Q=>∃c ps ds d,y=.ref c/\H c=some (.tup ps)/\Dats H ps ds/\Dat H x d/\X.A.in1.units+d.depth<cLine/\Q (.bl (if neg then !(ds.any λe=>QY e d) else ds.any λe=>QY e d)) H
theorem Qx3:OpR X (compareOp .In) (QBQ X false):=by
 intro pins s σ H x y v u Q I rx ry h;obtain⟨c,ps,ds,d,rfl,hc,qs,qx,hu,q⟩:=h;cases ry;obtain⟨⟨as,ra⟩,ca⟩:=Y5 I.hok d x v qx rx;obtain⟨_,its,rv,tp⟩:=I.hok c _ hc;have tp:=TupN.tup tp;obtain⟨⟨bs,rb⟩,cb⟩:=Qak I.hok ds ps its qs rv;refine QrE (eqH s.heap d) tp (λw hw=>QeW ra ca rb cb hu w (ZO.mp hw)) ⟨.bl _,H,I,rfl,?_⟩;rw[show its.toArray.any (eqH s.heap d)=its.any (eqH s.heap d) by simp,Qfk rb cb];exact q
theorem QmH:OpR X (compareOp .NotIn) (QBQ X true):=by
 intro pins s σ H x y v u Q I rx ry h;obtain⟨c,ps,ds,d,rfl,hc,qs,qx,hu,q⟩:=h;cases ry;obtain⟨⟨as,ra⟩,ca⟩:=Y5 I.hok d x v qx rx;obtain⟨_,its,rv,tp⟩:=I.hok c _ hc;have tp:=TupN.tup tp;obtain⟨⟨bs,rb⟩,cb⟩:=Qak I.hok ds ps its qs rv;refine Qlg (eqH s.heap d) tp (λw hw=>QeW ra ca rb cb hu w (ZO.mp hw)) ⟨.bl _,H,I,rfl,?_⟩;rw[show its.toArray.any (eqH s.heap d)=its.any (eqH s.heap d) by simp,Qfk rb cb];exact q
end
end Rd
namespace L2
def Ite(l:Addr):It:=
 ⟨λi H=>∃xs x,H l=some (.lst xs)/\xs[i]? = some x,
  λi H v H'=>∃p x,H p=none/\(∀xs,H l=some (.lst xs)->xs[i]? = some x)/\v=.ref p/\H'=upd H p (.tup [.int (i:Nat),x]),
  λi H=>∃xs,H l=some (.lst xs)/\xs.length<=i⟩
theorem Qly{P:Qm}{w:QZ}{K:PySem.W.Frag}{elts:List QV}{x1}{tpos:Pos}{e it l:Addr}(hne:e≠it) :
  Turn P w K (.Tuple elts x1 tpos) (Ite l) [e,it] e (λi h=>(∃old,IsEnum h e it (i:Nat) old)/\h.IsListIter it l i) where
 mem:=by simp
 obj:=λi h st b hb=>by
  obtain⟨⟨old,a1⟩,⟨o2,a2,_,d2⟩⟩:=st;simp only[QM,Yi,or_false] at hb;rcases hb with rfl | rfl
  ·exact⟨_,a1,λv q=>nomatch q⟩
  ·exact⟨_,a2,λv q=>by rw[d2] at q;cases q⟩
 keep:=λi h h' st k=>by
  obtain⟨⟨old,a1⟩,⟨o2,a2,c2⟩⟩:=st;exact⟨⟨old,k e (by simp) _ a1⟩,o2,k it (by simp) _ a2,c2⟩
 item:=by
  intro X hP hw hK hc i pins s σ H E I hf st hg;subst hP hw hK;obtain⟨xs,x,h1,hx⟩:=hg;obtain⟨⟨old,a1⟩,a2⟩:=st;obtain⟨its,r1,p1,_⟩:=I.list (SqL.of h1);obtain⟨u,hu,ru⟩:=r1.get hx;refine wpAny_pyNext_enum_item a1 a2 p1.isList (x:=u) (by simpa using hu) hne λh' o' l' tp sz kp=>?_
  have fr:H s.heap.objs.size=none:=I.hok.fresh (Qf _);have n1:e≠s.heap.objs.size:=Q2 (Qs a1);have n2:it≠s.heap.objs.size:=by
   obtain⟨o2,a2,_⟩:=a2;exact Q2 (Qs a2)
  refine⟨_,rfl,wpAny_letOwnedTupleGo_enum o' λh2 e2 s2=>?_⟩;have I1:Inv X pins σ (upd H s.heap.objs.size (.tup [.int (i:Nat),x])) { s with heap:=h2,toks:=s.toks+1 }:=by
   refine I.turnedNew (ch:=[e,it]) hf (λb v hb q=>?_) (Qf _) ⟨by show 2<=sizeLine;decide,[.int (i:Nat) s.toks,u],.cons ⟨_,rfl⟩ (.cons ru .nil),?_⟩
   ·simp only[QM,Yi,or_false,not_or] at hb;exact s2.extBut _ _ hb.1 (kp b v hb.1 hb.2 q)
   ·exact⟨_,s2.extBut _ _ n1.symm tp,rfl,rfl,0,rfl⟩
  refine⟨.ref s.heap.objs.size,_,I1,rfl,⟨_,x,fr,λxs' q=>?_,rfl,rfl⟩,⟨⟨u,e2⟩,?_⟩,λb hb=>?_⟩
  ·rw[h1] at q;cases q;exact hx
  ·exact l'.extBut s2.extBut hne.symm
  ·simp only[QM,Yi,or_false] at hb;rcases hb with rfl | rfl
   ·rw[QK n1];exact(hf _ (by simp)).1
   ·rw[QK n2];exact(hf _ (by simp)).1
 done:=by
  intro X hP hw hK hc i pins s σ H E I hf st hg;subst hP hw hK;obtain⟨xs,h1,he⟩:=hg;obtain⟨⟨old,a1⟩,a2⟩:=st;obtain⟨its,r1,p1,_⟩:=I.list (SqL.of h1);have l1:=r1.length;refine wpAny_pyNext_enum_end (I.ok.hd hc) a1 a2 p1.isList (by simp;omega) λh' kp=>⟨rfl,I.turnedAll (t':=s.toks) (ch:=[e,it]) hf λb v hb q=>?_⟩
  simp only[QM,Yi,or_false,not_or] at hb;exact kp b v hb.2 q
 self:=λ_ _ _ _ _ st h=>by
  obtain⟨⟨old,a1⟩,_⟩:=st;exact QzK a1 h
def QA4(ta:TA):TI:=λσ H R=>ta σ H λvs H1=>∃l xs,vs=[.ref l]/\H1 l=some (.lst xs)/\R (Ite l) H1
theorem QnT:bootBuiltins "enumerate" = some (.type "enumerate"):=by decide
section
variable{X:Cx}
theorem QtZ{a:QV}{elts:List QV}{x1}{tpos:Pos}{ta:TA}{p pos:Pos}(hg:Gl X "enumerate")(hm:X.mg "enumerate" = none)(ha:PA X [a] ta)(hs:starEach [a] X.env=[(false,eval a X.env)]:=by rfl) :
  PI X (.Tuple elts x1 tpos) (.Call (.Name "enumerate" p) [a] [] pos) (QA4 ta):=by
 intro pins s σ H R I h;refine Call_ (Qe0 I hg hm QnT (Zv (thn (ha pos pins s σ H _ I h) λus s1 ⟨vs,H1,I1,r1,q1⟩=>?_) hs rfl));obtain⟨l,xs,e,h1,q⟩:=q1;subst e;obtain⟨u,rfl,ru⟩:=vals1 r1;cases(show u=Jj l from ru);obtain⟨its,w1,p1,_⟩:=I1.list (SqL.of h1);refine call_enumerate_list p1.isList λh' e1 i1 sz kp=>?_
 refine QzK (s:={ s1 with heap:=h' }) e1 ?_
 refine⟨s1.heap.objs.size+1,_,_,_,H1,rfl,I1.kept (t':=s1.toks) kp,Qly (by show ¬(s1.heap.objs.size+1=s1.heap.objs.size);omega),⟨⟨_,e1⟩,i1⟩,λb hb=>?_,q⟩;have hb':s1.heap.objs.size<=b:=by
  simp only[QM,Yi,or_false] at hb;rcases hb with rfl | rfl<;>omega
 exact I1.fpOk hb' (I1.hok.fresh hb')
end
section
variable{prog:Qm}{w:QZ}{A:Q1}{R:Qtc->Shared->Prop}{s:Shared}
theorem Qhk{elt tg iter:QV}{ifs:List QV}{g0:Qga}{scope:Qai}{pos:Pos}{it acc:Value}{env:Env}
  (h0:codeAny (model prog w) A (.compLoop (.ListComp elt [g0,⟨tg,iter,ifs,0⟩] scope pos) 1 it acc env) R s)
  (h:wpAny (model prog w) A (pyIter it) (λit' s'=>codeAny (model prog w) A (.compLoop (.ListComp elt [g0,⟨tg,iter,ifs,0⟩] scope pos) 1 it' acc env) R s') (notedBy (model prog w) A env λx s'=>R (.error x) s') s) :
  codeAny (model prog w) A (.compStart (.ListComp elt [g0,⟨tg,iter,ifs,0⟩] scope pos) 1 it acc env) R s:=by
 refine codeAny_of_tree ?_
 show wpAny _ _ ((compStart (.ListComp elt [g0,⟨tg,iter,ifs,0⟩] scope pos) 1 it acc env).onRaise (λx=>do noteFrame x env;standAt theWindowsPlace)) _ _ s;refine wpAny_notedAt ?_
 unfold compStart;show wpAny _ _ (ask >>= _) _ _ s;refine wpAny_bind (wpAny_askSetting (wpAny_ite ?_));split
 ·first
   |exact wpAny_bind (Qo (Qo ⟨rfl,h0⟩))
   |exact Qo ⟨rfl,h0⟩
 ·first
   |exact wpAny_bind (wpAny_rule (wpAny_bind (wpAny_standAt (wpAny_bind (wpAny_mono h (λit' s' h'=>Qo ⟨rfl,h'⟩) λ_ _ x=>x)))))
   |exact wpAny_bind (wpAny_rule (wpAny_bind (wpAny_standAt (wpAny_bind (wpAny_mono h (λit' s' h'=>Qo (Qo ⟨rfl,h'⟩)) λ_ _ x=>x)))))
end
theorem Qlw{Y:Cx}{elt tg iter:QV}{ifs:List QV}{g0:Qga}{scope:Qai}{cpos:Pos}{it D:Addr}(Q:PySem.Fin->Shared->Prop)(E:Value->Shared->Prop)(s:Shared)
  (h:wpAny (model Y.prog Y.w) Y.A (pyNext (.ref it)) (λr s1=>match r with
   |none=>Q (.done .next) s1
   |some v=>wpAny (model Y.prog Y.w) Y.A (letOwnedTupleGo tg (.ref it) v) (λ_ s2=>Qry Y tg ifs (Qn8 Y elt D) v (λs3=>Q (.again (.compLoop (.ListComp elt [g0,⟨tg,iter,ifs,0⟩] scope cpos) 1 (.ref it) (.ref D) Y.env)) s3) s2) E s1) E s) :
  wpAny (model Y.prog Y.w) Y.A (compTurn (.ListComp elt [g0,⟨tg,iter,ifs,0⟩] scope cpos) 1 (.ref it) (.ref D) Y.env) Q E s:=by
 have e:compTurn (.ListComp elt [g0,⟨tg,iter,ifs,0⟩] scope cpos) 1 (.ref it) (.ref D) Y.env=(do
   standAt iter.pos
   match <- pyNext (.ref it) with
   |none=>pure (.done .next)
   |some v=>
    letOwnedTupleGo tg (.ref it) v
    assign tg Y.env v
    let mut ok:=true
    for c in ifs do
     if ok then ok <- isTrue c Y.env (eval c Y.env)
    if ok then
     (do let _ <- call (.builtin "list.append") [.ref D,<- eval elt Y.env])
    again (.compLoop (.ListComp elt [g0,⟨tg,iter,ifs,0⟩] scope cpos) 1 (.ref it) (.ref D) Y.env)):=by rfl
 rw[e];refine wpAny_bind (wpAny_standAt (wpAny_bind (thn h λr s1 h1=>?_)));cases r with
 |none=>exact Qo h1
 |some v=>
  refine wpAny_bind (thn h1 λ_ s2 h2=>?_);refine wpAny_bind (wpAny_mono h2 (λ_ s4 h4=>wpAny_bind (wpAny_mono h4 (λok s5 h5=>?_) λ_ _ f=>f.elim)) λ_ _ f=>f.elim);cases ok with
  |false=>exact Qo h5
  |true=>exact wpAny_bind (wpAny_bind (wpAny_mono h5 (λx s6 h6=>wpAny_bind (wpAny_mono h6 (λ_ s7 h7=>Qo (Qo h7)) λ_ _ f=>f.elim)) λ_ _ f=>f.elim))
def Qn7(Y:Cx)(e:QV)(iter:QV)(D:Addr):Act:=λQ s=>wpAny (model Y.prog Y.w) Y.A (eval iter Y.env) (λx s1=>wpAny (model Y.prog Y.w) Y.A (pyIter x)
 (λitv s2=>codeAny (model Y.prog Y.w) Y.A (.compStart e 1 itv (.ref D) Y.env) (λr s3=>match r with | .ok _=>Q s3 | .error _=>False) s2) (λ_ _=>False) s1) (λ_ _=>False) s
def Qzc(wi:TI)(g:TG)(tc:TT)(p:Addr)(te:TE):St->Hp->(Hp->Prop)->Prop:=λσ H k=>wi σ H λJ H1=>Qkq J (bOf σ g tc (Qwl p te)) k H1
theorem QnV{Y:Cx}{σ:St}{elt tg iter:QV}{ifs:List QV}{g0:Qga}{scope:Qai}{cpos:Pos}{D:Addr}{wi:TI}{g:TG}{tc:TT}{te:TE}(hx:Y.xe=λ_ _=>False)(hc:Y.calm=true)
  (hi:PI Y tg iter wi)(hg:PG Y tg g)(ht:PTs Y ifs tc)(he:PE Y elt te):BodyOk Y σ (Qn7 Y (.ListComp elt [g0,⟨tg,iter,ifs,0⟩] scope cpos) iter D) (Qzc wi g tc D te σ):=by
 intro pins s H k Q I h hQ;have hx':∀(v:Value)(s':Shared),Y.xe v s'->False:=λv s' z=>by rw[hx] at z;exact z
 refine wpAny_mono (hi pins s σ H _ I h) (λv s1 h1=>wpAny_mono h1 (λitv s2 h2=>?_) hx') hx';obtain⟨it,fp,tn,J,H2,e,I2,T,st2,f2,hW⟩:=h2;subst e;have loop:codeAny (model Y.prog Y.w) Y.A (.compLoop (.ListComp elt [g0,⟨tg,iter,ifs,0⟩] scope cpos) 1 (.ref it) (.ref D) Y.env) (λr s3=>match r with | .ok _=>Q s3 | .error _=>False) s2:=
  Qdu (Y:=Y) (gens:=[g0,⟨tg,iter,ifs,0⟩]) (d:=1) hc T st2 f2 (λQ E s h=>Qlw Q E s h) (λx u r=>QgR hx hg ht (λσ4=>QgS hx he) x u r) I2 hW λs' H' I' q=>hQ s' H' I' q
 exact Qhk loop (T.self _ 0 _ _ _ st2 loop)
theorem Qkp{Y:Cx}{elt tg iter tg2 iter2:QV}{ifs ifs2:List QV}{scope:Qai}{cpos:Pos}{it D:Addr}(hs:∀x,foldedSetIterable iter2 Y.env x=pure x)(Q:PySem.Fin->Shared->Prop)(E:Value->Shared->Prop)(s:Shared)
  (h:wpAny (model Y.prog Y.w) Y.A (pyNext (.ref it)) (λr s1=>match r with
   |none=>Q (.done .next) s1
   |some v=>wpAny (model Y.prog Y.w) Y.A (letOwnedTupleGo tg (.ref it) v) (λ_ s2=>Qry Y tg ifs (Qn7 Y (.ListComp elt [⟨tg,iter,ifs,0⟩,⟨tg2,iter2,ifs2,0⟩] scope cpos) iter2 D) v (λs3=>Q (.again (.compLoop (.ListComp elt [⟨tg,iter,ifs,0⟩,⟨tg2,iter2,ifs2,0⟩] scope cpos) 0 (.ref it) (.ref D) Y.env)) s3) s2) E s1) E s) :
  wpAny (model Y.prog Y.w) Y.A (compTurn (.ListComp elt [⟨tg,iter,ifs,0⟩,⟨tg2,iter2,ifs2,0⟩] scope cpos) 0 (.ref it) (.ref D) Y.env) Q E s:=by
 have e:compTurn (.ListComp elt [⟨tg,iter,ifs,0⟩,⟨tg2,iter2,ifs2,0⟩] scope cpos) 0 (.ref it) (.ref D) Y.env=(do
   standAt iter.pos
   match <- pyNext (.ref it) with
   |none=>pure (.done .next)
   |some v=>
    letOwnedTupleGo tg (.ref it) v
    assign tg Y.env v
    let mut ok:=true
    for c in ifs do
     if ok then ok <- isTrue c Y.env (eval c Y.env)
    if ok then
     let x <- eval iter2 Y.env
     standAt iter2.pos
     let x <- foldedSetIterable iter2 Y.env x
     let _ <- runOwn (.compStart (.ListComp elt [⟨tg,iter,ifs,0⟩,⟨tg2,iter2,ifs2,0⟩] scope cpos) 1 (<- holding [x] (pyIter x)) (.ref D) Y.env) Y.env
    again (.compLoop (.ListComp elt [⟨tg,iter,ifs,0⟩,⟨tg2,iter2,ifs2,0⟩] scope cpos) 0 (.ref it) (.ref D) Y.env)):=by rfl
 rw[e];refine wpAny_bind (wpAny_standAt (wpAny_bind (thn h λr s1 h1=>?_)));cases r with
 |none=>exact Qo h1
 |some v=>
  refine wpAny_bind (thn h1 λ_ s2 h2=>?_);refine wpAny_bind (wpAny_mono h2 (λ_ s4 h4=>wpAny_bind (wpAny_mono h4 (λok s5 h5=>?_) λ_ _ f=>f.elim)) λ_ _ f=>f.elim);cases ok with
  |false=>exact Qo h5
  |true=>
   refine wpAny_bind (wpAny_mono h5 (λx s6 h6=>wpAny_bind (wpAny_standAt ?_)) λ_ _ f=>f.elim);rw[hs x];refine wpAny_bind (Qo (wpAny_bind (ZJ (wpAny_mono h6 (λitv s7 h7=>?_) λ_ _ f=>f.elim))));refine wpAny_bind (wpAny_runOwn (h:=none) (Qay h7 λr s8 h8=>?_));cases r with
   |error z=>exact h8.elim
   |ok fl=>exact Qo h8
def QrT(cap:List (Option Nat))(wi:TI)(g:TG)(tc:TT)(wi2:TI)(g2:TG)(tc2:TT)(te:TE):TE:=λσ H Q=>wi σ H λJ H1=>∀p,H1 p=none->Qkq J (bOf (QdU cap σ) g tc (Qzc wi2 g2 tc2 p te)) (Q (.ref p)) (upd H1 p (.lst []))
theorem Y6{J:It}{σ:St}{g:TG}{tc:TT}{te:TE}{p:Addr}{H1:Hp}{Qn:Hp->Prop}(n:Nat)(hn:n<sizeLine)(F:Nat->Option V)(hp:H1 p=none)
  (hs:∀i H2,i<n->Same H1 H2->J.go i H2/\∀x H3,J.yld i H2 x H3->∀(kn:Hp->Prop)(kv:VK),(F i=none->∀H6,Same H2 H6->kn H6)->(∀v,F i=some v->∀H6,Same H2 H6->kv v H6) ->
   g x σ H3 λσ4 H4=>Wk σ σ4/\tc σ4 H4 λb H5=>if b=true then te σ4 H5 kv else kn H5)
  (hst:∀H2,Same H1 H2->J.stop n H2) (hq:∀H2,Same H1 H2->H2 p=some (.lst ((QN n).filterMap F))->Qn H2) :
  Qkq J (bOf σ g tc (Qwl p te)) Qn (upd H1 p (.lst [])):=by
 refine QeY n (λi H2=>Same H1 H2/\H2 p=some (.lst ((QN i).filterMap F))) ⟨JK hp,upd_same⟩ (λi H2 hi ⟨s2,e2⟩=>?_) λH2 ⟨s2,e2⟩=>⟨hst H2 s2,hq H2 s2 e2⟩
 obtain⟨go,st⟩:=hs i H2 hi s2;refine⟨go,λx H3 y k hk=>?_⟩;have er:(QN (i+1)).filterMap F=(QN i).filterMap F++(F i).toList:=by
  rw[QgU,QcW];cases e:F i<;>simp[e]
 refine st x H3 y k (λv H6=>∃ys,H6 p=some (.lst ys)/\ys.length<sizeLine/\k (upd H6 p (.lst (ys++[v])))) (λe H6 s6=>?_) λv e H6 s6=>?_
 ·refine hk _ ⟨s2.trans s6,?_⟩;rw[er,e]
  simpa using s6 p _ e2
 ·have e6:=s6 p _ e2;refine⟨_,e6,?_,hk _ ⟨λb o q=>?_,?_⟩⟩
  ·have:((QN i).filterMap F).length<=i:=by
    have:=Qii F (QN i)
    rwa [Q5] at this
   omega
  ·rw[QK (Q7 q hp)];exact s6 b o (s2 b o q)
  ·rw[upd_same,er,e];rfl
end L2
namespace Rk
open L2 Rd
def pairD(ij:Int×Int):Qb:=.tuple [.int ij.1,.int ij.2]
theorem ZI(b:Int×Int):Qcw (pairD b)=1:=by
 unfold pairD;simp[Qcw,QrF]
end Rk
namespace Rr
section
variable{prog:Qm}{w:QZ}{A:Q1}{E:Value->Shared->Prop}{s:Shared}
end
end Rr
namespace L2
def QwM(ta:TA):TE:=λσ H Q=>ta σ H λvs H1=>∃j,vs=[.int j]/\∀r H2,Same H1 H2->H1 r=none->H2 r=some (.rng 0 j)->Q (.ref r) H2
section
variable{X:Cx}
theorem Qo3{a:QV}{ta:TA}{p pos:Pos}(hg:Gl X "range")(hm:X.mg "range" = none)(ha:PA X [a] ta)(hs:starEach [a] X.env=[(false,eval a X.env)]:=by rfl):PE X (.Call (.Name "range" p) [a] [] pos) (QwM ta):=by
 intro pins s σ H Q I h;refine Z1 (Qe0 I hg hm boot_range ?_);refine Zv (thn (ha pos pins s σ H _ I h) λus s1 ⟨vs,H1,I1,r1,q1⟩=>?_) hs rfl;obtain⟨j,e,q⟩:=q1;subst e;obtain⟨u,rfl,ru⟩:=vals1 r1;obtain⟨t,rfl⟩:=ru;refine call_range_1 ?_
 have hf:H1 s1.heap.objs.size=none:=I1.hok.fresh (Qf _);refine⟨.ref s1.heap.objs.size,upd H1 s1.heap.objs.size (.rng 0 j),I1.laid (t':=s1.toks+1+1) (λb u e=>Qh _ e) (Qf _) ⟨_,_,_,QD _ rfl⟩,rfl,q _ _ (JK hf) hf upd_same⟩
end
end L2
namespace Rs
open PySem.W
def sp{α:Type}(n:Nat)(c:Nat->Nat->Bool):KasT α->(α->Prop)->Prop
 |.ret a,Q=>Q a
 |.ask i j f,Q=>i<n/\j<n/\sp n c (f (c i j)) Q
theorem QaT{α:Type}{n:Nat}{c:Nat->Nat->Bool}{Q Q':α->Prop}(h:∀a,Q a->Q' a):∀{t:KasT α},sp n c t Q->sp n c t Q'
 |.ret a,q=>h a q
 |.ask i j f,q=>⟨q.1,q.2.1,QaT h (t:=f (c i j)) q.2.2⟩
theorem QdF{α β:Type}{n:Nat}{c:Nat->Nat->Bool}{f:α->KasT β}{Q:β->Prop}:∀{t:KasT α},sp n c t (λa=>sp n c (f a) Q)->sp n c (t.bind f) Q
 |.ret a,q=>q
 |.ask i j g,q=>⟨q.1,q.2.1,QdF (t:=g (c i j)) q.2.2⟩
theorem Qi6{α:Type}{n:Nat}{c:Nat->Nat->Bool}{cmp:Nat->Nat->(Bool->Shared->Prop)->Shared->Prop}{s:Shared}{Q:α->Shared->Prop}(hc:∀i j (C:Bool->Shared->Prop),i<n->j<n->C (c i j) s->cmp i j C s) :
  ∀{t:KasT α},sp n c t (λa=>Q a s)->t.kasWp cmp Q s
 |.ret a,q=>q
 |.ask i j f,q=>hc i j _ q.1 q.2.1 (Qi6 hc (t:=f (c i j)) q.2.2)
section
variable{n:Nat}{K:Nat->Int}
abbrev cK (K:Nat->Int) (i j:Nat):Bool:=decide (K i<K j)
structure Good (n:Nat) (p:Array Nat):Prop where
 perm:p.toList.Perm (QN n)
theorem Good.size{p:Array Nat}(g:Good n p):p.size=n:=by
 have:=g.perm.length_eq;rw[Q5,Jh] at this;exact this
def at_(p:Array Nat)(i:Nat):Nat:=p.getD i 0
theorem Qh6{p:Array Nat}{i:Nat}(h:i<p.size):p[i]? = some (at_ p i):=by
 unfold at_;rw[Yu,ZS h];rfl
theorem Qrx{p q:Array Nat}{i j:Nat}(h:p[i]? = q[j]?):at_ p i=at_ q j:=by
 unfold at_;rw[Yu,Yu,h]
theorem Good.lt{p:Array Nat}(g:Good n p)(h0:0<n)(i:Nat):at_ p i<n:=by
 by_cases h:i<p.size
 ·have e:=Qh6 h;have m:at_ p i∈p.toList:=by
   have:=Qkk e;exact YJ.mpr this
  exact JM.mp (g.perm.mem_iff.mp m)
 ·unfold at_;rw[Yu,Array.getElem?_eq_none (by omega)];exact h0
theorem Good.inj{p:Array Nat}(g:Good n p){i j:Nat}(hi:i<n)(hj:j<n)(e:at_ p i=at_ p j):i=j:=by
 have nd:p.toList.Nodup:=g.perm.nodup_iff.mpr List.nodup_range;have hs:=g.size;have hi':i<p.toList.length:=by rw[Jh];omega
 have hj':j<p.toList.length:=by rw[Jh];omega
 have ei:p.toList[i]=at_ p i:=by
  have:=Qh6 (p:=p) (i:=i) (by omega);rw[ZS (by omega)] at this;rw[Qa2];exact QH this
 have ej:p.toList[j]=at_ p j:=by
  have:=Qh6 (p:=p) (i:=j) (by omega);rw[ZS (by omega)] at this;rw[Qa2];exact QH this
 have pw:=ZV.mp nd;rcases Qb6 i j with h | h | h
 ·exact absurd (ei.trans (e.trans ej.symm)) (pw i j hi' hj' h)
 ·exact h
 ·exact absurd (ej.trans (e.symm.trans ei.symm)) (pw j i hj' hi' h)
def kk(K:Nat->Int)(p:Array Nat)(i:Nat):Int:=K (at_ p i)
def Adj(K:Nat->Int)(p:Array Nat)(m:Nat):Prop:=∀i,i+1<m->kk K p i<=kk K p (i+1)
def Dsc(K:Nat->Int)(p:Array Nat)(m:Nat):Prop:=∀i,i+1<m->kk K p (i+1)<kk K p i
theorem Adj.le{p:Array Nat}{m:Nat}(h:Adj K p m){i:Nat}:∀{j:Nat},i<=j->j<m->kk K p i<=kk K p j
 |0,hij,_=>by cases Nat.le_zero.mp hij;exact Qg5 _
 |j+1,hij,hj=>by
  by_cases e:i=j+1
  ·rw[e];exact Qg5 _
  ·exact Int.le_trans (h.le (i:=i) (j:=j) (by omega) (by omega)) (h j hj)
theorem QoT{p:Array Nat}(g:Good n p)(i j:Nat):Good n (kas_rev p i j):=⟨(QgW.mp (mirror_perm p i j _)).trans g.perm⟩
theorem Qr9{p:Array Nat}{m k:Nat}(hm:m<=p.size)(hk:k<m):at_ (kas_rev p 0 m) k=at_ p (m - 1 - k):=by
 refine Qrx ?_
 have:=getElem?_mirror_all (xs:=p) (i:=0) (j:=m) hm k
 rw[if_pos ⟨Jn _,hk⟩,Nat.zero_add] at this;exact this
theorem QtH{p:Array Nat}{m:Nat}(hm:m<=p.size)(d:Dsc K p m):Adj K (kas_rev p 0 m) m:=by
 intro i hi;unfold kk;rw[Qr9 hm (by omega),Qr9 hm hi];have:=d (m - 1 - (i+1)) (by omega);have e:m - 1 - (i+1)+1=m - 1 - i:=by omega
 rw[e] at this;exact Int.le_of_lt this
theorem QlP{p:Array Nat}(g:Good n p)(h0:0<n):∀(f a:Nat),1<=a->Adj K p a ->
  sp n (cK K) (kas_asc p f a) (λm=>a<=m/\m<=a+f/\Adj K p m/\(m=a+f∨kk K p m<kk K p (m - 1)))
 |0,a,_,h=>⟨Qf _,Qf _,h,.inl rfl⟩
 |f+1,a,ha,h=>by
  refine⟨g.lt h0 a,g.lt h0 (a - 1),?_⟩;show sp n (cK K) (if decide (kk K p a<kk K p (a - 1))=true then .ret a else kas_asc p f (a+1)) _;by_cases e:kk K p a<kk K p (a - 1)
  ·rw[decide_eq_true e,if_pos rfl];exact⟨Qf _,Qa3 _ _,h,.inr e⟩
  ·rw[decide_eq_false e,if_neg (by simp)];refine QaT ?_ (QlP g h0 f (a+1) (by omega) ?_)
   ·rintro m ⟨h1,h2,h3,h4⟩;exact⟨by omega,by omega,h3,h4.imp (λq=>by omega) id⟩
   ·intro i hi;by_cases q:i+1<a
    ·exact h i q
    ·have e1:i=a - 1:=by omega
     have e2:i+1=a:=by omega
     rw[e2,e1];exact Int.not_lt.mp e
theorem Qvm(inj:∀i j,i<n->j<n->K i=K j->i=j){p:Array Nat}(g:Good n p){i j:Nat}(hi:i<n)(hj:j<n)(h:i≠j):kk K p i≠kk K p j:=
 λe=>h (g.inj hi hj (inj _ _ (g.lt (by omega) i) (g.lt (by omega) j) e))
theorem QlO(inj:∀i j,i<n->j<n->K i=K j->i=j){p:Array Nat}(g:Good n p)(h0:0<n):∀(f a:Nat),1<=a->a+f<=n->Dsc K p a ->
  sp n (cK K) (kas_desc f p a 0) (λr=>r.1=p/\r.2.2=0/\a<=r.2.1/\r.2.1<=a+f/\Dsc K p r.2.1)
 |0,a,_,_,h=>⟨rfl,rfl,Qf _,Qf _,h⟩
 |f+1,a,ha,haf,h=>by
  refine⟨g.lt h0 a,g.lt h0 (a - 1),?_⟩;show sp n (cK K) (if decide (kk K p a<kk K p (a - 1))=true then(if 0 > 0 then kas_desc f (kas_rev p (a - (0+1)) a) (a+1) 0 else kas_desc f p (a+1) 0) else _) _;by_cases e:kk K p a<kk K p (a - 1)
  ·rw[decide_eq_true e,if_pos rfl,if_neg (by omega)];refine QaT ?_ (QlO inj g h0 f (a+1) (by omega) (by omega) ?_)
   ·rintro r ⟨h1,h2,h3,h4,h5⟩;exact⟨h1,h2,by omega,by omega,h5⟩
   ·intro i hi;by_cases q:i+1<a
    ·exact h i q
    ·have e1:i=a - 1:=by omega
     have e2:i+1=a:=by omega
     rw[e2,e1];exact e
  ·rw[decide_eq_false e,if_neg (by simp)];refine⟨g.lt h0 (a - 1),g.lt h0 a,?_⟩;show sp n (cK K) (if decide (kk K p (a - 1)<kk K p a)=true then .ret (p,a,0) else _) _;have ne:=Qvm (K:=K) inj g (i:=a - 1) (j:=a) (by omega) (by omega) (by omega);rw[decide_eq_true (by omega),if_pos rfl];exact⟨rfl,rfl,Qf _,Qa3 _ _,h⟩
def Run(K:Nat->Int)(n:Nat)(r:Nat×Array Nat):Prop:=Good n r.2/\1<=r.1/\r.1<=n/\Adj K r.2 r.1
theorem QoI{p:Array Nat}(g:Good n p){m:Nat}(h1:1<=m)(hm:m<=n)(d:Dsc K p m):sp n (cK K) (kas_tail3 m n p) (Run K n):=by
 refine QdF ?_
 have hs:=g.size;have g':=QoT g 0 m;refine QaT ?_ (QlP g' (by omega) (n - m) m h1 (QtH (by omega) d))
 rintro k ⟨a,b,c,_⟩;exact⟨g',by omega,by omega,c⟩
theorem Qir(inj:∀i j,i<n->j<n->K i=K j->i=j){p:Array Nat}(g:Good n p){m:Nat}(hm:m+1<=n)(d:Dsc K p (m+1)):sp n (cK K) (kas_descPart m n p) (Run K n):=by
 refine QdF ?_
 refine QaT ?_ (QlO inj g (by omega) (n - (m+1)) (m+1) (by omega) (by omega) d)
 rintro⟨p',k,q⟩ ⟨e1,e2,h3,h4,h5⟩;have e1:p'=p:=e1;have e2:q=0:=e2;subst e1 e2;show sp n (cK K) (if 0 > 0 then _ else kas_tail3 k n p') _;rw[if_neg (by omega)];have h3:m+1<=k:=h3;have h4:k<=m+1+(n - (m+1)):=h4;exact QoI g (by omega) (by omega) h5
theorem QoJ(inj:∀i j,i<n->j<n->K i=K j->i=j){p:Array Nat}(g:Good n p)(h0:0<n):sp n (cK K) (kas_count n p) (Run K n):=by
 refine QdF ?_
 refine QaT ?_ (QlP g h0 (n - 1) 1 (Qf _) (λi hi=>by omega))
 rintro m ⟨h1,h2,h3,h4⟩;show sp n (cK K) (if(m == n)=true then .ret (m,p) else if m > 1 then _ else kas_descPart m n p) _;by_cases e:m=n
 ·rw[if_pos (beq_iff_eq.mpr e)];exact⟨g,h1,by omega,h3⟩
 ·rw[if_neg (λq=>e (beq_iff_eq.mp q))];by_cases e2:m > 1
  ·rw[if_pos e2];refine⟨g.lt h0 0,g.lt h0 (m - 1),?_⟩;show sp n (cK K) (if decide (kk K p 0<kk K p (m - 1))=true then .ret (m,p) else _) _;have le:=h3.le (i:=0) (j:=m - 1) (by omega) (by omega);have ne:=Qvm (K:=K) inj g (i:=0) (j:=m - 1) (by omega) (by omega) (by omega);rw[decide_eq_true (by omega),if_pos rfl];exact⟨g,h1,by omega,h3⟩
  ·rw[if_neg e2];have em:m=1:=by omega
   subst em;refine Qir inj g (by omega) λi hi=>?_
   have ei:i=0:=by omega
   subst ei;rcases h4 with q | q
   ·omega
   ·exact q
theorem Qgj{p:Array Nat}(g:Good n p)(h0:0<n){k:Nat}(A:Adj K p k):∀(f l r:Nat),l<=r->r<=k->r - l<=f->(∀i,i<l->kk K p i<=kk K p k)->(∀i,r<=i->i<k->kk K p k<kk K p i) ->
  sp n (cK K) (kas_place p k f l r) (λm=>m<=k/\(∀i,i<m->kk K p i<=kk K p k)/\∀i,m<=i->i<k->kk K p k<kk K p i)
 |0,l,r,h1,h2,h3,a,b=>⟨by omega,a,λi hi hk=>b i (by omega) hk⟩
 |f+1,l,r,h1,h2,h3,a,b=>by
  show sp n (cK K) (if l≥r then .ret l else _) _;by_cases e:l≥r
  ·rw[if_pos e];exact⟨by omega,a,λi hi hk=>b i (by omega) hk⟩
  ·rw[if_neg e];refine⟨g.lt h0 k,g.lt h0 ((l+r) / 2),?_⟩;show sp n (cK K) (if decide (kk K p k<kk K p ((l+r) / 2))=true then kas_place p k f l ((l+r) / 2) else kas_place p k f ((l+r) / 2+1) r) _;by_cases q:kk K p k<kk K p ((l+r) / 2)
   ·rw[decide_eq_true q,if_pos rfl];refine Qgj g h0 A f l ((l+r) / 2) (by omega) (by omega) (by omega) a λi hi hk=>?_
    exact Int.lt_of_lt_of_le q (A.le hi hk)
   ·rw[decide_eq_false q,if_neg (by simp)];refine Qgj g h0 A f ((l+r) / 2+1) r (by omega) h2 (by omega) (λi hi=>?_) b;exact Int.le_trans (A.le (i:=i) (j:=(l+r) / 2) (by omega) (by omega)) (Int.not_lt.mp q)
theorem QrV(h0:0<n):∀(f k:Nat){p:Array Nat},Good n p->k+f<=n->Adj K p k->sp n (cK K) (kas_bin f p k) (λp'=>Good n p'/\Adj K p' (k+f))
 |0,k,p,g,_,A=>⟨g,A⟩
 |f+1,k,p,g,hk,A=>by
  refine QdF ?_
  refine QaT ?_ (Qgj g h0 A k 0 k (Jn _) (Qf _) (by omega) (λi hi=>by omega) (λi hi hk=>by omega))
  rintro l ⟨hl,lo,hi⟩;have hs:=g.size;have bb:∀j,at_ (bubble p k (k - l)) j=if j=l then at_ p k else if l<j/\j<=k then at_ p (j - 1) else at_ p j:=by
   intro j;have:=getElem?_bubble (xs:=p) (src:=k) (by omega) (k - l) (by omega) j
   have e:k - (k - l)=l:=by omega
   rw[e] at this;split
   ·rename_i q;rw[if_pos q] at this;exact Qrx this
   ·rename_i q
    rw[if_neg q] at this;split
    ·rename_i q2;rw[if_pos q2] at this;exact Qrx this
    ·rename_i q2;rw[if_neg q2] at this;exact Qrx this
  refine QaT ?_ (QrV h0 f (k+1) (p:=bubble p k (k - l)) ⟨(QgW.mp (bubble_perm p k (k - l))).trans g.perm⟩ (by omega) ?_)
  ·rintro p' ⟨a,b⟩;exact⟨a,by rw[show k+(f+1)=k+1+f by omega];exact b⟩
  ·intro i hik;unfold kk;rw[bb,bb];by_cases c1:i+1<l
   ·rw[if_neg (by omega),if_neg (by omega),if_neg (by omega),if_neg (by omega)];exact A i (by omega)
   ·by_cases c2:i+1=l
    ·rw[if_neg (by omega),if_neg (by omega),if_pos c2];exact lo i (by omega)
    ·by_cases c3:i=l
     ·rw[if_pos c3,if_neg (by omega),if_pos ⟨by omega,by omega⟩];exact Int.le_of_lt (hi (i+1 - 1) (by omega) (by omega))
     ·rw[if_neg c3,if_pos ⟨by omega,by omega⟩,if_neg (by omega),if_pos ⟨by omega,by omega⟩];have:=A (i - 1) (by omega);rw[show i - 1+1=i+1 - 1 by omega] at this;exact this
theorem Qtx(inj:∀i j,i<n->j<n->K i=K j->i=j)(h0:0<n):sp n (cK K) (kas_sort n) (λp=>Good n p/\Adj K p n):=by
 have g:Good n (Ya (QN n)):=⟨Qog _⟩;refine QdF ?_
 refine QaT ?_ (QoJ inj g h0)
 rintro⟨m,p⟩ ⟨g',h1,h2,A⟩;show sp n (cK K) (if m<n then kas_bin (n - max m 1) p (max m 1) else .ret p) _;have e:max m 1=m:=by have:1<=m:=h1;omega
 rw[e];by_cases q:m<n
 ·rw[if_pos q];refine QaT ?_ (QrV h0 (n - m) m g' (by omega) A)
  rintro p' ⟨a,b⟩;exact⟨a,by rw[show m+(n - m)=n by omega] at b;exact b⟩
 ·rw[if_neg q];have h2:m<=n:=h2;have e2:m=n:=by omega
  subst e2;exact⟨g',A⟩
end
end Rs
namespace Rs
open PySem.W PySem.Calls
section
variable{prog:Qm}{w:QZ}{A:Q1}{E:Value->Shared->Prop}{s:Shared}
def Kept(a:Addr)(h h':JS):Prop:=∀b x,b≠a->h.get? b=some x->h'.get? b=some x
theorem Qge{h:JS}{a:Addr}(f:Obj->Obj):Kept a h (h.update a f):=λb x hb e=>(Heap.get?_update_ne _ _ _ _ hb).trans e
theorem Qhu{h:JS}{a:Addr}(o:Obj):Kept a h (h.push o):=λb x _ e=>Qh _ e
theorem Kept.trans{a:Addr}{h h1 h2:JS}(k:Kept a h h1)(k':Kept a h1 h2):Kept a h h2:=λb x hb e=>k' b x hb (k b x hb e)
theorem Ql4(vs:List Value):(QN vs.length).map (λi=>vs.getD i J6)=vs:=by
 apply Qb3
 intro i;rw[Qz];by_cases h:i<vs.length
 ·rw[Zb h,Qd h];show some (vs.getD i J6)=_;rw[Qg,Qd h];rfl
 ·rw[JC (by simpa using h),JC (by omega)];rfl
theorem QfD{a:Addr}{vs:List Value}{n:Nat}{P:PySem.Fin->Shared->Prop}(ho:s.heap.get? a=some (seqObj "list" vs.toArray n))(h64:vs.length<64)(K:Nat->Int)(κ:Qcg)
  (inj:∀i j,i<vs.length->j<vs.length->K i=K j->i=j)
  (hkind:2<=vs.length->∀h':JS,Kept a s.heap h'->∀(Q':Qcg->Shared->Prop)(E':Value->Shared->Prop),Q' κ { s with heap:=h' }->wpAny (model prog w) A (keyKind' vs.toArray) Q' E' { s with heap:=h' })
  (hcmp:∀h':JS,Kept a s.heap h'->∀(i j:Nat)(C:Bool->Shared->Prop),i<vs.length->j<vs.length->C (decide (K i<K j)) { s with heap:=h' }->wpAny (model prog w) A (keyLt' κ (vs.getD i J6) (vs.getD j J6)) C (λ_ _=>False) { s with heap:=h' })
  (h:∀p:Array Nat,Good vs.length p->Adj K p vs.length->∀(h':JS)(e:Nat),Kept a s.heap h'->h'.get? a=some (seqObj "list" (Ya (p.toList.map λi=>vs.getD i J6)) e)->P (.done (.ret .none)) { s with heap:=h' }) :
  wpAny (model prog w) A (Qfx.«list.sort» ⟨[.ref a],[]⟩) P E s:=by
 have ha:a<s.heap.objs.size:=Qs ho;obtain⟨e1,ho1⟩:∃e1,(s.heap.update a (YH λ_=>(#[]:Array Value))).get? a=some (seqObj "list" #[] e1):=⟨_,get?_update_seq ho λ_=>#[]⟩
 have K3:Kept a s.heap (((s.heap.update a (YH λ_=>(#[]:Array Value))).push (seqObj "tuple" vs.toArray 0)).push (seqObj "list" #[] 0)):=(Qge _).trans ((Qhu _).trans (Qhu _));have ho6:(((s.heap.update a (YH λ_=>(#[]:Array Value))).push (seqObj "tuple" vs.toArray 0)).push (seqObj "list" #[] 0)).get? a=some (seqObj "list" #[] e1):=Qh _ (Qh _ ho1);rw[list_sort_plain];refine wpAny_bind (listItems_at ho rfl ?_);refine wpAny_bind (Qoo ho rfl ?_ (by rw[Ql,Z7];omega) (Jn _));refine wpAny_bind (Qwo ho1 rfl ?_);refine wpAny_bind (wpAny_newTuple ?_ (by show vs.length<=_;rw[Z7];omega));refine wpAny_bind (wpAny_newList ?_ (Jn _));refine ZJ ?_
 show wpAny (model prog w) A _ P E { s with heap:=((s.heap.update a (YH λ_=>(#[]:Array Value))).push (seqObj "tuple" vs.toArray 0)).push (seqObj "list" #[] 0) }
 dsimp only
 generalize (((s.heap.update a (YH λ_=>(#[]:Array Value))).push (seqObj "tuple" vs.toArray 0)).push (seqObj "list" #[] 0))=h3 at K3 ho6 ⊢;have fin:∀p:Array Nat,Good vs.length p->Adj K p vs.length->∀st':SortSt,(arrOf st').map (·.2)=Ya (p.toList.map λi=>vs.getD i J6)->failedOf st'=none ->
   ∃e2,(h3.update a (YH λ_=>Ya (p.toList.map λi=>vs.getD i J6))).get? a=some (seqObj "list" (Ya (p.toList.map λi=>vs.getD i J6)) e2):=λp _ _ _ _ _=>⟨_,get?_update_seq ho6 λ_=>_⟩
 by_cases h2:vs.toArray.size<2
 ·rw[if_pos h2,if_pos h2];refine wpAny_bind (Qo ?_);rw[StateT.run_pure];refine wpAny_bind (Qo ?_)
  dsimp only
  have gg:Good vs.length (Ya (QN vs.length)):=⟨Qog _⟩;have aa:Adj K (Ya (QN vs.length)) vs.length:=λi hi=>by rw[Ql] at h2;omega
  have out:(arrOf (SortSt.mk' general' (vs.toArray.zip vs.toArray) #[] 7 none)).map (·.2)=Ya ((Ya (QN vs.length)).toList.map λi=>vs.getD i J6):=by
   show(vs.toArray.zip vs.toArray).map (·.2)=_;rw[QdX,Ql4];apply Array.toList_inj.mp
   rw[Array.toList_map,Array.toList_zip];show(vs.zip vs).map (·.2)=vs;exact List.map_snd_zip (Qf _)
  obtain⟨e2,he2⟩:=fin _ gg aa _ out rfl;rw[out];refine wpAny_bind (Qwo ho6 rfl ?_);refine wpAny_bind (Qoo ho6 rfl ?_ (Jn _) (by rw[Ql,Qc,QdX,Q5,Z7];omega));simp only[bne_self_eq_false,Qaq,if_false];exact Qo (h _ gg aa _ e2 (K3.trans (Qge _)) he2)
 ·rw[if_neg h2,if_neg h2];have h2':2<=vs.length:=by rw[Ql] at h2;omega
  refine wpAny_bind (hkind h2' h3 K3 _ _ ?_);refine wpAny_bind (wpAny_mono (kat_run (Q:=λst' s'=>∃p:Array Nat,Good vs.length p/\Adj K p vs.length/\arrOf st'=p.map (kas_item (vs.toArray.zip vs.toArray))/\failedOf st'=none/\s'={ s with heap:=h3 })
   (G:=λp s'=>Good vs.length p/\Adj K p vs.length/\s'={ s with heap:=h3 }) rfl h2' h64 (λp' st' s' a1 a2 a3 a4=>⟨p',a4.1,a4.2.1,a2,a3,a4.2.2⟩)
   (Qi6 (c:=cK K) (λi j C hi hj hC=>hcmp h3 K3 i j C hi hj hC) (QaT (λp q=>⟨q.1,q.2,rfl⟩) (Qtx inj (by omega))))) ?_ λ_ _ e=>e)
  rintro⟨⟨⟩,st'⟩ s' ⟨p,gg,aa,har,hf,rfl⟩
  dsimp only
  have out:=kat_snds (ks:=vs) rfl har;obtain⟨e2,he2⟩:=fin p gg aa st' out hf;rw[out];refine wpAny_bind (Qwo ho6 rfl ?_);refine wpAny_bind (Qoo ho6 rfl ?_ (Jn _) (by rw[Ql,Qc,Jh,gg.size,Z7];omega));rw[hf];simp only[bne_self_eq_false,Qaq,if_false];exact Qo (h p gg aa _ e2 (K3.trans (Qge _)) he2)
theorem Qd3{Q:Value->Shared->Prop}{l:Addr}{T:String}{o:Obj}{vs:List Value}{n:Nat}(hT:T = "list" ∨ T = "tuple")(ho:s.heap.get? l=some o)(hc:o.cls=.type T)(hd:o.data=.seq vs.toArray n)(h64:vs.length<64)
  (h:∀h':JS,(∀b x,s.heap.get? b=some x->h'.get? b=some x)->∀(P:PySem.Fin->Shared->Prop)(E':Value->Shared->Prop),(∀s2,Q (.ref h'.objs.size) s2->P (.done (.ret .none)) s2) ->
   wpAny (model prog w) A.in1.in1 (Qfx.«list.sort» ⟨[.ref h'.objs.size],[]⟩) P E' { s with heap:=h'.push (seqObj "list" vs.toArray 0) }) :
  wpAny (model prog w) A (call (.builtin "sorted") [.ref l]) Q E s:=by
 refine Calls.call_function_entry kind_sorted plain_sorted entry_sorted (args_sorted1 _) ?_
 unfold Qfx.«sorted»;refine wpAny_bind (m:=checkCount "sorted" 1 1 _) (Qo ?_);refine wpAny_bind (wpAny_collect_seq (items:=vs.toArray) l hT ho hc hd (λh' kp=>?_) (by rw[Ql,Z7];omega));refine wpAny_bind (wpAny_newList ?_ (by rw[QdX,Z7];omega));have hoL:(h'.push (seqObj "list" vs.toArray 0)).get? h'.objs.size=some (seqObj "list" vs.toArray 0):=QD _ rfl;show wpAny _ _ _ _ _ { s with heap:=h'.push (seqObj "list" vs.toArray 0) };refine wpAny_bind (ZJ (Qdy slot_list_sort ⟨_,hoL,rfl⟩ entry_list_sort ?body (args_list_sort _)));exact h h' kp _ _ λs2 hq=>⟨_,rfl,Qo ⟨_,rfl,hq⟩⟩
structure PairV (h:JS) (v:Value) (ij:Int×Int):Prop where
 it:∃(a:Addr)(o:Obj)(n:Nat)(t u:Tok),v=.ref a/\h.get? a=some o/\o.cls=.type "tuple" /\ o.data=.seq #[.int ij.1 t,.int ij.2 u] n
theorem PairV.keep{h h':JS}{v:Value}{ij:Int×Int}(q:PairV h v ij)(k:∀b x,h.get? b=some x->h'.get? b=some x):PairV h' v ij:=by
 obtain⟨a,o,n,t,u,e,g,c,d⟩:=q.it;exact⟨a,o,n,t,u,e,k _ _ g,c,d⟩
inductive PairsV (h:JS):List Value->List (Int×Int)->Prop
 |nil:PairsV h [] []
 |cons {v:Value} {vs:List Value} {ij:Int×Int} {L:List (Int×Int)}:PairV h v ij->PairsV h vs L->PairsV h (v::vs) (ij::L)
theorem PairsV.keep{h h':JS}(k:∀b x,h.get? b=some x->h'.get? b=some x):∀{vs:List Value}{L:List (Int×Int)},PairsV h vs L->PairsV h' vs L
 |_,_,.nil=>.nil
 |_,_,.cons q r=>.cons (q.keep k) (r.keep k)
theorem PairsV.len{h:JS}:∀{vs:List Value}{L:List (Int×Int)},PairsV h vs L->vs.length=L.length
 |_,_,.nil=>rfl
 |_,_,.cons _ r=>by rw[Qu,Qu,r.len]
theorem PairsV.at_{h:JS}:∀{vs:List Value}{L:List (Int×Int)},PairsV h vs L->∀i,i<vs.length->PairV h (vs.getD i J6) (L.getD i (0,0))
 |_,_,.nil,i,hi=>by simp at hi
 |_,_,.cons q r,0,hi=>q
 |_,_,.cons q r,i+1,hi=>by
  have:=r.at_ i (by simpa using hi)
  simpa using this
theorem PairsV.firsts{h:JS}:∀{vs:List Value}{L:List (Int×Int)},PairsV h vs L->∃fs,KatTups h vs fs/\fs.length=vs.length/\∀v∈fs,∃i t,v=Qag i t
 |_,_,.nil=>⟨[],.nil,rfl,λv hv=>nomatch hv⟩
 |_,_,.cons q r=>by
  obtain⟨fs,k,l,f⟩:=r.firsts;obtain⟨a,o,n,t,u,e,g,c,d⟩:=q.it;subst e;refine⟨_::fs,KatTups.cons g c d rfl k,by rw[Qu,Qu,l],λv hv=>?_⟩;rcases QM.mp hv with z | z
  ·exact⟨_,_,z⟩
  ·exact f v z
def code(ij:Int×Int):Int:=64*ij.1+ij.2
theorem QvM{a b:Int×Int}(ha:0<=a.2/\a.2<64)(hb:0<=b.2/\b.2<64):decide (code a<code b)=if a.1=b.1 then(if a.2=b.2 then false else decide (a.2<b.2)) else decide (a.1<b.1):=by
 unfold code;split
 ·split
  ·exact decide_eq_false (by omega)
  ·by_cases q:a.2<b.2
   ·rw[decide_eq_true q];exact decide_eq_true (by omega)
   ·rw[decide_eq_false q];exact decide_eq_false (by omega)
 ·by_cases q:a.1<b.1
  ·rw[decide_eq_true q];exact decide_eq_true (by omega)
  ·rw[decide_eq_false q];exact decide_eq_false (by omega)
theorem Qut{v v':Value}{a b:Int×Int}{C:Bool->Shared->Prop}(pa:PairV s.heap v a)(pb:PairV s.heap v' b)(ha:0<=a.2/\a.2<64)(hb:0<=b.2/\b.2<64)(h:C (decide (code a<code b)) s) :
  wpAny (model prog w) A (keyLt' (tuples' true) v v') C E s:=by
 obtain⟨x,ox,n,t,u,rfl,gx,cx,dx⟩:=pa.it;obtain⟨y,oy,m,t',u',rfl,gy,cy,dy⟩:=pb.it;rw[QvM ha hb] at h;refine kat_lt gx dx gy dy ?_
 show KatLex prog w A true false C [(.int a.1 t,.int b.1 t'),(.int a.2 u,.int b.2 u')] 0 s;refine kat_cons (Qic ?_);by_cases e:a.1=b.1
 ·rw[if_pos e] at h;rw[show(a.1 == b.1)=true from beq_iff_eq.mpr e];refine kat_yes (kat_cons (Qic ?_));by_cases e2:a.2=b.2
  ·rw[if_pos e2] at h;rw[show(a.2 == b.2)=true from beq_iff_eq.mpr e2];exact kat_yes (kat_nil h)
  ·rw[if_neg e2] at h;rw[show(a.2 == b.2)=false from beq_eq_false_iff_ne.mpr e2];exact kat_no (kat_one _ _ (lt_int h))
 ·rw[if_neg e] at h;rw[show(a.1 == b.1)=false from beq_eq_false_iff_ne.mpr e];exact kat_no (oneLt_int h)
theorem QmF{vs:List Value}{L:List (Int×Int)}{Q:Qcg->Shared->Prop}(r:PairsV s.heap vs L)(h2:2<=vs.length)(h:Q (tuples' true) s):wpAny (model prog w) A (keyKind' vs.toArray) Q E s:=by
 obtain⟨fs,k,l,f⟩:=r.firsts;refine kat_kind (T:=.type "int") k (by omega) (λv hv=>?_) (by decide) ?_
 ·obtain⟨i,t,rfl⟩:=f v hv;exact Looks.of_pure rfl
 ·rw[show(QcS "int" != QcS "tuple")=true by decide];exact h
theorem Qce{a:Addr}{vs:List Value}{L:List (Int×Int)}{n:Nat}{P:PySem.Fin->Shared->Prop}(ho:s.heap.get? a=some (seqObj "list" vs.toArray n))(h64:vs.length<64)(r:∀h',Kept a s.heap h'->PairsV h' vs L)(nd:L.Nodup)(hb:∀ij∈L,0<=ij.2/\ij.2<64)
  (h:∀p:Array Nat,Good vs.length p->Adj (λi=>code (L.getD i (0,0))) p vs.length->∀(h':JS)(e:Nat),Kept a s.heap h'->h'.get? a=some (seqObj "list" (Ya (p.toList.map λi=>vs.getD i J6)) e)->P (.done (.ret .none)) { s with heap:=h' }) :
  wpAny (model prog w) A (Qfx.«list.sort» ⟨[.ref a],[]⟩) P E s:=by
 have hl:vs.length=L.length:=(r s.heap (λb x _ e=>e)).len;have hb':∀i,i<vs.length->0<=(L.getD i (0,0)).2/\(L.getD i (0,0)).2<64:=λi hi=>by
  rw[Qg,Qd (by omega)];exact hb _ (Jz _)
 refine QfD ho h64 (λi=>code (L.getD i (0,0))) (tuples' true) (λi j hi hj e=>?_) (λh2 h' k Q' E' q=>QmF (s:={ s with heap:=h' }) (r h' k) h2 q) (λh' k i j C hi hj q=>Qut (s:={ s with heap:=h' }) ((r h' k).at_ i hi) ((r h' k).at_ j hj) (hb' i hi) (hb' j hj) q) h;have bi:=hb' i hi;have bj:=hb' j hj;have e:code (L.getD i (0,0))=code (L.getD j (0,0)):=e;unfold code at e;have e':L.getD i (0,0)=L.getD j (0,0):=Qc4 (by omega) (by omega);rw[Qg,Qg,Qd (by omega),Qd (by omega)] at e';have pw:=ZV.mp nd;rcases Qb6 i j with q | q | q
 ·exact absurd e' (pw i j (by omega) (by omega) q)
 ·exact q
 ·exact absurd e'.symm (pw j i (by omega) (by omega) q)
end
theorem QhN{α:Type}{L:List α}{d:α}{p:Array Nat}(g:Good L.length p):(p.toList.map λi=>L.getD i d).Perm L:=by
 have e:(QN L.length).map (λi=>L.getD i d)=L:=by
  apply Qb3
  intro i;rw[Qz];by_cases h:i<L.length
  ·rw[Zb h,Qd h];show some (L.getD i d)=_;rw[Qg,Qd h];rfl
  ·rw[JC (by simpa using h),JC (by omega)];rfl
 have:=g.perm.map λi=>L.getD i d
 rwa [e] at this
theorem QhM{L:List (Int×Int)}{p:Array Nat}(g:Good L.length p)(ad:Adj (λi=>code (L.getD i (0,0))) p L.length)(inj:∀i j,i<L.length->j<L.length->code (L.getD i (0,0))=code (L.getD j (0,0))->i=j) :
  (p.toList.map λi=>L.getD i (0,0)).Pairwise λa b=>code a<code b:=by
 rw[ZV];intro i j hi hj hij;rw[Qc,Jh] at hi hj;have hs:=g.size;rw[Qct,Qct,Qa2,Qa2];have ei:p[i]=at_ p i:=by have:=Qh6 (p:=p) (i:=i) (by omega);rw[ZS (by omega)] at this;exact QH this
 have ej:p[j]=at_ p j:=by have:=Qh6 (p:=p) (i:=j) (by omega);rw[ZS (by omega)] at this;exact QH this
 rw[ei,ej];have le:=ad.le (i:=i) (j:=j) (by omega) (by omega);have ne:=Qvm (K:=λi=>code (L.getD i (0,0))) inj g (i:=i) (j:=j) (by omega) (by omega) (by omega);have le:code (L.getD (at_ p i) (0,0))<=code (L.getD (at_ p j) (0,0)):=le;have ne:code (L.getD (at_ p i) (0,0))≠code (L.getD (at_ p j) (0,0)):=ne;omega
end Rs
namespace L2
open _root_.Rd _root_.Rk _root_.Rs
section
variable{X:Cx}
theorem QeP{P:Qm}{w:QZ}{H:Hp}{h:JS}(ok:HOk P w H h):∀{xs:List V}{L:List (Int×Int)}{vs:List Value},Dats H xs (L.map Rk.pairD)->Vals xs vs->PairsV h vs L
 |_,[],vs,.nil,r=>by cases r;exact .nil
 |_,ij::L,vs,.cons (x:=x) (xs:=xs) q qs,r=>by
  cases r with
  |cons r rs=>
   refine .cons ?_ (QeP ok qs rs)
   cases q with
   |@tup a ys ds e q2=>
    cases r;obtain⟨_,its,rv,o,ho,hc,_,n,hd⟩:=ok a _ e;cases q2 with
    |cons q3 q4=>
     cases q4 with
     |cons q5 q6=>
      cases q6;cases q3;cases q5;cases rv with
      |cons r1 r2=>
       cases r2 with
       |cons r3 r4=>
        cases r4;obtain⟨t,rfl⟩:=r1;obtain⟨u,rfl⟩:=r3;exact⟨_,o,n,t,u,rfl,ho,hc,hd⟩
theorem QiL{H:Hp}:∀{xs:List V}{L:List (Int×Int)},Dats H xs (L.map Rk.pairD)->∀i,i<xs.length->Dat H (xs.getD i .non) (Rk.pairD (L.getD i (0,0)))
 |_,[],.nil,i,hi=>by simp at hi
 |_,ij::L,.cons q qs,0,hi=>q
 |_,ij::L,.cons q qs,i+1,hi=>by
  have:=QiL (L:=L) qs i (by simpa using hi)
  simpa using this
theorem Qil:∀{xs:List V}{vs:List Value},Vals xs vs->∀i,i<xs.length->RelV (xs.getD i .non) (vs.getD i J6)
 |_,_,.nil,i,hi=>by simp at hi
 |_,_,.cons q qs,0,hi=>q
 |_,_,.cons q qs,i+1,hi=>by
  have:=Qil qs i (by simpa using hi)
  simpa using this
theorem QgH{H:Hp}{f:Nat->V}{g:Nat->Int×Int}:∀{is:List Nat},(∀i∈is,Dat H (f i) (Rk.pairD (g i)))->Dats H (is.map f) ((is.map g).map Rk.pairD)
 |[],_=>.nil
 |i::is,h=>.cons (h i (.head _)) (QgH λj hj=>h j (.tail _ hj))
theorem Qgc{f:Nat->V}{g:Nat->Value}:∀{is:List Nat},(∀i∈is,RelV (f i) (g i))->Vals (is.map f) (is.map g)
 |[],_=>.nil
 |i::is,h=>.cons (h i (.head _)) (Qgc λj hj=>h j (.tail _ hj))
def Qma:List V->Hp->VK->Prop:=λxs H Q=>∃(l:Addr)(vs:List V)(L:List (Int×Int)),xs=[.ref l]/\H l=some (.lst vs)/\Dats H vs (L.map Rk.pairD)/\L.Nodup/\L.length<64/\(∀ij∈L,0<=ij.2/\ij.2<64) /\
 ∀(t:Addr)(ys:List V)(M:List (Int×Int))(H2:Hp),Same H H2->H t=none->H2 t=some (.lst ys)->Dats H2 ys (M.map Rk.pairD)->M.Perm L->M.Pairwise (λa b=>Rs.code a<Rs.code b)->Q (.ref t) H2
theorem QdV:CallR X (.builtin "sorted") Qma:=by
 intro pins s σ H xs us Q I r h;obtain⟨l,vs,L,rfl,hl,ds,nd,h64,hb,q⟩:=h;obtain⟨u,rfl,ru⟩:=vals1 r;cases ru;obtain⟨hz,its,n,rv,ho⟩:=I.hok l _ hl;have pv:=QeP I.hok ds rv;have lv:=ds.length;rw[Qc] at lv;have li:=rv.length;have lp:=pv.len;refine Qd3 (.inl rfl) ho rfl rfl (by omega) λh' kp P E' hP=>?_
 refine Qce (s:={ s with heap:=h'.push (seqObj "list" its.toArray 0) }) (vs:=its) (L:=L) (QD _ rfl) (by omega) (λh2 k2=>?_) nd hb λp g ad h2 e k2 e2=>hP _ ?_
 ·exact(pv.keep kp).keep λb x e=>k2 b x (Q2 (Qs e)) (Qh _ e)
 ·have I1:Inv X pins σ H { s with heap:=h' }:=I.kept (t':=s.toks) kp;have hf:H h'.objs.size=none:=I1.hok.fresh (Qf _);have hp:∀i∈p.toList,i<vs.length:=λi hi=>by have:=JM.mp (g.perm.mem_iff.mp hi);omega
  have I2:Inv X pins σ (upd H h'.objs.size (.lst (p.toList.map λi=>vs.getD i .non))) { s with heap:=h2 }:=
   I1.laid (t':=s.toks) (λb x e'=>k2 b x (Q2 (Qs e')) (Qh _ e')) (Qf _) (show ObjOk X.prog X.w _ _ _ (.lst _) from⟨by rw[Qc,Jh,g.size];exact Ji (Rk.ZB (by omega)),_,e,Qgc λi hi=>Qil rv i (hp i hi),e2⟩)
  have g':Good L.length p:=by rw[<- lp];exact g
  have ad':Adj (λi=>Rs.code (L.getD i (0,0))) p L.length:=by rw[<- lp];exact ad
  refine⟨.ref h'.objs.size,_,I2,rfl,q _ _ (p.toList.map λi=>L.getD i (0,0)) _ (JK hf) hf upd_same (QgH λi hi=>(QiL ds i (hp i hi)).same (JK hf)) (QhN g') (QhM g' ad' λi j hi hj e=>?_)⟩;have bi:0<=(L.getD i (0,0)).2/\(L.getD i (0,0)).2<64:=by rw[Qg,Qd hi];exact hb _ (Jz _)
  have bj:0<=(L.getD j (0,0)).2/\(L.getD j (0,0)).2<64:=by rw[Qg,Qd hj];exact hb _ (Jz _)
  unfold Rs.code at e;have e':L.getD i (0,0)=L.getD j (0,0):=Qc4 (by omega) (by omega);rw[Qg,Qg,Qd hi,Qd hj] at e';have pw:=ZV.mp nd;rcases Qb6 i j with z | z | z
  ·exact absurd e' (pw i j hi hj z)
  ·exact z
  ·exact absurd e'.symm (pw j i hj hi z)
end
end L2
namespace Re
open AutoSeq1 (wpAny_loadPart')
end Re
namespace L2
section
variable{X:Cx}
end
end L2
namespace Rk
open L2
end Rk
namespace L2
section
variable{X:Cx}{pins:List (Addr×Obj)}{σ:St}{H:Hp}
theorem Qcy{M:List Str}{scope:Qai}{fp:List Addr}{σ':St}{H3:Hp}{s3 s':Shared}{D:Addr}{i:Nat}{y:Str}{py:Pos}{Mo:Qlm}{A:Q1}{E:Value->Shared->Prop}{Q:Value->Shared->Prop}
  (I3:Inv X pins σ H3 s3)(f3:∀b∈fp,FpOk X pins H3 b)(J:Inv (blk X M scope (Qcp X.env scope.names []) fp s3 H3 s3.heap.objs.size) [] σ' H s')
  (hN:X.N.Nodup)(hi:X.N[i]? = some y)(hl:X.env.scope.names.lookup y=some .local)(hq:∀s2,Inv X pins (σ.set i (some (.ref D))) H s2->Q .none s2) :
  wpAny Mo A (assign (.Name y py) X.env (.ref D)) (λ_ s2=>∃m,s2.heap.Ns s3.heap.objs.size m/\∀h',QaN s3.heap.objs.size s2.heap h'->Q .none { s2 with heap:=h' }) E s':=by
 have J0:Inv X pins σ H s':=QnW I3 f3 J (Heap.SameBut.refl ..);obtain⟨m,hn,_⟩:=J.loc;have hC:H s3.heap.objs.size=none:=J.free;have lt:X.env.locals<s3.heap.objs.size:=I3.lt;refine QzL (Qhj J0 hN hi (Qx hl) (show RelV (.ref D) (.ref D) from rfl) (λs2 J2 ⟨a,sb,ha⟩=>?_) (.inr hl));have ea:a=X.env.locals∨X.env.cells.lookup y=some a:=ha;have na:s3.heap.objs.size≠a:=by
  rcases ea with z | z
  ·rw[z];exact QfH lt
  ·obtain⟨v,o,ho,_⟩:=I3.cell y a z;exact QfH (Qs ho)
 refine⟨m,hn.sameBut sb na,λh' hs=>hq _ ?_⟩;refine J2.turned (t':=s2.toks) (it:=s3.heap.objs.size) (λb o hb e=>hs.extBut b o hb e) hC (QfH lt) (.inr I3.sz) (λx c e z=>?_) λp hp z=>?_
 ·obtain⟨v,o,ho,_⟩:=I3.cell x c e;exact absurd (z ▸ Qs ho) (Yg _)
 ·have e:=(I3.pin p hp).1;exact absurd (z ▸ Qs e) (Yg _)
end
theorem Qjy{X:Cx}{M:List Str}{cap:List (Option Nat)}{elt tg iter:QV}{ifs:List QV}{scope:Qai}{pos:Pos}{wi:TI}{g:TG}{tc:TT}{te:TE}{i:Nat}{y:Str}{py spos:Pos}(hN:X.N.Nodup)(hiy:X.N[i]? = some y)(hly:X.env.scope.names.lookup y=some .local)(hc:X.calm=true)(ok:QgO X.N X.env.scope M scope cap=true)
  (hi:PI X tg iter wi)(hb:∀cl ex s3 H3 C,PG (blk X M scope cl ex s3 H3 C) tg g/\PTs (blk X M scope cl ex s3 H3 C) ifs tc/\PE (blk X M scope cl ex s3 H3 C) elt te)
  (hs:∀x,foldedSetIterable iter X.env x=pure x:=by intro _;rfl)(hsw:swapsWith (.ListComp elt [⟨tg,iter,ifs,0⟩] scope pos) (some (.Name y py)) spos.line X.env=pure true:=by rfl):PS X (.Assign [.Name y py] (.ListComp elt [⟨tg,iter,ifs,0⟩] scope pos) spos) (QoG (tComp cap wi g tc te) (Qbc i)):=by
 intro pins s σ H D I h;have c:=CapOk.of ok;rw[Qs8 _ _ _ _ hsw];refine wpAny_bind (wpAny_standAt (wpAny_bind ?_));show wpAny _ X.A (do let _ <- comprehension (.ListComp elt [⟨tg,iter,ifs,0⟩] scope pos) scope X.env _ (newList []) false (eval iter X.env) (some (assign (.Name y py) X.env))) _ _ s;refine wpAny_bind (wpAny_mono (QcD (use:=some (assign (.Name y py) X.env)) (Q:=λ_ s'=>SP X pins D .next s') rfl hs (QiO (I.ok.cells c)) c.kind c.loc ?_) (λ_ s' hq=>Qo (Qo hq)) λ_ _ e=>e);refine thn (hi pins s σ H _ I h) λv s1 h1=>thn h1 λitv s2 h2=>?_
 obtain⟨it,fp,tn,J,H2,e,I2,T,st2,f2,hW⟩:=h2;subst e;refine Zq (Qey c.cell (by intro y hy;simp at hy) (λh₁ hns₁ hsb₁=>?_) c.kind);have I3:Inv X pins σ (upd H2 s2.heap.objs.size (.lst [])) { s2 with heap:=s2.heap.push { cls:=.type "list",data:=.seq ([]:List Value).toArray } }:=I2.lnew (t':=s2.toks) (ys:=[]) .nil (Jn _);have lt2:∀b∈fp,b<s2.heap.objs.size:=λb hb=>by obtain⟨o,e,_⟩:=T.obj _ _ st2 b hb;exact Qs e
 have f3:∀b∈fp,FpOk X pins (upd H2 s2.heap.objs.size (.lst [])) b:=λb hb=>(f2 b hb).upd (Q2 (lt2 b hb))
 generalize hs3:({ s2 with heap:=s2.heap.push { cls:=.type "list",data:=.seq ([]:List Value).toArray } }:Shared)=s3 at I3;have e3:s3.heap=s2.heap.push { cls:=.type "list",data:=.seq ([]:List Value).toArray }:=by rw[<- hs3]
 have z3:s3.heap.objs.size=s2.heap.objs.size+1:=by rw[e3,QbT]
 have hk:∀b o,s3.heap.get? b=some o->h₁.get? b=some o:=λb o e=>hsb₁.extBut b o (by
  have:=Qs e;rw[e3] at this;exact Q2 this) (Qh _ (e3 ▸ e))
 have hn₁:h₁.Ns s3.heap.objs.size λ_=>none:=by rw[e3];exact hns₁
 have B:=Qfg (t4:=s3.toks+([]:List (Str×Value)).length) (fp:=fp) I3 c f3 (λb hb=>by rw[z3];exact Qft (lt2 b hb)) hn₁ hk;have st4:tn 0 h₁:=T.keep _ _ _ st2 λb hb o e=>hk b o (by rw[e3];exact Qh _ e)
 have fp4:∀b∈fp,FpOk (blk X M scope (Qcp X.env scope.names []) fp s3 (upd H2 s2.heap.objs.size (.lst [])) s3.heap.objs.size) [] (upd H2 s2.heap.objs.size (.lst [])) b:=λb hb=>by
  refine⟨(f3 b hb).1,(B.ok.exf b hb).1,B.ok.exfs b hb,.inl hb,(B.ok.exf b hb).2,λp hp=>(nomatch hp)⟩
 obtain⟨hg,ht,he⟩:=hb (Qcp X.env scope.names []) fp s3 (upd H2 s2.heap.objs.size (.lst [])) s3.heap.objs.size;have loop:codeAny (model X.prog X.w) X.A (.compLoop (.ListComp elt [⟨tg,iter,ifs,0⟩] scope pos) 0 (.ref it) (.ref s2.heap.objs.size) (compEnvC scope (Qcp X.env scope.names []) s3.heap.objs.size X.env))
   (compPost (model X.prog X.w) X.A X.xe (some (assign (.Name y py) X.env)) (λ_ s'=>SP X pins D .next s') (.ref s2.heap.objs.size) s3.heap.objs.size) { s3 with heap:=h₁,toks:=s3.toks+([]:List (Str×Value)).length }:=by
  refine Qdu (Y:=blk X M scope (Qcp X.env scope.names []) fp s3 (upd H2 s2.heap.objs.size (.lst [])) s3.heap.objs.size) (gens:=[⟨tg,iter,ifs,0⟩]) (d:=0) hc T st4 fp4
   (λQ E s h=>Qja Q E s h) (λx u r=>QgR rfl hg ht (λσ4=>QgS rfl he) x u r) B (hW _ (I2.hok.fresh (Qf _))) λs' H' I' q=>?_
  exact Qcy (Q:=λ_ s'=>SP X pins D .next s') I3 f3 I' hN hiy hly λs2' J2=>⟨_,H',J2,q⟩
 exact QdA loop (T.self _ 0 _ _ _ st4 loop)
theorem Qmp{X:Cx}{M:List Str}{cap:List (Option Nat)}{elt tg iter tg2 iter2:QV}{ifs ifs2:List QV}{scope:Qai}{pos:Pos}{wi wi2:TI}{g g2:TG}{tc tc2:TT}{te:TE}{i:Nat}{y:Str}{py spos:Pos}(hN:X.N.Nodup)(hiy:X.N[i]? = some y)(hly:X.env.scope.names.lookup y=some .local)(hc:X.calm=true)(ok:QgO X.N X.env.scope M scope cap=true)
  (hi:PI X tg iter wi)(hb:∀cl ex s3 H3 C,PG (blk X M scope cl ex s3 H3 C) tg g/\PTs (blk X M scope cl ex s3 H3 C) ifs tc/\PI (blk X M scope cl ex s3 H3 C) tg2 iter2 wi2/\PG (blk X M scope cl ex s3 H3 C) tg2 g2/\PTs (blk X M scope cl ex s3 H3 C) ifs2 tc2/\PE (blk X M scope cl ex s3 H3 C) elt te)
  (hs:∀x,foldedSetIterable iter X.env x=pure x:=by intro _;rfl)(hs2:∀env x,foldedSetIterable iter2 env x=pure x:=by intro _ _;rfl)(hsw:swapsWith (.ListComp elt [⟨tg,iter,ifs,0⟩,⟨tg2,iter2,ifs2,0⟩] scope pos) (some (.Name y py)) spos.line X.env=pure true:=by rfl):PS X (.Assign [.Name y py] (.ListComp elt [⟨tg,iter,ifs,0⟩,⟨tg2,iter2,ifs2,0⟩] scope pos) spos) (QoG (QrT cap wi g tc wi2 g2 tc2 te) (Qbc i)):=by
 intro pins s σ H D I h;have c:=CapOk.of ok;rw[Qs8 _ _ _ _ hsw];refine wpAny_bind (wpAny_standAt (wpAny_bind ?_));show wpAny _ X.A (do let _ <- comprehension (.ListComp elt [⟨tg,iter,ifs,0⟩,⟨tg2,iter2,ifs2,0⟩] scope pos) scope X.env _ (newList []) false (eval iter X.env) (some (assign (.Name y py) X.env))) _ _ s;refine wpAny_bind (wpAny_mono (QcD (use:=some (assign (.Name y py) X.env)) (Q:=λ_ s'=>SP X pins D .next s') rfl hs (QiO (I.ok.cells c)) c.kind c.loc ?_) (λ_ s' hq=>Qo (Qo hq)) λ_ _ e=>e);refine thn (hi pins s σ H _ I h) λv s1 h1=>thn h1 λitv s2 h2=>?_
 obtain⟨it,fp,tn,J,H2,e,I2,T,st2,f2,hW⟩:=h2;subst e;refine Zq (Qey c.cell (by intro y hy;simp at hy) (λh₁ hns₁ hsb₁=>?_) c.kind);have I3:Inv X pins σ (upd H2 s2.heap.objs.size (.lst [])) { s2 with heap:=s2.heap.push { cls:=.type "list",data:=.seq ([]:List Value).toArray } }:=I2.lnew (t':=s2.toks) (ys:=[]) .nil (Jn _);have lt2:∀b∈fp,b<s2.heap.objs.size:=λb hb=>by obtain⟨o,e,_⟩:=T.obj _ _ st2 b hb;exact Qs e
 have f3:∀b∈fp,FpOk X pins (upd H2 s2.heap.objs.size (.lst [])) b:=λb hb=>(f2 b hb).upd (Q2 (lt2 b hb))
 generalize hs3:({ s2 with heap:=s2.heap.push { cls:=.type "list",data:=.seq ([]:List Value).toArray } }:Shared)=s3 at I3;have e3:s3.heap=s2.heap.push { cls:=.type "list",data:=.seq ([]:List Value).toArray }:=by rw[<- hs3]
 have z3:s3.heap.objs.size=s2.heap.objs.size+1:=by rw[e3,QbT]
 have hk:∀b o,s3.heap.get? b=some o->h₁.get? b=some o:=λb o e=>hsb₁.extBut b o (by
  have:=Qs e;rw[e3] at this;exact Q2 this) (Qh _ (e3 ▸ e))
 have hn₁:h₁.Ns s3.heap.objs.size λ_=>none:=by rw[e3];exact hns₁
 have B:=Qfg (t4:=s3.toks+([]:List (Str×Value)).length) (fp:=fp) I3 c f3 (λb hb=>by rw[z3];exact Qft (lt2 b hb)) hn₁ hk;have st4:tn 0 h₁:=T.keep _ _ _ st2 λb hb o e=>hk b o (by rw[e3];exact Qh _ e)
 have fp4:∀b∈fp,FpOk (blk X M scope (Qcp X.env scope.names []) fp s3 (upd H2 s2.heap.objs.size (.lst [])) s3.heap.objs.size) [] (upd H2 s2.heap.objs.size (.lst [])) b:=λb hb=>by
  refine⟨(f3 b hb).1,(B.ok.exf b hb).1,B.ok.exfs b hb,.inl hb,(B.ok.exf b hb).2,λp hp=>(nomatch hp)⟩
 obtain⟨hg,ht,hi2,hg2,ht2,he⟩:=hb (Qcp X.env scope.names []) fp s3 (upd H2 s2.heap.objs.size (.lst [])) s3.heap.objs.size;have loop:codeAny (model X.prog X.w) X.A (.compLoop (.ListComp elt [⟨tg,iter,ifs,0⟩,⟨tg2,iter2,ifs2,0⟩] scope pos) 0 (.ref it) (.ref s2.heap.objs.size) (compEnvC scope (Qcp X.env scope.names []) s3.heap.objs.size X.env))
   (compPost (model X.prog X.w) X.A X.xe (some (assign (.Name y py) X.env)) (λ_ s'=>SP X pins D .next s') (.ref s2.heap.objs.size) s3.heap.objs.size) { s3 with heap:=h₁,toks:=s3.toks+([]:List (Str×Value)).length }:=by
  refine Qdu (Y:=blk X M scope (Qcp X.env scope.names []) fp s3 (upd H2 s2.heap.objs.size (.lst [])) s3.heap.objs.size) (gens:=[⟨tg,iter,ifs,0⟩,⟨tg2,iter2,ifs2,0⟩]) (d:=0) hc T st4 fp4
   (λQ E s h=>Qkp (hs2 _) Q E s h) (λx u r=>QgR rfl hg ht (λσ4=>QnV rfl hc hi2 hg2 ht2 he) x u r) B (hW _ (I2.hok.fresh (Qf _))) λs' H' I' q=>?_
  exact Qcy (Q:=λ_ s'=>SP X pins D .next s') I3 f3 I' hN hiy hly λs2' J2=>⟨_,H',J2,q⟩
 exact QdA loop (T.self _ 0 _ _ _ st4 loop)
end L2
namespace Rk
open L2 _root_.Rd
section
variable{X:Cx}
def QCE(X:Cx):R2:=λx y H Q=>∃dx dy,Dat H x dx/\Dat H y dy/\X.A.units+min dx.depth dy.depth<cLine/\Q (.bl (!QY dx dy)) H
theorem Qx1:OpR X (compareOp .NotEq) (QCE X):=by
 intro pins s σ H x y v u Q I rx ry h;obtain⟨dx,dy,qx,qy,hu,q⟩:=h;obtain⟨⟨as,ra⟩,ca⟩:=Y5 I.hok dx x v qx rx;obtain⟨⟨bs,rb⟩,cb⟩:=Y5 I.hok dy y u qy ry;exact SeqAt.compareNe_reads ra rb ca cb hu ⟨.bl _,H,I,rfl,q⟩
end
end Rk
namespace Rk
open L2
theorem QBo:bootBuiltins "ValueError" = some (.type "ValueError"):=by decide
def QlN:List QV->Option (List Str)
 |[]=>some []
 |.Constant (.str x) _ _::es=>(QlN es).map (x::·)
 |_::_=>none
theorem Qix{X:Cx}:∀{es:List QV}{ws:List Str},QlN es=some ws->PA X es (λ_ H Q=>Q (ws.map V.str) H)
 |[],ws,h=>by cases h;exact Qq
 |e::es,ws,h=>by
  unfold QlN at h;split at h
  ·rename_i e2;cases e2
  ·rename_i e2
   cases e2;obtain⟨vs,hv,rfl⟩:=JG.mp h;exact Qiy (Zo Jb (Qix hv)) λσ H Q q=>q
  ·cases h
def Qvp(x:Str):List QV->Option (List Str)
 |[]=>some []
 |.Call (.Name f _) [.Name y _,.Name n _] [] _::es=>if f = "isinstance" /\ y=x then(Qvp x es).map (n::·) else none
 |_::_=>none
def QCu(K:PySem.W.Frag)(cs:List Addr):TA:=λσ H Q=>∃(a C:Addr)(bs:List Bool),σ[0]? = some (some (.ref a))/\H a=some (Rx.exO a C)/\Rx.ExC K C/\Zw (λc b=>PySem.W.kitOne K (.ref C) (.ref c)=some b) cs bs/\Q (bs.map V.bl) H
theorem QfS{X:Cx}{x:Str}(hN:X.N[0]? = some x)(hv:Vis X.env.scope x)(hd:(x == ("__debug__" : Str))=false)(hcd:(x == ("__classdict__" : Str))=false)(hg:Gl X "isinstance")(hm:X.mg "isinstance" = none) :
  ∀{es:List QV}{ns:List Str}{cs:List Addr},Qvp x es=some ns->(ns.all λn=>(X.env.kindOf n == some .globalImplicit) && !(n == ("__debug__" : Str)))=true->Zw (λn c=>X.mg n=some (.ref c)) ns cs->PA X es (QCu X.K cs)
 |[],ns,cs,h,_,p=>by
  cases h;cases p;exact Qiy Qq λσ H Q ⟨a,C,bs,_,_,_,pb,q⟩=>by cases pb;exact q
 |e::es,ns,cs,h,g,p=>by
  unfold Qvp at h;split at h
  ·rename_i e2;cases e2
  ·rename_i f pf y py n pn pc es' e2
   cases e2;split at h
   ·rename_i hc
    obtain⟨rfl,rfl⟩:=hc;obtain⟨ns',hns,rfl⟩:=JG.mp h;cases p with
    |@cons _ c _ cs' p1 p2=>
    rw[Qcj,JY,JY] at g;have g1:Gl X n:=beq_iff_eq.mp g.1.1;have g2:(n == ("__debug__" : Str))=false:=by
     have:=g.1.2;cases q:(n == ("__debug__" : Str)) with
     |false=>rfl
     |true=>rw[q] at this;cases this
    have one:PE X (.Call (.Name "isinstance" pf) [.Name y py,.Name n pn] [] pc) _:=ZD Rx.Qh1 hg hm QbR (Zo (Qsl hN hv hd hcd) (Zo (ZL (v:=.ref c) g1 p1 rfl g2) Qq rfl) rfl);refine Qiy (Zo one (QfS hN hv hd hcd hg hm hns g.2 p2) rfl) λσ H Q ⟨a,C,bs,h0,ha,hc,pb,q⟩=>?_
    cases pb with
    |@cons _ b _ bs' q1 q2=>exact⟨_,h0,a,C,.ref c,.ref c,b,rfl,ha,hc,(λu r=>r),q1,a,C,bs',h0,ha,hc,q2,q⟩
   ·cases h
  ·cases h
def QfL:List Str:=["text", "order", "lines", "few", "size", "many", "number", "stand", "cell", "square", "hits", "counts", "stairs", "alike", "parting", "place", "double", "deed", "row"]
def QfN(K:PySem.W.Frag)(cs:List Addr):Sp:=λvs H Q _=>∃(a C:Addr)(bs:List Bool)(j:Nat)(wd:Str),vs=[.ref a]/\H a=some (Rx.exO a C)/\Rx.ExC K C/\Zw (λc b=>PySem.W.kitOne K (.ref C) (.ref c)=some b) cs bs/\PySem.W.kitOne K (.ref C) (.type "ValueError")=some true /\
 bs.countP id=1/\bs[j]? = some true/\(∀m,m<j->bs[m]? = some false)/\QfL[j]? = some wd/\∀H',Same H H'->Q (.str wd) H'
theorem JH{α β:Type}{F:α->β->Prop}{a:α}{l:List α}{bs:List β}(h:Zw F (a::l) bs):∃b bs',bs=b::bs'/\F a b/\Zw F l bs':=by
 cases h with
 |cons r t=>exact⟨_,_,rfl,r,t⟩
theorem Qkx{α β:Type}{F:α->β->Prop}{bs:List β}(h:Zw F [] bs):bs=[]:=by
 cases h;rfl
end Rk
namespace Rx
open PySem.Calls L2
section
variable{X:Cx}{E:XK}
theorem QcJ(hxe:∀e s1,wpAny (model X.prog X.w) X.A (leaving X.env e) (λ_ s2=>CXE X.prog X.w X.outer X.H₀ X.s₀ E e s2) (λe' s2=>CXE X.prog X.w X.outer X.H₀ X.s₀ E e' s2) s1->X.xe e s1)
  (hstk:X.stack=X.env::X.outer)(hfr:X.env.frame=some X.env.locals)(hex:X.ex=[]):Y8 (CXE X.prog X.w) X E:=by
 intro pins σ H s e s' I h;obtain⟨C,H',⟨a,t,B,rfl,os,bare,fl,fa,fH,land⟩,q⟩:=h;refine hxe _ _ ?_
 have fl2:=fl;rw[hstk] at fl2;have fr:X.A.frames=some (X.env::X.outer):=by rw[<- hstk];exact I.ok.frames
 refine wpAny_leaves_onW fr hfr fl2 λh' fl' up=>⟨C,H',⟨a,t,B,rfl,os.trans I.os,bare,fl',?_,fH,λh2 st up2=>?_⟩,q⟩
 ·cases z:X.s₀.heap.get? a with
  |none=>rfl
  |some o=>
   obtain⟨o',e'⟩:=I.base.there a o z (by rw[hex];simp);rw[fa] at e';cases e'
 ·obtain⟨un,hok⟩:=land h2 st (up.trans up2);have J:=I.call' (s':={ s' with heap:=h2 }) (ch:=[]) os un hok bare (λb z=>absurd z (by simp));have hb:=J.base;rw[hex] at hb;exact⟨hb,hok⟩
end
section
variable{X:Cx}{tf:TE}{fe:QV}{pos:Pos}{e:QV}{es:List QV}{t:TA}{M:Addr->Sp->Prop}
end
end Rx
namespace Rk
open L2 _root_.Rd
structure GlbA (mg:Str->Option Value):Prop where
 isinstance:mg "isinstance" = none
 int:mg "int" = none
 bool:mg "bool" = none
 str:mg "str" = none
 tuple:mg "tuple" = none
 list:mg "list" = none
 all:mg "all" = none
 len:mg "len" = none
 zip:mg "zip" = none
 enumerate:mg "enumerate" = none
 range:mg "range" = none
 max:mg "max" = none
 min:mg "min" = none
 sorted:mg "sorted" = none
 sum:mg "sum" = none
 set:mg "set" = none
 any:mg "any" = none
 reversed:mg "reversed" = none
 divmod:mg "divmod" = none
structure KOk (K:PySem.W.Frag) (cs:List Addr) (R C:Addr) (wd:Str):Prop where
 by_:Rx.ByC K C R
 ex:∃(bs:List Bool)(j:Nat),Rx.ExC K C/\Zw (λc b=>PySem.W.kitOne K (.ref C) (.ref c)=some b) cs bs/\PySem.W.kitOne K (.ref C) (.type "ValueError")=some true/\bs.countP id=1/\bs[j]? = some true/\(∀m,m<j->bs[m]? = some false)/\QfL[j]? = some wd
def QAw(u:Nat)(neg:Bool):R2:=λx y H Q=>∃c ps ds d,y=.ref c/\H c=some (.tup ps)/\Dats H ps ds/\Dat H x d/\u+d.depth<cLine/\Q (.bl (if neg then !(ds.any λe=>QY e d) else ds.any λe=>QY e d)) H
theorem Qx2{X:Cx}:OpR X (compareOp .In) (QAw X.A.in1.units false):=Qx3
end Rk
namespace Rx
open PySem.Calls L2
section
variable{P:Qm}{w:QZ}{K:PySem.W.Frag}{mg:Str->Option Value}{base:JS}
theorem okE{x qual:Str}{st:J7}{f:Addr}{fd:JQ}{N ps:List Str}{k:Nat}{sp:Sp}(F:Fun K x qual st f fd)(S:Yb N ps (QU st))(len:∀vs H Q E,sp vs H Q E->vs.length=ps.length)
  (hbody:∀(cdv:Value)(A:Q1)(outer:List Env)(s:Shared)(H:Hp)(vs:List V)(Q:VK)(E:XK),Room k (A.deeper (envOfC qual (QU st) s.heap.objs.size f cdv))->sp vs H Q E ->
   ∃t,PSs (cxOf (CXE P w) P w K mg base N qual (QU st) f cdv A outer s H E) (ZU st) t/\t { nx:=λ_ H'=>Q .non H',rt:=Q } (start N vs) H):FnOk P w K mg base (CXE P w) (k+1) f fd ps sp:=by
 obtain⟨oc,od,kV,doc,pm,an,cdv,ct,osl,rfl,lk,hcd⟩:=F.ex;exact Qyy lk hcd S len λA outer s H vs Q E hr hsp=>hbody cdv A outer s H vs Q E hr hsp
end
end Rx
namespace Rk
open L2 _root_.Rd
section
variable{X:Cx}{is js:List Nat}
end
theorem handled{K:PySem.W.Frag}{cs:List Addr}{R C:Addr}{wd:Str}(o:KOk K cs R C wd){H1:Hp}{Q:VK}{σ:L2.St}{i:Nat}(hi:i < σ.length)(k:∀H',Same H1 H'->Q (.str wd) H') :
  Rx.ByC K C R/\∀a,H1 a=none->(Qae (Qbq i) Qej) (σ.set i (some (.ref a))) (upd H1 a (Rx.exO a C)) λvs H2=>QfN K cs vs H2 Q E0:=by
 refine⟨o.by_,λa ha=>?_⟩;obtain⟨bs,j,hx,pb,eV,hc,hj,hm,hw⟩:=o.ex;exact⟨_,QaB hi,a,C,bs,j,wd,rfl,upd_same,hx,pb,eV,hc,hj,hm,hw,λH2 s2=>k H2 ((JK ha).trans s2)⟩
def QCx(t:TS):TS:=λD σ H=>∃R:L2.St->Hp->Prop,t { D with nx:=R } σ H/\∀σ' H',R σ' H'->D.nx σ' H'
theorem Qjz{X:Cx}{st:J7}{t:TS}(h:PS X st t):PS X st (QCx t):=by
 intro pins s σ H D I q;obtain⟨R,q1,q2⟩:=q;refine thn (h pins s σ H _ I q1) λf s' z=>?_
 cases f with
 |next=>
  obtain⟨σ',H',J,r⟩:=z;exact⟨σ',H',J,q2 σ' H' r⟩
 |brk=>exact z
 |cont=>exact z
 |ret u=>exact z
end Rk
namespace L2
section
variable{prog:Qm}{w:QZ}{A:Q1}{E:Value->Shared->Prop}{s:Shared}
end
section
variable{X:Cx}
def Qxj(K:PySem.W.Frag):List V->Hp->VK->Prop:=λxs H Q=>∃p ys,xs=[.ref p]/\(SqL K H p ys∨SqT K H p ys)/\Q (.int ys.length) H
def QtM:List V->Hp->VK->Prop:=λxs H Q=>(∃i,xs=[.int i]/\Q (.int i) H)∨∃k,xs=[.bl k]/\Q (.int (if k then 1 else 0)) H
theorem Qy3:bootBuiltins "sum" = some (.builtin "sum"):=by decide
theorem bt_any:bootBuiltins "any" = some (.builtin "any"):=by decide
theorem Qcf:bootBuiltins "sorted" = some (.builtin "sorted"):=by decide
def Qxd(K:PySem.W.Frag):List V->Hp->VK->Prop:=λxs H Q=>∃(p:Addr)(ns:List Int),xs=[.ref p]/\SqL K H p (ns.map V.int)/\Q (.int ns.sum) H
def CMulB(i j:Int):Prop:=∃k:Nat,k<=1000000/\i.natAbs<2^k/\j.natAbs<2^k
theorem QnX{i:Int}{k:Nat}(h:i.natAbs<2^k):Zd i<=k:=by
 unfold Zd;split
 ·exact Jn _
 ·rename_i z
  have hz:i.natAbs≠0:=by
   intro q;apply z
   have:i=0:=by omega
   subst this;rfl
  have:=(Qow hz).mpr h;omega
theorem CMulB.ok{i j:Int}(h:CMulB i j):IntMulOk i j:=by
 obtain⟨k,hk,h1,h2⟩:=h;have a:=QnX h1;have b:=QnX h2;unfold IntMulOk;have c:Qgb (Zd i+Zd j:Nat)=false:=by
  unfold Qgb;rw[decide_eq_false];have:bitsLine=134217728:=by decide
  rw[this];omega
 intro z;rw[JY] at z;have z2:=z.2;have e:((Zd i+Zd j:Nat):Int)=(Zd i:Int)+(Zd j:Int):=by omega
 rw[e] at c;rw[c] at z2;cases z2
theorem Qux:OpR X (binaryOp .Mult) (rI CMulB λi j=>.int (i*j)):=opI λ_ _ _ _ _ _ _ hc q=>mul_int q hc.ok
theorem Qrb:QCk X (Qwh X.K):=by
 intro pins s σ H o i ov iv Q I ro ri h;obtain⟨p,xs,k,z,rfl,rfl,hq,he,q⟩:=h;cases ro;obtain⟨t,rfl⟩:=ri;obtain⟨its,r,pl,hz⟩:=I.list hq;obtain⟨j,h1,h2,h3,h4,h5⟩:=QgT he;obtain⟨w,ew,rw'⟩:=r.get h2;have hl:=r.length;have hn:=Qeb;have fin:EP X pins σ Q w s:=⟨z,H,I,rw',q⟩;by_cases h0:0<=k
 ·have hj:k.toNat=j:=by
   rw[Qj8 h0 h5] at h1;exact QH h1
  exact wpAny_getItem_list pl.isList h0 (by omega) (by rw[hj];simpa using ew) fin
 ·have hj:(k+(its.toArray.size:Int)).toNat=j:=by
   rw[Qh7 (by omega) h4] at h1;rw[Ql,<- hl];exact QH h1
  exact QrC pl.isList (by omega) (by rw[Ql]<;>omega) (by omega) (by rw[hj];simpa using ew) fin
theorem QnO(hc:X.calm=true):CallR X (.builtin "sum") (Qxd X.K):=by
 intro pins s σ H xs us Q I r h;obtain⟨p,ns,rfl,hp,q⟩:=h;obtain⟨u,rfl,ru⟩:=vals1 r;cases ru;obtain⟨its,rv,pl,hz⟩:=I.list hp;have hi:Qg4 its ns:=intsAre_of rv;obtain⟨ys,hx⟩:=hi.allInts.items;have hl':s.heap.IsList p (intItems ys):=hx ▸ pl.isList;refine sum_intListG (I.ok.hd hc) hl' λh' tk t' hk=>?_
 have e1:ns=ys.toList.map (·.1):=by
  rw[<- nums_intItems,<- hx];exact(show numsOf its.toArray.toList=ns from hi.numsOf).symm
 have e2:preSum (numAt ys) ys.size=ns.sum:=by
  rw[preSum_eq,Qke (by simp),e1]
 rw[e2];exact⟨.int _,H,I.kept hk,⟨_,rfl⟩,q⟩
end
end L2
namespace Rk
open L2 _root_.Rd
def QBL(u:Nat):R2:=λx y H Q=>∃dx dy,Dat H x dx/\Dat H y dy/\u+min dx.depth dy.depth<cLine/\Q (.bl (!QY dx dy)) H
theorem QjH{X:Cx}:OpR X (compareOp .NotEq) (QBL X.A.units):=Qx1
def QBR(u:Nat):R2:=λx y H Q=>∃dx dy,Dat H x dx/\Dat H y dy/\u+min dx.depth dy.depth<cLine/\Q (.bl (QY dx dy)) H
theorem Qx5{X:Cx}:OpR X (compareOp .Eq) (QBR X.A.units):=Qx6
theorem QmG{X:Cx}:OpR X (compareOp .NotIn) (QAw X.A.in1.units true):=QmH
end Rk
namespace Rx
open PySem.Calls L2
theorem QAK{P:Qm}{w:QZ}{X:Cx}:Y8 (CXE P w) X E0:=by
 intro pins σ H s e s' I h;obtain⟨C,H',_,q⟩:=h;exact q.elim
end Rx
namespace Rk
open L2 _root_.Rd
theorem QiG{n k:Nat}(h:k<n):ixN n (k:Nat)=some k:=by
 unfold ixN;rw[if_pos (by omega),if_pos (by omega)];simp
end Rk
namespace HT
section
open PySem.SeqAt
open PySem.AutoSeq1 (wpAny_loadPart')
open PySem.MeetsSeq PySem.MeetsSeq2 PySem.MeetsSeq3
end
section
variable{prog:Qm}{w:QZ}{A:Q1}{E:Value->Shared->Prop}{s:Shared}
end
end HT
namespace L2
def QtK(K:PySem.W.Frag):V->Option Int->Option Int->Hp->VK->Prop:=λx lo hi H Q=>∃a xs,x=.ref a/\SqL K H a xs/\∀p H',Same H H'->H p=none->H' p=some (.lst (QhS xs lo hi))->Q (.ref p) H'
theorem Qbf{X:Cx}:SlR X (QtK X.K):=by
 intro pins s σ H x v vl vu lo hi sl Q I rx hs pl pu h;obtain⟨a,xs,e,hx,q⟩:=h;exact QtA pins s σ H x v vl vu lo hi sl Q I rx hs pl pu ⟨a,xs,e,hx,λp hp=>q p _ (JK hp) hp upd_same⟩
theorem cut_last(xs:List V):(QhS xs (some (-1)) none).length<=1:=by
 unfold QhS;rw[YY,Qcs];have h2:xs.length - 1<=HT.sIx xs.length 0 (some (-1)):=by
  show xs.length - 1<=(if(-1:Int)<0 then((-1:Int)+(xs.length:Int)).toNat else min (-1:Int).toNat xs.length);rw[if_pos (by decide)];omega
 omega
end L2
namespace Rk
open L2 _root_.Rd
end Rk
namespace L2
section
variable{X:Cx}
def Ql8(K:PySem.W.Frag):List V->Hp->VK->Prop:=λxs H Q=>∃p ys,xs=[.ref p]/\((SqL K H p ys/\∀l H',Same H H'->H l=none->H' l=some (.tup ys)->Q (.ref l) H')∨(SqT K H p ys/\Q (.ref p) H))
theorem JL:CallR X (.type "tuple") (Ql8 X.K):=by
 intro pins s σ H xs us Q I r h;obtain⟨p,ys,e,h⟩:=h;refine QgQ pins s σ H xs us Q I r ⟨p,ys,e,?_⟩;rcases h with⟨h1,h2⟩ | h
 ·exact .inl ⟨h1,λl hl=>h2 l _ (JK hl) hl upd_same⟩
 ·exact .inr h
def Qmb(K:PySem.W.Frag):List V->Hp->VK->Prop:=λxs H Q=>∃p ys,xs=[.ref p]/\(SqL K H p ys∨SqT K H p ys)/\∀l H',Same H H'->H l=none->H' l=some (.lst ys)->Q (.ref l) H'
theorem QbQ:CallR X (.type "list") (Qmb X.K):=by
 intro pins s σ H xs us Q I r h;obtain⟨p,ys,e,h1,h2⟩:=h;exact Qh0 pins s σ H xs us Q I r ⟨p,ys,e,h1,λl hl=>h2 l _ (JK hl) hl upd_same⟩
end
end L2
namespace Rk
open L2 _root_.Rd
end Rk
namespace L2
section
variable{X:Cx}
end
end L2
namespace Rk
open L2 _root_.Rd
end Rk
namespace Rx
open PySem.Calls L2
abbrev TSX:=L2.Ends->L2.St->Hp->(Addr->Hp->Prop)->Prop
def PSX(X:Cx)(st:J7)(t:TSX):Prop:=∀(pins:List (Addr×Obj))(s:Shared)(σ:L2.St)(H:Hp)(D:L2.Ends)(Ex:Addr->Hp->Prop),Inv X pins σ H s->t D σ H Ex ->
 wpAny (model X.prog X.w) X.A (exec st X.env) (SP X pins D) (XP X pins λσ1 C H1=>σ1=σ/\Ex C H1) s
def QCj(X:Cx)(sts:List J7)(t:TSX):Prop:=∀(pins:List (Addr×Obj))(s:Shared)(σ:L2.St)(H:Hp)(D:L2.Ends)(Ex:Addr->Hp->Prop),Inv X pins σ H s->t D σ H Ex ->
 wpAny (model X.prog X.w) X.A (execs sts X.env) (SP X pins D) (XP X pins λσ1 C H1=>σ1=σ/\Ex C H1) s
section
variable{X:Cx}{e:QV}{st:J7}{pos:Pos}{te:TX}{t u:TSX}{tc:TT}{c:QV}{a b:List J7}
theorem QoY(h1:PSX X st t):QCj X [st] t:=by
 intro pins s σ H D Ex I h;refine Qdx (thn (h1 pins s σ H D Ex I h) λf s1 q=>?_);cases f with
 |next=>exact QaI q
 |ret v=>exact q
 |brk=>exact q
 |cont=>exact q
end
def QAj(K:PySem.W.Frag)(R:Addr)(i:Nat)(tb:TSX)(th:TE):TS:=λD σ H=>tb D σ H λC H1=>ByC K C R/\∀a,H1 a=none->th (σ.set i (some (.ref a))) (upd H1 a (exO a C)) D.rt
section
variable{X:Cx}{R:Addr}{i:Nat}{n r:Str}{body:List J7}{hx:QV}{tb:TSX}{th:TE}{np hp hpos pos:Pos}
theorem QtW(hstk:X.stack=X.env::X.outer)(hfr:X.env.frame=some X.env.locals)(hc:QCj X body tb)(hN:X.N.Nodup)(hi:X.N[i]? = some n)(hl:X.env.scope.names.lookup n=some .local)
  (hg:Gl X r)(hm:X.mg r=some (.ref R))(hh:∀e,PE (mkd X e) hx th)(hd:(r == ("__debug__" : Str))=false:=by decide) :
  PS X (.Try body [.ExceptHandler (some (.Name r np)) (some n) [.Return (some hx) hp] hpos] [] [] pos) (QAj X.K R i tb th):=by
 intro pins s σ H D I h;refine wpAny_Try_except (wpAny_mono (hc pins s σ H D _ I h) (λf s1 q=>?_) λe s1 z=>?_)
 ·cases f with
  |next=>exact QaI q
  |ret v=>exact q
  |brk=>exact q
  |cont=>exact q
 obtain⟨σ1,C,H1,a,t,B,rfl,fl,fH,f0,fp,land,eσ,bc,q⟩:=z;subst eσ;rw[hstk] at fl;have fr:X.A.frames=some (X.env::X.outer):=by rw[<- hstk];exact I.ok.frames
 refine wpAny_looks_onW fr hfr fl λh4 held4 up4=>?_
 refine wpAny_landsW held4 λh5 fl5 up5=>?_
 have I5:L2.Inv X pins σ1 H1 { s1 with heap:=h5 }:=land h5 s1.toks fl5.1 (up4.trans up5);have x5:ExAt a C h5:=by
  obtain⟨oe,vs,e1,e2,e3,_⟩:=fl5.first
  exact⟨oe,vs,e1,e2,e3⟩
 refine wpAny_handleBy_cons (codeAny_handlers_test (QdO (X:=mkd X (.ref a)) (Qni I5 _) hg hm ?_ hd)) (by intro q;cases q);refine QkG (s:={ s1 with heap:=h5 }) I5.kIn x5 bc ?_
 refine codeAny_handlers_suite_as ?_
 refine lands_againW fl5 λh6 fl6 up6=>?_
 have I6:L2.Inv X pins σ1 H1 { s1 with heap:=h6 }:=land h6 s1.toks fl6.1 ((up4.trans up5).trans up6);have x6:ExAt a C h6:=by
  obtain⟨oe,vs,e1,e2,e3,_⟩:=fl6.first
  exact⟨oe,vs,e1,e2,e3⟩
 have I7:=Qnh I6 fH f0 fp x6;refine Qck I7 hN hi (Qx hl) (show RelV (.ref a) (.ref a) from rfl) (λs8 I8=>?_) (.inr hl);refine Qdx (QgY (wpAny_mono (hh (.ref a) pins s8 _ _ _ (Qni I8 _) (q a fH)) (λv s9 ⟨x,H9,I9,r9,q9⟩=>?_) λ_ _ z=>z.elim));have J9:L2.Inv X pins _ H9 s9:=Qp4 I.ok I9;obtain⟨m,hn,hmm⟩:=id J9.loc;refine wpAny_nameGoes_keeps hl hn (by rw[I.ok.kind];rfl) λh' v' hn' hs'=>?_
 exact⟨x,_,H9,Qp5 J9 hN hi hmm hn' hs',r9,q9⟩
end
end Rx
namespace L2
theorem FnOk.ex{P:Qm}{w:QZ}{K:PySem.W.Frag}{mg:Str->Option Value}{base:JS}{CX:CXT}{k:Nat}{f:Addr}{fd:JQ}{ps:List Str}{sp:Sp}(F:FnOk P w K mg base CX0 k f fd ps sp) :
  FnOk P w K mg base CX k f fd ps sp:=
 ⟨F.len,λA outer s H args us vs Q E hr he hb hv hs=>Qay (F.run A outer s H args us vs Q E hr he hb hv hs) λr s' z=>by
  cases r with
  |error e=>exact Jr z
  |ok fl=>cases fl<;>exact z⟩
section
variable{X:Cx}
end
end L2
namespace Rk
open L2 _root_.Rd
end Rk
namespace Dl
open L2 _root_.Rd Rk
def dkV(kvs:List (Int×Int)):List (Key×V):=kvs.map λp=>(Qc1 p.1,V.int p.2)
def dkD(kvs:List (Int×Int)):List (Qb×Qb):=kvs.map λp=>(QJ p.1,QJ p.2)
mutual
inductive DA (A:Addr->Prop) (H:Hp):V->Qb->Prop
 |non:DA A H .non .none
 |bl (b:Bool):DA A H (.bl b) (.bool b)
 |int (i:Int):DA A H (.int i) (.int i)
 |str (x:Str):Jx (.str x)=true->DA A H (.str x) (.str x)
 |tup {a:Addr} {xs:List V} {ds:List Qb}:¬A a->H a=some (.tup xs)->DAs A H xs ds->DA A H (.ref a) (.tuple ds)
 |lst {a:Addr} {xs:List V} {ds:List Qb}:¬A a->H a=some (.lst xs)->DAs A H xs ds->DA A H (.ref a) (.list ds)
 |dct {a:Addr} {kvs:List (Int×Int)} {ds:List (Qb×Qb)}:¬A a->H a=some (.dK (dkV kvs))->ds=dkD kvs->DA A H (.ref a) (.dict ds)
inductive DAs (A:Addr->Prop) (H:Hp):List V->List Qb->Prop
 |nil:DAs A H [] []
 |cons {x:V} {xs:List V} {d:Qb} {ds:List Qb}:DA A H x d->DAs A H xs ds->DAs A H (x::xs) (d::ds)
end
mutual
theorem QyM{A A':Addr->Prop}{H H':Hp}(k:∀a o,¬A a->H a=some o->H' a=some o)(m:∀a,A' a->A a∨H a=none):∀(d:Qb)(x:V),DA A H x d->DA A' H' x d
 |.none,_,.non=>.non
 |.bool _,_,.bl _=>.bl _
 |.int _,_,.int _=>.int _
 |.str _,_,.str _ c=>.str _ c
 |.tuple ds,_,.tup (xs:=xs) n e q=>.tup (λz=>(m _ z).elim n λz=>by rw[z] at e;cases e) (k _ _ n e) (Qj0 k m ds xs q)
 |.list ds,_,.lst (xs:=xs) n e q=>.lst (λz=>(m _ z).elim n λz=>by rw[z] at e;cases e) (k _ _ n e) (Qj0 k m ds xs q)
 |.dict _,_,.dct n e q=>.dct (λz=>(m _ z).elim n λz=>by rw[z] at e;cases e) (k _ _ n e) q
theorem Qj0{A A':Addr->Prop}{H H':Hp}(k:∀a o,¬A a->H a=some o->H' a=some o)(m:∀a,A' a->A a∨H a=none):∀(ds:List Qb)(xs:List V),DAs A H xs ds->DAs A' H' xs ds
 |[],_,.nil=>.nil
 |d::ds,_,.cons (x:=x) (xs:=xs) q qs=>.cons (QyM k m d x q) (Qj0 k m ds xs qs)
end
theorem DA.mv{A A':Addr->Prop}{H H':Hp}{x:V}{d:Qb}(q:DA A H x d)(k:∀a o,¬A a->H a=some o->H' a=some o)(m:∀a,A' a->A a∨H a=none):DA A' H' x d:=QyM k m d x q
theorem DAs.mv{A A':Addr->Prop}{H H':Hp}{x:List V}{d:List Qb}(q:DAs A H x d)(k:∀a o,¬A a->H a=some o->H' a=some o)(m:∀a,A' a->A a∨H a=none):DAs A' H' x d:=Qj0 k m d x q
theorem DA.same{A:Addr->Prop}{H H':Hp}{x:V}{d:Qb}(q:DA A H x d)(s:Same H H'):DA A H' x d:=q.mv (λa o _ e=>s a o e) λa z=>.inl z
theorem DAs.same{A:Addr->Prop}{H H':Hp}{x:List V}{d:List Qb}(q:DAs A H x d)(s:Same H H'):DAs A H' x d:=q.mv (λa o _ e=>s a o e) λa z=>.inl z
theorem DAs.length{A:Addr->Prop}{H:Hp}:∀{xs:List V}{ds:List Qb},DAs A H xs ds->xs.length=ds.length
 |_,_,.nil=>rfl
 |_,_,.cons _ q=>by rw[Qu,Qu,q.length]
theorem DAs.get{A:Addr->Prop}{H:Hp}:∀{xs:List V}{ds:List Qb},DAs A H xs ds->∀(i:Nat)(d:Qb),ds[i]? = some d->∃x,xs[i]? = some x/\DA A H x d
 |_,_,.nil,i,x,e=>by simp at e
 |_,_,.cons q qs,0,x,e=>by simp at e;subst e;exact⟨_,rfl,q⟩
 |_,_,.cons q qs,i+1,x,e=>qs.get i x (by simpa using e)
theorem DAs.app{A:Addr->Prop}{H:Hp}:∀{xs ys:List V}{ds es:List Qb},DAs A H xs ds->DAs A H ys es->DAs A H (xs++ys) (ds++es)
 |_,_,_,_,.nil,q=>q
 |_,_,_,_,.cons a b,q=>.cons a (b.app q)
theorem DAs.take{A:Addr->Prop}{H:Hp}:∀{xs:List V}{ds:List Qb},DAs A H xs ds->∀n:Nat,DAs A H (xs.take n) (ds.take n)
 |_,_,.nil,n=>by rw[Qzt,Qzt];exact .nil
 |_,_,.cons a b,0=>.nil
 |_,_,.cons a b,n+1=>.cons a (b.take n)
theorem DAs.drop{A:Addr->Prop}{H:Hp}:∀{xs:List V}{ds:List Qb},DAs A H xs ds->∀n:Nat,DAs A H (xs.drop n) (ds.drop n)
 |_,_,.nil,n=>by rw[Qzu,Qzu];exact .nil
 |_,_,.cons a b,0=>.cons a b
 |_,_,.cons a b,n+1=>b.drop n
theorem DAs.set{A:Addr->Prop}{H:Hp}{x:V}{d:Qb}(q:DA A H x d):∀{xs:List V}{ds:List Qb},DAs A H xs ds->∀n:Nat,DAs A H (xs.set n x) (ds.set n d)
 |_,_,.nil,n=>.nil
 |_,_,.cons a b,0=>.cons q b
 |_,_,.cons a b,n+1=>.cons a (b.set q n)
mutual
def nd:Qb->Bool
 |.dict _=>false
 |.tuple ds=>nds ds
 |.list ds=>nds ds
 |_=>true
def nds:List Qb->Bool
 |[]=>true
 |d::ds=>nd d&&nds ds
end
mutual
theorem QsR{A:Addr->Prop}{H:Hp}:∀(d:Qb)(x:V),nd d=true->DA A H x d->Dat H x d
 |.none,_,_,.non=>.non
 |.bool _,_,_,.bl _=>.bl _
 |.int _,_,_,.int _=>.int _
 |.str _,_,_,.str _ c=>.str _ c
 |.tuple ds,_,n,.tup (xs:=xs) _ e q=>.tup e (QaL ds xs n q)
 |.list ds,_,n,.lst (xs:=xs) _ e q=>.lst e (QaL ds xs n q)
theorem QaL{A:Addr->Prop}{H:Hp}:∀(ds:List Qb)(xs:List V),nds ds=true->DAs A H xs ds->Dats H xs ds
 |[],_,_,.nil=>.nil
 |d::ds,_,n,.cons (x:=x) (xs:=xs) q qs=>by
  have n':=QP.mp (show(nd d&&nds ds)=true from n);exact .cons (QsR d x n'.1 q) (QaL ds xs n'.2 qs)
end
theorem Qm0{ds:List Qb}:nds ds=true↔∀d∈ds,nd d=true:=by
 induction ds with
 |nil=>exact⟨(λ_ _ h=>nomatch h),λ_=>rfl⟩
 |cons d ds ih=>
  rw[show nds (d::ds)=(nd d&&nds ds) from rfl,QP,ih];constructor
  ·rintro⟨a,b⟩ e he;rcases QM.mp he with z | z
   ·rw[z];exact a
   ·exact b e z
  ·intro h;exact⟨h d (by simp),λe he=>h e (by simp[he])⟩
def DP(A P:Addr->Prop)(H:Hp)(v:V)(d:Qb):Prop:=DA A H v d∨∃l xs ds,v=.ref l/\d=.list ds/\¬P l/\H l=some (.lst xs)/\DAs A H xs ds
theorem DP.dat{A P:Addr->Prop}{H:Hp}{v:V}{d:Qb}(h:DP A P H v d)(n:nd d=true):Dat H v d:=by
 rcases h with h | ⟨l,xs,ds,rfl,rfl,_,e,q⟩
 ·exact QsR d v n h
 ·exact .lst e (QaL ds xs n q)
theorem DP.list{A P:Addr->Prop}{H:Hp}{v:V}{ds:List Qb}(h:DP A P H v (.list ds)):∃l xs,v=.ref l/\H l=some (.lst xs)/\DAs A H xs ds:=by
 rcases h with h | ⟨l,xs,ds',rfl,e,_,h2,q⟩
 ·cases h with | lst n e q=>exact⟨_,_,rfl,e,q⟩
 ·cases e;exact⟨l,xs,rfl,h2,q⟩
theorem DP.tuple{A P:Addr->Prop}{H:Hp}{v:V}{ds:List Qb}(h:DP A P H v (.tuple ds)):∃l xs,v=.ref l/\H l=some (.tup xs)/\DAs A H xs ds:=by
 rcases h with h | ⟨l,xs,ds',rfl,e,_⟩
 ·cases h with | tup n e q=>exact⟨_,_,rfl,e,q⟩
 ·cases e
theorem DP.int{A P:Addr->Prop}{H:Hp}{v:V}{i:Int}(h:DP A P H v (.int i)):v=.int i:=by
 rcases h with h | ⟨l,xs,ds',rfl,e,_⟩
 ·cases h;rfl
 ·cases e
theorem DP.bool{A P:Addr->Prop}{H:Hp}{v:V}{i:Bool}(h:DP A P H v (.bool i)):v=.bl i:=by
 rcases h with h | ⟨l,xs,ds',rfl,e,_⟩
 ·cases h;rfl
 ·cases e
theorem DP.none{A P:Addr->Prop}{H:Hp}{v:V}(h:DP A P H v .none):v=.non:=by
 rcases h with h | ⟨l,xs,ds',rfl,e,_⟩
 ·cases h;rfl
 ·cases e
theorem DP.str{A P:Addr->Prop}{H:Hp}{v:V}{x:Str}(h:DP A P H v (.str x)):v=.str x/\Jx (.str x)=true:=by
 rcases h with h | ⟨l,xs,ds',rfl,e,_⟩
 ·cases h with | str _ c=>exact⟨rfl,c⟩
 ·cases e
inductive Sl where
 |no | pot | scr
 |v (d:Qb)
 |own (ds:List Qb)
 |pk (ds:List Qb)
abbrev Sts:=List Sl
structure Fm where
 H0:Hp
 A0:Addr->Prop
 pt:Addr->Prop
def QBx(σ:L2.St)(δ:Sts)(i:Nat)(a:Addr):Prop:=σ[i]? = some (some (.ref a))/\(δ[i]? = some .pot∨∃ds,δ[i]? = some (.own ds))
def Av(F:Fm)(σ:L2.St)(δ:Sts)(a:Addr):Prop:=F.A0 a∨∃i,QBx σ δ i a
def Yh(σ:L2.St)(δ:Sts)(a:Addr):Prop:=∃i:Nat,σ[i]? = some (some (.ref a))/\δ[i]? = some .pot
def QCh(K:PySem.W.Frag)(F:Fm)(H:Hp)(A:Addr->Prop)(o:Option V):Sl->Prop
 |.no=>True
 |.v d=>∃v,o=some v/\DA A H v d
 |.own ds=>∃l xs,o=some (.ref l)/\H l=some (.lst xs)/\DAs A H xs ds/\F.H0 l=none
 |.pk ds=>∃l xs,o=some (.ref l)/\H l=some (.lst xs)/\DAs A H xs ds/\∃ys,F.H0 l=some (.lst ys)/\¬F.pt l
 |.pot=>∃p n,o=some (.ref p)/\H p=some (.lst [.int n])/\(F.pt p∨F.H0 p=none)
 |.scr=>∃a ns,o=some (.ref a)/\SqL K F.H0 a ((ns:List Int).map V.int)/\¬F.pt a/\ns.length<=63
structure Rel (K:PySem.W.Frag) (F:Fm) (σ:L2.St) (H:Hp) (δ:Sts):Prop where
 len:σ.length=δ.length
 dom:∀a,F.A0 a->∃xs,H a=some (.lst xs)
 dom0:∀a,F.A0 a->∃xs,F.H0 a=some (.lst xs)
 pt0:∀p,F.pt p->F.A0 p/\∃n,H p=some (.lst [.int n])
 kx:∀b o,¬F.pt b->F.H0 b=some o->H b=some o
 sl:∀(i:Nat) o x,σ[i]? = some o->δ[i]? = some x->QCh K F H (Av F σ δ) o x
 inj:∀(i j:Nat) a ds,δ[i]? = some (.own ds)->σ[i]? = some (some (.ref a))->QBx σ δ j a->i=j
def Kp(σ:L2.St)(δ:Sts)(H H':Hp):Prop:=(∀b o,¬Yh σ δ b->H b=some o->H' b=some o)/\∀b,Yh σ δ b->∃n,H' b=some (.lst [.int n])
def Stp(F:Fm)(σ:L2.St)(H:Hp)(δ:Sts)(σ':L2.St)(H':Hp)(δ':Sts):Prop:=(∀b o,¬Av F σ δ b->H b=some o->H' b=some o)/\∀b,Av F σ' δ' b->Av F σ δ b∨H b=none
def Ke(F:Fm)(H':Hp):Prop:=(∀b o,¬F.pt b->F.H0 b=some o->H' b=some o)/\∀p,F.pt p->∃n,H' p=some (.lst [.int n])
theorem Qaf{F:Fm}{σ:L2.St}{δ:Sts}{a:Addr}(h:Yh σ δ a):Av F σ δ a:=let ⟨i,h1,h2⟩:=h;.inr ⟨i,h1,.inl h2⟩
theorem Rel.ke{K:PySem.W.Frag}{F:Fm}{σ:L2.St}{H:Hp}{δ:Sts}(r:Rel K F σ H δ):Ke F H:=⟨r.kx,λp hp=>(r.pt0 p hp).2⟩
theorem Rel.isl{K:PySem.W.Frag}{F:Fm}{σ:L2.St}{H:Hp}{δ:Sts}(r:Rel K F σ H δ){a:Addr}(h:Av F σ δ a):∃xs,H a=some (.lst xs):=by
 rcases h with h | ⟨i,h1,h2⟩
 ·exact r.dom a h
 ·rcases h2 with h2 | ⟨ds,h2⟩
  ·obtain⟨p,n,e,h,_⟩:=r.sl i _ _ h1 h2;cases e;exact⟨_,h⟩
  ·obtain⟨l,xs,e,h,_⟩:=r.sl i _ _ h1 h2;cases e;exact⟨_,h⟩
theorem Kp.refl{K:PySem.W.Frag}{F:Fm}{σ:L2.St}{H:Hp}{δ:Sts}(r:Rel K F σ H δ):Kp σ δ H H:=⟨λ_ _ _ e=>e,λb ⟨i,h1,h2⟩=>by
 obtain⟨p,n,e,h,_⟩:=r.sl i _ _ h1 h2;cases e;exact⟨n,h⟩⟩
theorem Kp.trans{σ:L2.St}{δ:Sts}{H H1 H2:Hp}(a:Kp σ δ H H1)(b:Kp σ δ H1 H2):Kp σ δ H H2:=⟨λc o n e=>b.1 c o n (a.1 c o n e),b.2⟩
theorem Kp.same{K:PySem.W.Frag}{F:Fm}{σ:L2.St}{H H':Hp}{δ:Sts}(r:Rel K F σ H δ)(s:Same H H'):Kp σ δ H H':=⟨λb o _ e=>s b o e,λb hb=>let ⟨n,h⟩:=(Kp.refl r).2 b hb;⟨n,s _ _ h⟩⟩
theorem Kp.da{F:Fm}{σ:L2.St}{H H':Hp}{δ:Sts}{v:V}{d:Qb}(k:Kp σ δ H H')(h:DA (Av F σ δ) H v d):DA (Av F σ δ) H' v d:=h.mv (λa o n e=>k.1 a o (λz=>n (Qaf z)) e) λa z=>.inl z
theorem Kp.das{F:Fm}{σ:L2.St}{H H':Hp}{δ:Sts}{v:List V}{d:List Qb}(k:Kp σ δ H H')(h:DAs (Av F σ δ) H v d):DAs (Av F σ δ) H' v d:=h.mv (λa o n e=>k.1 a o (λz=>n (Qaf z)) e) λa z=>.inl z
theorem Kp.dp{F:Fm}{σ:L2.St}{H H':Hp}{δ:Sts}{v:V}{d:Qb}(k:Kp σ δ H H')(h:DP (Av F σ δ) (Yh σ δ) H v d):DP (Av F σ δ) (Yh σ δ) H' v d:=by
 rcases h with h | ⟨l,xs,ds,e1,e2,n,e,q⟩
 ·exact .inl (k.da h)
 ·exact .inr ⟨l,xs,ds,e1,e2,n,k.1 _ _ n e,k.das q⟩
theorem Rel.own_pot{K:PySem.W.Frag}{F:Fm}{σ:L2.St}{H:Hp}{δ:Sts}(r:Rel K F σ H δ){i:Nat}{ds:List Qb}{l:Addr}(h:δ[i]? = some (.own ds))(e:σ[i]? = some (some (.ref l))):¬Yh σ δ l:=by
 rintro⟨j,h1,h2⟩;have:=r.inj i j l _ h e ⟨h1,.inl h2⟩;subst this;rw[h] at h2;cases h2
theorem Rel.pt_pot{K:PySem.W.Frag}{F:Fm}{σ:L2.St}{H H':Hp}{δ:Sts}(r:Rel K F σ H δ)(k:Kp σ δ H H'){p:Addr}(hp:F.pt p):∃n,H' p=some (.lst [.int n]):=by
 by_cases z:Yh σ δ p
 ·exact k.2 p z
 ·obtain⟨n,e⟩:=(r.pt0 p hp).2;exact⟨n,k.1 _ _ z e⟩
theorem Rel.kp{K:PySem.W.Frag}{F:Fm}{σ:L2.St}{H H':Hp}{δ:Sts}(r:Rel K F σ H δ)(k:Kp σ δ H H'):Rel K F σ H' δ where
 len:=r.len
 dom:=λa ha=>by
  by_cases z:Yh σ δ a
  ·exact⟨_,(k.2 a z).choose_spec⟩
  ·obtain⟨xs,e⟩:=r.dom a ha;exact⟨xs,k.1 _ _ z e⟩
 dom0:=r.dom0
 pt0:=λp hp=>⟨(r.pt0 p hp).1,r.pt_pot k hp⟩
 kx:=λb o n e=>by
  by_cases z:Yh σ δ b
  ·obtain⟨i,h1,h2⟩:=z;obtain⟨p,m,e1,h,q⟩:=r.sl i _ _ h1 h2;cases e1;rcases q with q | q
   ·exact absurd q n
   ·rw[q] at e;cases e
  ·exact k.1 _ _ z (r.kx b o n e)
 sl:=λi o x h1 h2=>by
  have h:=r.sl i o x h1 h2;cases x with
  |no=>trivial
  |v d=>obtain⟨v,e,q⟩:=h;exact⟨v,e,k.da q⟩
  |own ds=>obtain⟨l,xs,rfl,e,q,f⟩:=h;exact⟨l,xs,rfl,k.1 _ _ (r.own_pot h2 h1) e,k.das q,f⟩
  |pk ds=>
   obtain⟨l,xs,rfl,e,q,ys,f,f2⟩:=h;refine⟨l,xs,rfl,k.1 _ _ ?_ e,k.das q,ys,f,f2⟩;rintro⟨j,j1,j2⟩;obtain⟨p,m,e1,_,w⟩:=r.sl j _ _ j1 j2;cases e1;rcases w with w | w
   ·exact f2 w
   ·rw[w] at f;cases f
  |pot=>
   obtain⟨p,n,rfl,e,q⟩:=h;obtain⟨m,e'⟩:=k.2 p ⟨i,h1,h2⟩;exact⟨p,m,rfl,e',q⟩
  |scr=>exact h
 inj:=r.inj
theorem Rel.same{K:PySem.W.Frag}{F:Fm}{σ:L2.St}{H H':Hp}{δ:Sts}(r:Rel K F σ H δ)(s:Same H H'):Rel K F σ H' δ:=r.kp (Kp.same r s)
theorem Stp.refl{F:Fm}{σ:L2.St}{H:Hp}{δ:Sts}:Stp F σ H δ σ H δ:=⟨λ_ _ _ e=>e,λ_ z=>.inl z⟩
theorem Stp.trans{F:Fm}{σ σ1 σ2:L2.St}{H H1 H2:Hp}{δ δ1 δ2:Sts}(a:Stp F σ H δ σ1 H1 δ1)(b:Stp F σ1 H1 δ1 σ2 H2 δ2):Stp F σ H δ σ2 H2 δ2:=by
 refine⟨λc o n e=>?_,λc z=>?_⟩
 ·refine b.1 c o (λz=>?_) (a.1 c o n e);rcases a.2 c z with q | q
  ·exact n q
  ·rw[q] at e;cases e
 ·rcases b.2 c z with q | q
  ·exact a.2 c q
  ·by_cases y:Av F σ δ c
   ·exact .inl y
   ·right
    cases e:H c with
    |none=>rfl
    |some o=>rw[a.1 c o y e] at q;cases q
theorem Stp.kp{F:Fm}{σ:L2.St}{H H':Hp}{δ:Sts}(k:Kp σ δ H H'):Stp F σ H δ σ H' δ:=⟨λb o n e=>k.1 b o (λz=>n (Qaf z)) e,λ_ z=>.inl z⟩
theorem Stp.da{F:Fm}{σ σ':L2.St}{H H':Hp}{δ δ':Sts}{v:V}{d:Qb}(k:Stp F σ H δ σ' H' δ')(h:DA (Av F σ δ) H v d):DA (Av F σ' δ') H' v d:=h.mv k.1 k.2
abbrev XP:=Addr->Prop
abbrev DE:=Sts->(Qb->Prop)->XP->Prop
abbrev DT:=Sts->(Bool->Prop)->XP->Prop
abbrev DAr:=Sts->(List Qb->Prop)->XP->Prop
abbrev DSl:=Sts->(List Sl->Prop)->XP->Prop
inductive Md where | D | P | F
def FrV(H H':Hp)(v:V):Prop:=∀l,v=.ref l->(∃xs,H' l=some (.lst xs))->H l=none
def Vok(m:Md)(F:Fm)(σ:L2.St)(δ:Sts)(H H':Hp)(v:V)(d:Qb):Prop:=
 match m with
 |.D=>DA (Av F σ δ) H' v d
 |.P=>DP (Av F σ δ) (Yh σ δ) H' v d
 |.F=>DA (Av F σ δ) H' v d/\FrV H H' v
def Out(F:Fm)(E:XK)(EX:XP):Prop:=∀C,EX C->∀H',Ke F H'->E (.ref C) none H'
def tX(m:Md)(K:PySem.W.Frag)(E:XK)(w:DE):TE:=λσ H Q=>∃(F:Fm)(δ:Sts)(R:Qb->Prop)(EX:XP),Rel K F σ H δ/\w δ R EX/\(∀d,R d->∀v H',Rel K F σ H' δ->Kp σ δ H H'->Vok m F σ δ H H' v d->Q v H')/\Out F E EX
def tT(K:PySem.W.Frag)(E:XK)(w:DT):TT:=λσ H Q=>∃(F:Fm)(δ:Sts)(R:Bool->Prop)(EX:XP),Rel K F σ H δ/\w δ R EX/\(∀b,R b->∀H',Rel K F σ H' δ->Kp σ δ H H'->Q b H')/\Out F E EX
def VD(m:Md)(A P:Addr->Prop)(H:Hp)(v:V)(d:Qb):Prop:=
 match m with
 |.P=>DP A P H v d
 |_=>DA A H v d
def tAr(n:Nat)(m:Md)(K:PySem.W.Frag)(E:XK)(w:DAr):TA:=λσ H Q=>∃(F:Fm)(δ:Sts)(R:List Qb->Prop)(EX:XP),Rel K F σ H δ/\w δ R EX/\(∀ds,R ds->ds.length=n->∀vs H',Rel K F σ H' δ->Kp σ δ H H'->Zw (VD m (Av F σ δ) (Yh σ δ) H') vs ds->Q vs H')/\Out F E EX
def QiZ(A pt:Addr->Prop)(H:Hp)(v:V):Sl->Prop
 |.v d=>DA A H v d
 |.pot=>∃p,v=.ref p/\pt p
 |_=>False
def tAs(K:PySem.W.Frag)(E:XK)(w:DSl):TA:=λσ H Q=>∃(F:Fm)(δ:Sts)(R:List Sl->Prop)(EX:XP),Rel K F σ H δ/\w δ R EX/\(∀ds,R ds->∀vs H',Rel K F σ H' δ->Kp σ δ H H'->Zw (QiZ (Av F σ δ) (Yh σ δ) H') vs ds->Q vs H')/\Out F E EX
theorem Kp.vd{m:Md}{F:Fm}{σ:L2.St}{H H':Hp}{δ:Sts}{v:V}{d:Qb}(k:Kp σ δ H H')(h:VD m (Av F σ δ) (Yh σ δ) H v d):VD m (Av F σ δ) (Yh σ δ) H' v d:=by
 cases m
 ·exact k.da h
 ·exact k.dp h
 ·exact k.da h
theorem Kp.arg{F:Fm}{σ:L2.St}{H H':Hp}{δ:Sts}{v:V}{d:Sl}(k:Kp σ δ H H')(h:QiZ (Av F σ δ) (Yh σ δ) H v d):QiZ (Av F σ δ) (Yh σ δ) H' v d:=by
 cases d with
 |v d=>exact k.da h
 |pot=>exact h
 |_=>exact h.elim
def QcR(H:Hp):Prop:=∀a xs,H a=some (.lst xs)∨H a=some (.tup xs)->xs.length<=sizeLine
section
variable{X:Cx}{E:XK}
theorem Inv.lens{pins:List (Addr×Obj)}{σ:L2.St}{H:Hp}{s:Shared}(I:Inv X pins σ H s):QcR H:=λa xs h=>by
 rcases h with h | h
 ·exact(I.hok a _ h).1
 ·exact(I.hok a _ h).1
theorem PE.imp{e:QV}{t t':TE}(h:PE X e t)(i:∀σ H Q,t' σ H Q->t σ H Q):PE X e t':=λpins s σ H Q I q=>h pins s σ H Q I (i σ H Q q)
theorem PT.imp{e:QV}{t t':TT}(h:PT X e t)(i:∀σ H Q,t' σ H Q->t σ H Q):PT X e t':=λpins s σ H Q I q=>h pins s σ H Q I (i σ H Q q)
theorem PW.imp{e:QV}{t t':TT}(h:PW X e t)(i:∀σ H Q,t' σ H Q->t σ H Q):PW X e t':=λwh pins s σ H Q I q=>h wh pins s σ H Q I (i σ H Q q)
theorem PA.imp{e:List QV}{t t':TA}(h:PA X e t)(i:∀σ H Q,t' σ H Q->t σ H Q):PA X e t':=λpos pins s σ H Q I q=>h pos pins s σ H Q I (i σ H Q q)
theorem OpR.len{f:Value->Value->Sem Value}{r:R2}(h:OpR X f r):OpR X f (λx y H Q=>QcR H->r x y H Q):=λpins s σ H x y v u Q I rx ry q=>h pins s σ H x y v u Q I rx ry (q (Inv.lens I))
theorem CallR.len{f:Value}{r:List V->Hp->VK->Prop}(h:CallR X f r):CallR X f (λxs H Q=>QcR H->r xs H Q):=λpins s σ H xs us Q I rx q=>h pins s σ H xs us Q I rx (q (Inv.lens I))
theorem IxR.len{r:R2}(h:IxR X r):IxR X (λx y H Q=>QcR H->r x y H Q):=λa b pins s σ H x y v u Q I rx ry q hs=>h a b pins s σ H x y v u Q I rx ry (q (Inv.lens I)) hs
theorem OpR.or2{f:Value->Value->Sem Value}{r r':R2}(h:OpR X f r)(h':OpR X f r'):OpR X f (λx y H Q=>r x y H Q∨r' x y H Q):=OpR.or h h'
theorem IxR.or2{r r':R2}(h:IxR X r)(h':IxR X r'):IxR X (λx y H Q=>r x y H Q∨r' x y H Q):=λa b pins s σ H x y v u Q I rx ry q hs=>q.elim (λq=>h a b pins s σ H x y v u Q I rx ry q hs) λq=>h' a b pins s σ H x y v u Q I rx ry q hs
theorem SlR.or2{r r':V->Option Int->Option Int->Hp->VK->Prop}(h:SlR X r)(h':SlR X r'):SlR X (λx a b H Q=>r x a b H Q∨r' x a b H Q):=λpins s σ H x v vl vu lo hi sl Q I rx hs pl pu q=>q.elim (h pins s σ H x v vl vu lo hi sl Q I rx hs pl pu) (h' pins s σ H x v vl vu lo hi sl Q I rx hs pl pu)
theorem toD{e:QV}{w:DE}(h:PE X e (tX .F X.K E w)):PE X e (tX .D X.K E w):=PE.imp h λσ H Q ⟨F,δ,R,EX,r,hw,k,o⟩=>⟨F,δ,R,EX,r,hw,λd hd v H' r' kp vk=>k d hd v H' r' kp vk.1,o⟩
theorem toP{e:QV}{w:DE}(h:PE X e (tX .D X.K E w)):PE X e (tX .P X.K E w):=PE.imp h λσ H Q ⟨F,δ,R,EX,r,hw,k,o⟩=>⟨F,δ,R,EX,r,hw,λd hd v H' r' kp vk=>k d hd v H' r' kp (.inl vk),o⟩
theorem QCn{e:QV}{w:DE}(h:PE X e (tX .F X.K E w)):PE X e (tX .P X.K E w):=toP (toD h)
def Qk9(i:Nat):DE:=λδ Q _=>match δ[i]? with
 |some (.v d)=>Q d
 |_=>False
def dPk(i:Nat):DE:=λδ Q _=>match δ[i]? with
 |some (.v d)=>Q d
 |some (.own ds)=>Q (.list ds)
 |some (.pk ds)=>Q (.list ds)
 |_=>False
def dC(d:Qb):DE:=λ_ Q _=>Q d
theorem Rel.lt{K:PySem.W.Frag}{F:Fm}{σ:L2.St}{H:Hp}{δ:Sts}(r:Rel K F σ H δ){i:Nat}{x:Sl}(h:δ[i]? = some x):∃o,σ[i]? = some o:=by
 have:=(Q6.mp h).1;exact⟨σ[i]'(by rw[r.len];exact this),Qd _⟩
theorem QxG{e:QV}{i:Nat}(h:PE X e (Qbq i)):PE X e (tX .D X.K E (Qk9 i)):=PE.imp h λσ H Q ⟨F,δ,R,EX,r,hw,k,o⟩=>by
 unfold Qk9 at hw;split at hw
 ·rename_i d hd
  obtain⟨x,hx⟩:=r.lt hd;obtain⟨v,rfl,q⟩:=r.sl i _ _ hx hd;exact⟨v,hx,k d hw v H r (Kp.refl r) q⟩
 ·exact hw.elim
theorem QAE{e:QV}{i:Nat}(h:PE X e (Qbq i)):PE X e (tX .P X.K E (dPk i)):=PE.imp h λσ H Q ⟨F,δ,R,EX,r,hw,k,o⟩=>by
 unfold dPk at hw;split at hw
 ·rename_i d hd
  obtain⟨x,hx⟩:=r.lt hd;obtain⟨v,rfl,q⟩:=r.sl i _ _ hx hd;exact⟨v,hx,k d hw v H r (Kp.refl r) (.inl q)⟩
 ·rename_i d hd
  obtain⟨x,hx⟩:=r.lt hd;obtain⟨l,xs,rfl,e,q,_⟩:=r.sl i _ _ hx hd;exact⟨_,hx,k _ hw _ H r (Kp.refl r) (.inr ⟨l,xs,d,rfl,rfl,r.own_pot hd hx,e,q⟩)⟩
 ·rename_i d hd
  obtain⟨x,hx⟩:=r.lt hd;obtain⟨l,xs,rfl,e,q,ys,f,f2⟩:=r.sl i _ _ hx hd;refine⟨_,hx,k _ hw _ H r (Kp.refl r) (.inr ⟨l,xs,d,rfl,rfl,?_,e,q⟩)⟩;rintro⟨j,j1,j2⟩;obtain⟨p,m,e1,_,w⟩:=r.sl j _ _ j1 j2;cases e1;rcases w with w | w
  ·exact f2 w
  ·rw[w] at f;cases f
 ·exact hw.elim
theorem QxT{e:QV}{v:V}{d:Qb}(h:PE X e (tC v))(q:∀(A:Addr->Prop)(H:Hp),DA A H v d):PE X e (tX .D X.K E (dC d)):=PE.imp h λσ H Q ⟨F,δ,R,EX,r,hw,k,o⟩=>k d hw v H r (Kp.refl r) (q _ _)
theorem QxP{i:Int}{j pos}:PE X (.Constant (.int i) j pos) (tX .D X.K E (dC (.int i))):=QxT Jd λ_ _=>.int i
theorem QAI{b:Bool}{j pos}:PE X (.Constant (.bool b) j pos) (tX .D X.K E (dC (.bool b))):=QxT Qhy λ_ _=>.bl b
theorem QxM{j pos}:PE X (.Constant .none j pos) (tX .D X.K E (dC .none)):=QxT QbE λ_ _=>.non
theorem QxJ{x:Str}{j pos}(h:Jx (.str x)=true:=by decide):PE X (.Constant (.str x) j pos) (tX .D X.K E (dC (.str x))):=QxT Jb λ_ _=>.str x h
def OpD(r:R2)(rD:Qb->Qb->(Qb->Prop)->Prop):Prop:=∀(A P:Addr->Prop)(H:Hp)(x y:V)(d1 d2:Qb)(R:Qb->Prop)(Q:VK),QcR H->(∀a,A a->∃xs,H a=some (.lst xs))->DP A P H x d1->DP A P H y d2->rD d1 d2 R ->
 (∀d,R d->∀v H',Same H H'->DA A H' v d->FrV H H' v->Q v H')->r x y H Q
def QrA(r:R2)(rD:Qb->Qb->(Qb->Prop)->Prop):Prop:=∀(A P:Addr->Prop)(H:Hp)(x y:V)(d1 d2:Qb)(R:Qb->Prop)(Q:VK),QcR H->(∀a,A a->∃xs,H a=some (.lst xs))->DP A P H x d1->DP A P H y d2->rD d1 d2 R ->
 (∀d,R d->∀v H',Same H H'->DA A H' v d->Q v H')->r x y H Q
def dOp(rD:Qb->Qb->(Qb->Prop)->Prop)(wa wb:DE):DE:=λδ Q EX=>wa δ (λd1=>wb δ (λd2=>rD d1 d2 Q) EX) EX
theorem QiA{K:PySem.W.Frag}{r:R2}{rD:Qb->Qb->(Qb->Prop)->Prop}{wa wb:DE}(hd:OpD r rD)(σ:L2.St)(H:Hp)(Q:VK)(h:tX .F K E (dOp rD wa wb) σ H Q) :
  tOp (λx y H Q=>QcR H->r x y H Q) (tX .P K E wa) (tX .P K E wb) σ H Q:=by
 obtain⟨F,δ,R,EX,rel,hw,k,o⟩:=h;refine⟨F,δ,_,EX,rel,hw,λd1 h1 x H1 rel1 kp1 x1=>⟨F,δ,_,EX,rel1,h1,λd2 h2 y H2 rel2 kp2 y2=>λln=>?_,o⟩,o⟩;refine hd (Av F σ δ) (Yh σ δ) H2 x y d1 d2 R Q ln (λa ha=>rel2.isl ha) (kp2.dp x1) y2 h2 λd hR v H' s q f=>?_
 refine k d hR v H' (rel2.same s) ((kp1.trans kp2).trans (Kp.same rel2 s)) ⟨q,λl e1 e2=>?_⟩;have f2:=f l e1 e2;cases e:H l with
 |none=>rfl
 |some ob=>
  by_cases z:Yh σ δ l
  ·obtain⟨n,en⟩:=kp2.2 l z;rw[en] at f2;cases f2
  ·rw[(kp1.trans kp2).1 _ _ z e] at f2;cases f2
theorem Qpq{K:PySem.W.Frag}{r:R2}{rD:Qb->Qb->(Qb->Prop)->Prop}{wa wb:DE}(hd:QrA r rD)(σ:L2.St)(H:Hp)(Q:VK)(h:tX .D K E (dOp rD wa wb) σ H Q) :
  tOp (λx y H Q=>QcR H->r x y H Q) (tX .P K E wa) (tX .P K E wb) σ H Q:=by
 obtain⟨F,δ,R,EX,rel,hw,k,o⟩:=h;refine⟨F,δ,_,EX,rel,hw,λd1 h1 x H1 rel1 kp1 x1=>⟨F,δ,_,EX,rel1,h1,λd2 h2 y H2 rel2 kp2 y2=>λln=>?_,o⟩,o⟩;refine hd (Av F σ δ) (Yh σ δ) H2 x y d1 d2 R Q ln (λa ha=>rel2.isl ha) (kp2.dp x1) y2 h2 λd hR v H' s q=>?_
 exact k d hR v H' (rel2.same s) ((kp1.trans kp2).trans (Kp.same rel2 s)) q
variable{a b:QV}{wa wb:DE}{pos:Pos}{r:R2}{rD:Qb->Qb->(Qb->Prop)->Prop}
theorem QxU{op:Qc5}(ho:OpR X (binaryOp op) r)(hd:OpD r rD)(ha:PE X a (tX .P X.K E wa))(hb:PE X b (tX .P X.K E wb)):PE X (.BinOp a op b pos) (tX .F X.K E (dOp rD wa wb)):=PE.imp (ZF (OpR.len ho) ha hb) (QiA hd)
theorem QxS{op:Qth}(ho:OpR X (compareOp op) r)(hd:OpD r rD)(ha:PE X a (tX .P X.K E wa))(hb:PE X b (tX .P X.K E wb))(hm:behindInMarks op b=false):PE X (.Compare a [op] [b] pos) (tX .F X.K E (dOp rD wa wb)):=PE.imp (Qgw (OpR.len ho) ha hb hm) (QiA hd)
theorem QAG{r:R2}{rD:Qb->Qb->(Qb->Prop)->Prop}(ho:IxR X r)(hd:QrA r rD)(ha:PE X a (tX .P X.K E wa))(hb:PE X b (tX .P X.K E wb))(hs:QiX b):PE X (.Subscript a b pos) (tX .D X.K E (dOp rD wa wb)):=PE.imp (Yo (IxR.len ho) ha hb hs) (Qpq hd)
def dTst(w:DE):DT:=λδ Q EX=>w δ (λd=>match d with
 |.bool k=>Q k
 |_=>False) EX
theorem Qua{op:Qth}(ho:OpR X (compareOp op) r)(hd:OpD r rD)(ha:PE X a (tX .P X.K E wa))(hb:PE X b (tX .P X.K E wb))(hm:behindInMarks op b=false):PT X (.Compare a [op] [b] pos) (tT X.K E (dTst (dOp rD wa wb))):=by
 refine PT.imp (Ze (OpR.len ho) ha hb hm) λσ H Q ⟨F,δ,R,EX,rel,hw,k,o⟩=>?_
 refine QiA hd σ H (λx H'=>∃k,x=.bl k/\Q k H') ⟨F,δ,_,EX,rel,hw,λd hd2 v H' rel' kp vk=>?_,o⟩;split at hd2
 ·rename_i b
  have:v=.bl b:=by cases vk.1;rfl
  exact⟨b,this,k b hd2 H' rel' kp⟩
 ·exact hd2.elim
def tru:Qb->Bool
 |.none=>false
 |.bool b=>b
 |.int i=>i != 0
 |.str y=>(y.length:Int) != 0
 |.list ds => !ds.isEmpty
 |.tuple ds => !ds.isEmpty
 |.dict ds => !ds.isEmpty
def strOk:Qb->Prop
 |.str y=>y.length<=sizeLine
 |_=>True
def dTru(w:DE):DT:=λδ Q EX=>w δ (λd=>strOk d/\Q (tru d)) EX
theorem QwG{K:PySem.W.Frag}{A P:Addr->Prop}{H:Hp}{v:V}{d:Qb}(h:DP A P H v d)(hs:strOk d):QBs K v H (tru d):=by
 have sq:∀{xs:List V}{ds:List Qb},DAs A H xs ds->(!ds.isEmpty) = !xs.isEmpty:=λq=>by cases q<;>rfl
 rcases h with h | ⟨l,xs,ds,rfl,rfl,_,e,q⟩
 ·cases h with
  |non=>rfl
  |bl b=>rfl
  |int i=>rfl
  |str x c=>exact⟨hs,rfl⟩
  |@tup a xs ds n e q=>exact .inr (.inl ⟨xs,SqT.of e,sq q⟩)
  |@lst a xs ds n e q=>exact .inl ⟨xs,SqL.of e,sq q⟩
  |@dct a kvs ds n e q=>subst q;exact .inr (.inr ⟨dkV kvs,e,by cases kvs<;>rfl⟩)
 ·exact .inl ⟨xs,SqL.of e,sq q⟩
theorem Qt8{e:QV}{w:DE}(h:PE X e (tX .P X.K E w))(he:∀whole,isTrue e X.env whole=(do let v <- whole;standAt e.pos;holding [v] (truthy v))):PT X e (tT X.K E (dTru w)):=by
 refine PT.imp (Qeu h he) λσ H Q ⟨F,δ,R,EX,rel,hw,k,o⟩=>?_
 exact⟨F,δ,_,EX,rel,hw,λd ⟨hs,hq⟩ v H' rel' kp vk=>⟨tru d,QwG vk hs,k _ hq H' rel' kp⟩,o⟩
theorem Qt7{e:QV}{w:DE}(h:PE X e (tX .P X.K E w))(he:∀whole,isTrue e X.env whole=(do let v <- whole;standAt e.pos;holding [v] (truthy v)):=by intro _;rfl):PT X e (tT X.K E (dTst w)):=by
 refine PT.imp (Qmo h he) λσ H Q ⟨F,δ,R,EX,rel,hw,k,o⟩=>?_
 refine⟨F,δ,_,EX,rel,hw,λd hd v H' rel' kp vk=>?_,o⟩;split at hd
 ·exact⟨_,DP.bool vk,k _ hd H' rel' kp⟩
 ·exact hd.elim
def QBm(wa wb:DT):DT:=λδ Q EX=>wa δ (λc=>if c=true then wb δ Q EX else Q false) EX
def dOr(wa wb:DT):DT:=λδ Q EX=>wa δ (λc=>if c=true then Q true else wb δ Q EX) EX
def QB7(wa:DT):DT:=λδ Q EX=>wa δ (λc=>Q (!c)) EX
theorem QcC{c:Prop}[Decidable c]{p q p' q':Prop}(h:if c then p else q)(h1:p->p')(h2:q->q'):if c then p' else q':=by
 split at h
 ·rw[if_pos (by assumption)];exact h1 h
 ·rw[if_neg (by assumption)];exact h2 h
variable{rest:List QV}{ta tb:DT}
theorem Qo8(ha:PT X a (tT X.K E ta)):PW X (.BoolOp .And [a] pos) (tT X.K E ta):=QeN ha
theorem Qt5(ha:PT X a (tT X.K E ta)):PW X (.BoolOp .Or [a] pos) (tT X.K E ta):=Qhs ha
theorem Qt6(ha:PT X a (tT X.K E ta))(hb:PW X (.BoolOp .And (b::rest) pos) (tT X.K E tb)):PW X (.BoolOp .And (a::b::rest) pos) (tT X.K E (QBm ta tb)):=by
 refine PW.imp (Qht ha hb) λσ H Q ⟨F,δ,R,EX,rel,hw,k,o⟩=>?_
 refine⟨F,δ,_,EX,rel,hw,λc hc H' rel' kp=>?_,o⟩;exact QcC hc (λz=>⟨F,δ,R,EX,rel',z,λc hc H2 rel2 kp2=>k c hc H2 rel2 (kp.trans kp2),o⟩) λz=>k _ z H' rel' kp
theorem QxE(ha:PT X a (tT X.K E ta))(hb:PW X (.BoolOp .Or (b::rest) pos) (tT X.K E tb)):PW X (.BoolOp .Or (a::b::rest) pos) (tT X.K E (dOr ta tb)):=by
 refine PW.imp (Qml ha hb) λσ H Q ⟨F,δ,R,EX,rel,hw,k,o⟩=>?_
 refine⟨F,δ,_,EX,rel,hw,λc hc H' rel' kp=>?_,o⟩;exact QcC hc (λz=>k _ z H' rel' kp) (λz=>⟨F,δ,R,EX,rel',z,λc hc H2 rel2 kp2=>k c hc H2 rel2 (kp.trans kp2),o⟩)
theorem Qt9(ha:PT X a (tT X.K E ta)):PT X (.UnaryOp .Not a pos) (tT X.K E (QB7 ta)):=by
 refine PT.imp (Qhv ha) λσ H Q ⟨F,δ,R,EX,rel,hw,k,o⟩=>?_
 exact⟨F,δ,_,EX,rel,hw,λc hc H' rel' kp=>k _ hc H' rel' kp,o⟩
def QyX(wa wb:DE):DE:=λδ Q EX=>wa δ (λd=>match d with
 |.bool c=>if c=true then wb δ Q EX else Q (.bool false)
 |_=>False) EX
def QB6(wa wb:DE):DE:=λδ Q EX=>wa δ (λd=>match d with
 |.bool c=>if c=true then Q (.bool true) else wb δ Q EX
 |_=>False) EX
def QyS(wa:DE):DE:=λδ Q EX=>wa δ (λd=>match d with
 |.bool c=>Q (.bool (!c))
 |_=>False) EX
theorem QxK{op}{w:DE}(h:PE X a (tX .D X.K E w)):PE X (.BoolOp op [a] pos) (tX .D X.K E w):=Qsm h
theorem QxV(ha:PE X a (tX .P X.K E wa))(hb:PE X (.BoolOp .And (b::rest) pos) (tX .D X.K E wb)):PE X (.BoolOp .And (a::b::rest) pos) (tX .D X.K E (QyX wa wb)):=by
 refine PE.imp (Qsp ha hb) λσ H Q ⟨F,δ,R,EX,rel,hw,k,o⟩=>?_
 refine⟨F,δ,_,EX,rel,hw,λd hd v H' rel' kp vk=>?_,o⟩;split at hd
 ·exact⟨_,DP.bool vk,QcC hd (λz=>⟨F,δ,R,EX,rel',z,λd hd v H2 rel2 kp2=>k d hd v H2 rel2 (kp.trans kp2),o⟩) λz=>k _ z _ H' rel' kp (.bl _)⟩
 ·exact hd.elim
theorem QAF(ha:PE X a (tX .P X.K E wa))(hb:PE X (.BoolOp .Or (b::rest) pos) (tX .D X.K E wb)):PE X (.BoolOp .Or (a::b::rest) pos) (tX .D X.K E (QB6 wa wb)):=by
 refine PE.imp (QAB ha hb) λσ H Q ⟨F,δ,R,EX,rel,hw,k,o⟩=>?_
 refine⟨F,δ,_,EX,rel,hw,λd hd v H' rel' kp vk=>?_,o⟩;split at hd
 ·exact⟨_,DP.bool vk,QcC hd (λz=>k _ z _ H' rel' kp (.bl _)) (λz=>⟨F,δ,R,EX,rel',z,λd hd v H2 rel2 kp2=>k d hd v H2 rel2 (kp.trans kp2),o⟩)⟩
 ·exact hd.elim
theorem QxL(ha:PE X a (tX .P X.K E wa)):PE X (.UnaryOp .Not a pos) (tX .D X.K E (QyS wa)):=by
 refine PE.imp (QxD ha) λσ H Q ⟨F,δ,R,EX,rel,hw,k,o⟩=>?_
 refine⟨F,δ,_,EX,rel,hw,λd hd v H' rel' kp vk=>?_,o⟩;split at hd
 ·exact⟨_,DP.bool vk,k _ hd _ H' rel' kp (.bl _)⟩
 ·exact hd.elim
def QCa(t:DT)(wa wb:DE):DE:=λδ Q EX=>t δ (λc=>if c=true then wa δ Q EX else wb δ Q EX) EX
theorem QxQ{c:QV}(hc:PT X c (tT X.K E ta))(ha:PE X a (tX .D X.K E wa))(hb:PE X b (tX .D X.K E wb)):PE X (.IfExp c a b pos) (tX .D X.K E (QCa ta wa wb)):=by
 refine PE.imp (QjD hc ha hb) λσ H Q ⟨F,δ,R,EX,rel,hw,k,o⟩=>?_
 refine⟨F,δ,_,EX,rel,hw,λd hd H' rel' kp=>?_,o⟩;exact QcC hd (λz=>⟨F,δ,R,EX,rel',z,λd hd v H2 rel2 kp2=>k d hd v H2 rel2 (kp.trans kp2),o⟩) (λz=>⟨F,δ,R,EX,rel',z,λd hd v H2 rel2 kp2=>k d hd v H2 rel2 (kp.trans kp2),o⟩)
theorem QfU{A:Addr->Prop}{H H':Hp}{l:Addr}{xs:List V}{ds:List Qb}(dm:∀a,A a->∃xs,H a=some (.lst xs))(s:Same H H')(n:H l=none)(e:H' l=some (.lst xs))(q:DAs A H xs ds):DA A H' (.ref l) (.list ds):=
 .lst (λz=>by obtain⟨ys,e'⟩:=dm l z;rw[n] at e';cases e') e (q.same s)
theorem Qhe{A:Addr->Prop}{H H':Hp}{l:Addr}{xs:List V}{ds:List Qb}(dm:∀a,A a->∃xs,H a=some (.lst xs))(s:Same H H')(e:H' l=some (.tup xs))(q:DAs A H xs ds):DA A H' (.ref l) (.tuple ds):=
 .tup (λz=>by obtain⟨ys,e'⟩:=dm l z;rw[s _ _ e'] at e;cases e) e (q.same s)
theorem QbO{H H':Hp}{l:Addr}(n:H l=none):FrV H H' (.ref l):=λl' e _=>by cases e;exact n
theorem Qe3{H H':Hp}{l:Addr}{xs:List V}(e:H' l=some (.tup xs)):FrV H H' (.ref l):=λl' e1 ⟨ys,e2⟩=>by cases e1;rw[e] at e2;cases e2
theorem QaD{H H':Hp}{i:Int}:FrV H H' (.int i):=λl' e _=>by cases e
theorem Qa0{H H':Hp}{i:Bool}:FrV H H' (.bl i):=λl' e _=>by cases e
theorem Qvu{H H':Hp}:FrV H H' .non:=λl' e _=>by cases e
theorem DAs.rep{A:Addr->Prop}{H:Hp}{xs:List V}{ds:List Qb}(q:DAs A H xs ds):∀k:Nat,DAs A H (Jc k xs).flatten (Jc k ds).flatten
 |0=>.nil
 |k+1=>by rw[Zk,Zk,Z6,Z6];exact q.app (DAs.rep q k)
def QCg:Qb->Qb->(Qb->Prop)->Prop
 |.int i,.int j,Q=>Q (.int (i+j))
 |.tuple a,.tuple b,Q=>a.length+b.length<=1000000/\Q (.tuple (a++b))
 |.list a,.list b,Q=>a.length+b.length<=1000000/\Q (.list (a++b))
 |_,_,_=>False
def iiD(C:Int->Int->Prop)(f:Int->Int->Qb):Qb->Qb->(Qb->Prop)->Prop
 |.int i,.int j,Q=>C i j/\Q (f i j)
 |_,_,_=>False
def ii0(f:Int->Int->Qb):Qb->Qb->(Qb->Prop)->Prop
 |.int i,.int j,Q=>Q (f i j)
 |_,_,_=>False
def QBX:Qb->Qb->(Qb->Prop)->Prop
 |.int i,.int j,Q=>(CMul i j∨CMulB i j)/\Q (.int (i*j))
 |.list a,.int k,Q=>(k<1000000 /\ -1000000<k/\a.length*k.toNat<=1000000)/\Q (.list (Jc k.toNat a).flatten)
 |_,_,_=>False
theorem QhJ:1000000<=sizeLine:=by show 1000000<=2^24;decide
theorem QiD{C:Int->Int->Prop}{g:Int->Int->Int}:OpD (rI C λi j=>.int (g i j)) (iiD C λi j=>.int (g i j)):=λA P H x y d1 d2 R Q ln dm hx hy h k=>by
 cases d1<;>cases d2<;>first | exact h.elim | skip
 rw[hx.int,hy.int];exact⟨_,_,rfl,rfl,h.1,k _ h.2 _ H (Same.refl H) (.int _) QaD⟩
theorem Qea{g:Int->Int->Int}:OpD (rI0 λi j=>.int (g i j)) (ii0 λi j=>.int (g i j)):=λA P H x y d1 d2 R Q ln dm hx hy h k=>by
 cases d1<;>cases d2<;>first | exact h.elim | skip
 rw[hx.int,hy.int];exact⟨_,_,rfl,rfl,k _ h _ H (Same.refl H) (.int _) QaD⟩
theorem QeS{g:Int->Int->Bool}:OpD (rI0 λi j=>.bl (g i j)) (ii0 λi j=>.bool (g i j)):=λA P H x y d1 d2 R Q ln dm hx hy h k=>by
 cases d1<;>cases d2<;>first | exact h.elim | skip
 rw[hx.int,hy.int];exact⟨_,_,rfl,rfl,k _ h _ H (Same.refl H) (.bl _) Qa0⟩
def rAdd:R2:=λx y H Q=>(rI0 (λi j=>.int (i+j)) x y H Q∨Qxm x y H Q)∨QBT x y H Q
theorem YL:OpR X (binaryOp .Add) rAdd:=OpR.or2 (OpR.or2 Qca QuB) Qsr
theorem QaX:OpD rAdd QCg:=λA P H x y d1 d2 R Q ln dm hx hy h k=>by
 cases d1<;>cases d2<;>first | exact h.elim | skip
 ·rw[hx.int,hy.int];exact .inl (.inl ⟨_,_,rfl,rfl,k _ h _ H (Same.refl H) (.int _) QaD⟩)
 ·obtain⟨l1,xs,rfl,e1,q1⟩:=hx.list;obtain⟨l2,ys,rfl,e2,q2⟩:=hy.list;refine .inr ⟨l1,l2,xs,ys,rfl,rfl,e1,e2,Qt (by rw[q1.length,q2.length];exact h.1) QhJ,λp hp=>?_⟩;exact k _ h.2 _ _ (JK hp) (QfU dm (JK hp) hp upd_same (q1.app q2)) (QbO hp)
 ·obtain⟨l1,xs,rfl,e1,q1⟩:=hx.tuple;obtain⟨l2,ys,rfl,e2,q2⟩:=hy.tuple;refine .inl (.inr ⟨l1,l2,xs,ys,rfl,rfl,e1,e2,Qt (by rw[q1.length,q2.length];exact h.1) QhJ,λp H' s e=>?_⟩);exact k _ h.2 _ _ s (Qhe dm s e (q1.app q2)) (Qe3 e)
def Qxh:R2:=λx y H Q=>(rI CMul (λi j=>.int (i*j)) x y H Q∨rI CMulB (λi j=>.int (i*j)) x y H Q)∨QBK x y H Q
theorem QmJ:OpR X (binaryOp .Mult) Qxh:=OpR.or2 (OpR.or2 QfT Qux) Qx0
theorem Qst:OpD Qxh QBX:=λA P H x y d1 d2 R Q ln dm hx hy h k=>by
 cases d1<;>cases d2<;>first | exact h.elim | skip
 ·rw[hx.int,hy.int];rcases h.1 with c | c
  ·exact .inl (.inl ⟨_,_,rfl,rfl,c,k _ h.2 _ H (Same.refl H) (.int _) QaD⟩)
  ·exact .inl (.inr ⟨_,_,rfl,rfl,c,k _ h.2 _ H (Same.refl H) (.int _) QaD⟩)
 ·obtain⟨l1,xs,rfl,e1,q1⟩:=hx.list;rw[hy.int];obtain⟨⟨h1,h2,h3⟩,h4⟩:=h;refine .inr ⟨l1,_,xs,rfl,rfl,e1,by omega,by omega,Qt (by rw[q1.length];exact h3) QhJ,λp hp=>?_⟩;exact k _ h4 _ _ (JK hp) (QfU dm (JK hp) hp upd_same (q1.rep _)) (QbO hp)
def eqD:Qb->Qb->(Qb->Prop)->Prop
 |.int i,.int j,Q=>Q (.bool (decide (i=j)))
 |.bool i,.bool j,Q=>Q (.bool (decide (i=j)))
 |.str i,.str j,Q=>Q (.bool (decide (i=j)))
 |a,b,Q=>(nd a=true/\nd b=true/\(a.depth<=50∨b.depth<=50))/\Q (.bool (QY a b))
def neD:Qb->Qb->(Qb->Prop)->Prop
 |.int i,.int j,Q=>Q (.bool (!decide (i=j)))
 |.bool i,.bool j,Q=>Q (.bool (!decide (i=j)))
 |.str i,.str j,Q=>Q (.bool (!decide (i=j)))
 |a,b,Q=>(nd a=true/\nd b=true/\(a.depth<=50∨b.depth<=50))/\Q (.bool (!QY a b))
theorem Qyl{a b:Qb}(h:a.depth<=50∨b.depth<=50):min a.depth b.depth<=50:=by rcases h with h | h<;>omega
def QBS(u:Nat):R2:=λx y H Q=>rEq x y H Q∨QBR u x y H Q
def QBM(u:Nat):R2:=λx y H Q=>rNe x y H Q∨QBL u x y H Q
theorem QbG:OpR X (compareOp .Eq) (QBS X.A.units):=OpR.or2 QiB Qx5
theorem QhB:OpR X (compareOp .NotEq) (QBM X.A.units):=OpR.or2 Qpr QjH
theorem QyI{i j:Int}:decide (V.int i=V.int j)=decide (i=j):=by
 by_cases h:i=j
 ·subst h;simp
 ·rw[decide_eq_false h,decide_eq_false (λz=>h (V.int.inj z))]
theorem QyJ{i j:Bool}:decide (V.bl i=V.bl j)=decide (i=j):=by
 by_cases h:i=j
 ·subst h;simp
 ·rw[decide_eq_false h,decide_eq_false (λz=>h (V.bl.inj z))]
theorem QyH{i j:Str}:decide (V.str i=V.str j)=decide (i=j):=by
 by_cases h:i=j
 ·subst h;simp
 ·rw[decide_eq_false h,decide_eq_false (λz=>h (V.str.inj z))]
theorem QdN{u:Nat}(hu:u+60<cLine):OpD (QBS u) eqD:=λA P H x y d1 d2 R Q ln dm hx hy h k=>by
 unfold eqD at h;split at h
 ·rw[hx.int,hy.int];exact .inl ⟨rfl,k (.bool (decide (V.int _=V.int _))) (by rw[QyI];exact h) _ H (Same.refl H) (.bl _) Qa0⟩
 ·rw[hx.bool,hy.bool];exact .inl ⟨rfl,k (.bool (decide (V.bl _=V.bl _))) (by rw[QyJ];exact h) _ H (Same.refl H) (.bl _) Qa0⟩
 ·rw[hx.str.1,hy.str.1];exact .inl ⟨rfl,k (.bool (decide (V.str _=V.str _))) (by rw[QyH];exact h) _ H (Same.refl H) (.bl _) Qa0⟩
 ·obtain⟨⟨n1,n2,dp⟩,hR⟩:=h;have:=Qyl dp;exact .inr ⟨_,_,hx.dat n1,hy.dat n2,by omega,k _ hR _ H (Same.refl H) (.bl _) Qa0⟩
theorem QmX{u:Nat}(hu:u+60<cLine):OpD (QBM u) neD:=λA P H x y d1 d2 R Q ln dm hx hy h k=>by
 unfold neD at h;split at h
 ·rw[hx.int,hy.int];exact .inl ⟨rfl,k (.bool (!decide (V.int _=V.int _))) (by rw[QyI];exact h) _ H (Same.refl H) (.bl _) Qa0⟩
 ·rw[hx.bool,hy.bool];exact .inl ⟨rfl,k (.bool (!decide (V.bl _=V.bl _))) (by rw[QyJ];exact h) _ H (Same.refl H) (.bl _) Qa0⟩
 ·rw[hx.str.1,hy.str.1];exact .inl ⟨rfl,k (.bool (!decide (V.str _=V.str _))) (by rw[QyH];exact h) _ H (Same.refl H) (.bl _) Qa0⟩
 ·obtain⟨⟨n1,n2,dp⟩,hR⟩:=h;have:=Qyl dp;exact .inr ⟨_,_,hx.dat n1,hy.dat n2,by omega,k _ hR _ H (Same.refl H) (.bl _) Qa0⟩
def QtO(u:Nat)(neg:Bool):R2:=λx y H Q=>∃c ps ds d,y=.ref c/\H c=some (.lst ps)/\Dats H ps ds/\Dat H x d/\u+d.depth<cLine/\Q (.bl (if neg then !(ds.any λe=>QY e d) else ds.any λe=>QY e d)) H
theorem Quy:OpR X (compareOp .In) (QtO X.A.in1.units false):=by
 intro pins s σ H x y v u Q I rx ry h;obtain⟨c,ps,ds,d,rfl,hc,qs,qx,hu,q⟩:=h;cases ry;obtain⟨⟨as,ra⟩,ca⟩:=Y5 I.hok d x v qx rx;obtain⟨its,rv,pl,hz⟩:=I.list (SqL.of hc);obtain⟨⟨bs,rb⟩,cb⟩:=Qak I.hok ds ps its qs rv;refine Qtb (eqH s.heap d) pl.isList (λw hw=>QeW ra ca rb cb hu w (ZO.mp hw)) ⟨.bl _,H,I,rfl,?_⟩;rw[show its.toArray.any (eqH s.heap d)=its.any (eqH s.heap d) by simp,Qfk rb cb];exact q
theorem Qky:OpR X (compareOp .NotIn) (QtO X.A.in1.units true):=by
 intro pins s σ H x y v u Q I rx ry h;obtain⟨c,ps,ds,d,rfl,hc,qs,qx,hu,q⟩:=h;cases ry;obtain⟨⟨as,ra⟩,ca⟩:=Y5 I.hok d x v qx rx;obtain⟨its,rv,pl,hz⟩:=I.list (SqL.of hc);obtain⟨⟨bs,rb⟩,cb⟩:=Qak I.hok ds ps its qs rv;refine Qoc (eqH s.heap d) pl.isList (λw hw=>QeW ra ca rb cb hu w (ZO.mp hw)) ⟨.bl _,H,I,rfl,?_⟩;rw[show its.toArray.any (eqH s.heap d)=its.any (eqH s.heap d) by simp,Qfk rb cb];exact q
def inD(neg:Bool)(d:Qb):Qb->(Qb->Prop)->Prop
 |.list ds,Q=>(nds ds=true/\nd d=true/\d.depth<=50)/\Q (.bool (if neg then !(ds.any λe=>QY e d) else ds.any λe=>QY e d))
 |.tuple ds,Q=>(nds ds=true/\nd d=true/\d.depth<=50)/\Q (.bool (if neg then !(ds.any λe=>QY e d) else ds.any λe=>QY e d))
 |_,_=>False
def QAx(u:Nat)(neg:Bool):R2:=λx y H Q=>QAw u neg x y H Q∨QtO u neg x y H Q
theorem QhD:OpR X (compareOp .In) (QAx X.A.in1.units false):=OpR.or2 Qx2 Quy
theorem QbF:OpR X (compareOp .NotIn) (QAx X.A.in1.units true):=OpR.or2 QmG Qky
theorem QeR{u:Nat}{neg:Bool}(hu:u+60<cLine):OpD (QAx u neg) (inD neg):=λA P H x y d1 d2 R Q ln dm hx hy h k=>by
 cases d2<;>first | exact h.elim | skip
 ·obtain⟨l,xs,rfl,e,q⟩:=hy.list;obtain⟨⟨n1,n2,n3⟩,hR⟩:=h;exact .inr ⟨l,xs,_,d1,rfl,e,QaL _ _ n1 q,hx.dat n2,by omega,k _ hR _ H (Same.refl H) (.bl _) Qa0⟩
 ·obtain⟨l,xs,rfl,e,q⟩:=hy.tuple;obtain⟨⟨n1,n2,n3⟩,hR⟩:=h;exact .inl ⟨l,xs,_,d1,rfl,e,QaL _ _ n1 q,hx.dat n2,by omega,k _ hR _ H (Same.refl H) (.bl _) Qa0⟩
def ixD:Qb->Qb->(Qb->Prop)->Prop
 |.list ds,.int i,Q=>∃d,atI ds i=some d/\Q d
 |.tuple ds,.int i,Q=>∃d,atI ds i=some d/\Q d
 |_,_,_=>False
theorem Qs3{A:Addr->Prop}{H:Hp}{xs:List V}{ds:List Qb}{i:Int}{d:Qb}(q:DAs A H xs ds)(h:atI ds i=some d):∃v,atI xs i=some v/\DA A H v d:=by
 unfold atI at h ⊢;rw[q.length];cases e:ixN ds.length i with
 |none=>rw[e] at h;cases h
 |some j=>
  rw[e] at h;exact q.get j d h
def QBP(K:PySem.W.Frag):R2:=λx y H Q=>Qwh K x y H Q∨QBN K x y H Q
theorem JO:IxR X (QBP X.K):=IxR.or2 Zu Qdo
theorem Zx{K:PySem.W.Frag}:QrA (QBP K) ixD:=λA P H x y d1 d2 R Q ln dm hx hy h k=>by
 cases d1<;>cases d2<;>first | exact h.elim | skip
 ·obtain⟨l,xs,rfl,e,q⟩:=hx.list;obtain⟨d,hd,hR⟩:=h;obtain⟨v,hv,dv⟩:=Qs3 q hd;rw[hy.int];exact .inl ⟨l,xs,_,v,rfl,rfl,SqL.of e,hv,k d hR v H (Same.refl H) dv⟩
 ·obtain⟨l,xs,rfl,e,q⟩:=hx.tuple;obtain⟨d,hd,hR⟩:=h;obtain⟨v,hv,dv⟩:=Qs3 q hd;rw[hy.int];exact .inr ⟨l,xs,_,v,rfl,rfl,SqT.of e,hv,k d hR v H (Same.refl H) dv⟩
def dUn(rD:Qb->(Qb->Prop)->Prop)(wa:DE):DE:=λδ Q EX=>wa δ (λd=>rD d Q) EX
def QBW:Qb->(Qb->Prop)->Prop
 |.int i,Q=>Q (.int (-i))
 |_,_=>False
variable{a b c:QV}{wa wb wc:DE}{pos:Pos}
theorem QxN(ha:PE X a (tX .P X.K E wa)):PE X (.UnaryOp .USub a pos) (tX .F X.K E (dUn QBW wa)):=by
 refine PE.imp (Qmt Qhd ha) λσ H Q ⟨F,δ,R,EX,rel,hw,k,o⟩=>?_
 refine⟨F,δ,_,EX,rel,hw,λd hd v H' rel' kp vk=>?_,o⟩;cases d<;>first | exact(show False from hd).elim | skip
 exact⟨_,DP.int vk,k _ hd _ H' rel' kp ⟨.int _,QaD⟩⟩
def dCh(p q:Int->Int->Bool)(wa wb wc:DE):DE:=λδ Q EX=>wa δ (λx=>wb δ (λy=>match x,y with
 |.int i,.int j=>if p i j=true then wc δ (λz=>match z with
  |.int k=>Q (.bool (q j k))
  |_=>False) EX else Q (.bool false)
 |_,_=>False) EX) EX
theorem QvO{K:PySem.W.Frag}{p q:Int->Int->Bool}(σ:L2.St)(H:Hp)(Q:VK)(h:tX .F K E (dCh p q wa wb wc) σ H Q) :
  QrU (rI0 λi j=>.bl (p i j)) (rI0 λi j=>.bl (q i j)) (tX .P K E wa) (tX .P K E wb) (tX .P K E wc) σ H Q:=by
 obtain⟨F,δ,R,EX,rel,hw,k,o⟩:=h;refine⟨F,δ,_,EX,rel,hw,λd1 h1 x H1 rel1 kp1 x1=>⟨F,δ,_,EX,rel1,h1,λd2 h2 y H2 rel2 kp2 y2=>?_,o⟩,o⟩;cases d1<;>cases d2<;>first | exact(show False from h2).elim | skip
 rw[DP.int x1,DP.int y2];refine⟨_,_,rfl,rfl,_,rfl,QcC h2 (λz=>⟨F,δ,_,EX,rel2,z,λd3 h3 v H3 rel3 kp3 v3=>?_,o⟩) λz=>k _ z _ H2 rel2 (kp1.trans kp2) ⟨.bl _,Qa0⟩⟩;cases d3<;>first | exact(show False from h3).elim | skip
 rw[DP.int v3];exact⟨_,_,rfl,rfl,k _ h3 _ H3 rel3 ((kp1.trans kp2).trans kp3) ⟨.bl _,Qa0⟩⟩
theorem QAH{op op':Qth}{p q:Int->Int->Bool}(ho:OpR X (compareOp op) (rI0 λi j=>.bl (p i j)))(ho':OpR X (compareOp op') (rI0 λi j=>.bl (q i j)))(ha:PE X a (tX .P X.K E wa))(hb:PE X b (tX .P X.K E wb))(hc:PE X c (tX .P X.K E wc))(hm:lastMarks [op,op'] [b,c]=false:=by with_unfolding_all rfl) :
  PE X (.Compare a [op,op'] [b,c] pos) (tX .F X.K E (dCh p q wa wb wc)):=PE.imp (Qo6 ho ho' ha hb hc (hm:=hm)) QvO
def QnG:DAr:=λ_ Q _=>Q []
def Qbu(we:DE)(wr:DAr):DAr:=λδ Q EX=>we δ (λd=>wr δ (λds=>Q (d::ds)) EX) EX
theorem Qup{m:Md}:PA X [] (tAr 0 m X.K E QnG):=PA.imp Qq λσ H Q ⟨F,δ,R,EX,rel,hw,k,o⟩=>k [] hw rfl [] H rel (Kp.refl rel) .nil
theorem Qn6{n:Nat}{m:Md}{K:PySem.W.Frag}{we:DE}{wr:DAr}(hm:∀{F:Fm}{σ:L2.St}{δ:Sts}{H H':Hp}{v:V}{d:Qb},Vok m F σ δ H H' v d->VD m (Av F σ δ) (Yh σ δ) H' v d)(σ:L2.St)(H:Hp)(Q:List V->Hp->Prop)(h:tAr (n+1) m K E (Qbu we wr) σ H Q):Qae (tX m K E we) (tAr n m K E wr) σ H Q:=by
 obtain⟨F,δ,R,EX,rel,hw,k,o⟩:=h;refine⟨F,δ,_,EX,rel,hw,λd hd v H' rel' kp vk=>⟨F,δ,_,EX,rel',hd,λds hds hl vs H2 rel2 kp2 vks=>?_,o⟩,o⟩;exact k _ hds (by rw[Qu,hl]) (v::vs) H2 rel2 (kp.trans kp2) (.cons (kp2.vd (hm vk)) vks)
theorem QmD{n:Nat}{e:QV}{es:List QV}{we:DE}{wr:DAr}(he:PE X e (tX .D X.K E we))(hr:PA X es (tAr n .D X.K E wr))(hs:notStar e=true:=by rfl):PA X (e::es) (tAr (n+1) .D X.K E (Qbu we wr)):=PA.imp (Zo he hr hs) (Qn6 λh=>h)
theorem QmC{n:Nat}{e:QV}{es:List QV}{we:DE}{wr:DAr}(he:PE X e (tX .P X.K E we))(hr:PA X es (tAr n .P X.K E wr))(hs:notStar e=true:=by rfl):PA X (e::es) (tAr (n+1) .P X.K E (Qbu we wr)):=PA.imp (Zo he hr hs) (Qn6 λh=>h)
theorem QdM{A P:Addr->Prop}{H:Hp}:∀{vs:List V}{ds:List Qb},Zw (VD .D A P H) vs ds->DAs A H vs ds
 |_,_,.nil=>.nil
 |_,_,.cons a b=>.cons a (QdM b)
def Qwk(w:DAr):DE:=λδ Q EX=>w δ (λds=>Q (.tuple ds)) EX
def QyT(w:DAr):DE:=λδ Q EX=>w δ (λds=>Q (.list ds)) EX
theorem QxH{n:Nat}{es:List QV}{w:DAr}{x1}(h:PA X es (tAr n .D X.K E w))(hn:n<=1000:=by decide):PE X (.Tuple es x1 pos) (tX .F X.K E (Qwk w)):=by
 refine PE.imp (Ym h) λσ H Q ⟨F,δ,R,EX,rel,hw,k,o⟩=>?_
 refine⟨F,δ,_,EX,rel,hw,λds hds hl vs H' rel' kp q=>?_,o⟩;have q':=QdM q;refine⟨by rw[q'.length,hl];exact hn,λa H2 s n e=>k _ hds _ H2 (rel'.same s) (kp.trans (Kp.same rel' s)) ⟨Qhe (λa ha=>rel'.isl ha) s e q',Qe3 e⟩⟩
theorem QcL{σ:L2.St}{δ:Sts}{H H':Hp}{l:Addr}(k:Kp σ δ H H')(n:H' l=none):H l=none:=by
 cases e:H l with
 |none=>rfl
 |some ob=>
  by_cases z:Yh σ δ l
  ·obtain⟨m,em⟩:=k.2 l z;rw[em] at n;cases n
  ·rw[k.1 _ _ z e] at n;cases n
theorem QxO{n:Nat}{es:List QV}{w:DAr}(h:PA X es (tAr n .D X.K E w))(hn:n<=1000:=by decide):PE X (.List es pos) (tX .F X.K E (QyT w)):=by
 refine PE.imp (Za h) λσ H Q ⟨F,δ,R,EX,rel,hw,k,o⟩=>?_
 refine⟨F,δ,_,EX,rel,hw,λds hds hl vs H' rel' kp q=>?_,o⟩;have q':=QdM q;refine⟨by rw[q'.length,hl];exact hn,λa H2 s n e=>k _ hds _ H2 (rel'.same s) (kp.trans (Kp.same rel' s)) ⟨QfU (λa ha=>rel'.isl ha) s n e q',QbO (QcL kp n)⟩⟩
theorem QxR{pos:Pos}:PE X (.Dict [] [] pos) (tX .D X.K E (dC (.dict []))):=by
 refine PE.imp Qt2 λσ H Q ⟨F,δ,R,EX,rel,hw,k,o⟩=>λp hp=>?_
 refine k _ hw _ _ (rel.same (JK hp)) (Kp.same rel (JK hp)) (.dct (kvs:=[]) (λz=>?_) upd_same rfl);obtain⟨xs,e⟩:=rel.isl z;rw[hp] at e;cases e
def Qcv(r:List V->Hp->VK->Prop)(rD:List Qb->(Qb->Prop)->Prop):Prop:=∀(A P:Addr->Prop)(H:Hp)(vs:List V)(ds:List Qb)(R:Qb->Prop)(Q:VK),QcR H->(∀a,A a->∃xs,H a=some (.lst xs))->Zw (DP A P H) vs ds->rD ds R ->
 (∀d,R d->∀v H',Same H H'->DA A H' v d->FrV H H' v->Q v H')->r vs H Q
def dCB(rD:List Qb->(Qb->Prop)->Prop)(wa:DAr):DE:=λδ Q EX=>wa δ (λds=>rD ds Q) EX
theorem QnN{n:Nat}{K:PySem.W.Frag}{r:List V->Hp->VK->Prop}{rD:List Qb->(Qb->Prop)->Prop}{wa:DAr}(hd:Qcv r rD)(σ:L2.St)(H:Hp)(Q:VK)(h:tX .F K E (dCB rD wa) σ H Q) :
  tCB (λxs H Q=>QcR H->r xs H Q) (tAr n .P K E wa) σ H Q:=by
 obtain⟨F,δ,R,EX,rel,hw,k,o⟩:=h;refine⟨F,δ,_,EX,rel,hw,λds hds hl vs H' rel' kp q ln=>?_,o⟩;refine hd (Av F σ δ) (Yh σ δ) H' vs ds R Q ln (λa ha=>rel'.isl ha) q hds λd hR v H2 s dv fr=>?_
 exact k d hR v H2 (rel'.same s) (kp.trans (Kp.same rel' s)) ⟨dv,λl e1 e2=>QcL kp (fr l e1 e2)⟩
variable{x:Str}{bid T:String}{p:Pos}{e:QV}{es:List QV}{n:Nat}{wr:DAr}{r:List V->Hp->VK->Prop}{rD:List Qb->(Qb->Prop)->Prop}
theorem Qpp(hc:CallR X (.builtin bid) r)(hd:Qcv r rD)(hg:Gl X x)(hm:X.mg x=none)(hv:bootBuiltins x=some (.builtin bid))(ha:PA X (e::es) (tAr n .P X.K E wr))(hn:x ≠ "__name__" := by decide)(hdb:(x == ("__debug__" : Str))=false:=by decide)
  (he:starEach (e::es) X.env=(false,eval e X.env)::starEach es X.env:=by rfl)(hpl:(backTo pos (starEach es X.env)).any (·.1)=false:=by rfl):PE X (.Call (.Name x p) (e::es) [] pos) (tX .F X.K E (dCB rD wr)):=
 PE.imp (ZD (CallR.len hc) hg hm hv ha hn hdb he hpl) (QnN hd)
theorem QmE(hc:CallR X (.type T) r)(hd:Qcv r rD)(hg:Gl X x)(hm:X.mg x=none)(hv:bootBuiltins x=some (.type T))(ha:PA X (e::es) (tAr n .P X.K E wr))(hn:x ≠ "__name__" := by decide)(hdb:(x == ("__debug__" : Str))=false:=by decide)
  (he:starEach (e::es) X.env=(false,eval e X.env)::starEach es X.env:=by rfl)(hpl:(backTo pos (starEach es X.env)).any (·.1)=false:=by rfl):PE X (.Call (.Name x p) (e::es) [] pos) (tX .F X.K E (dCB rD wr)):=
 PE.imp (ZT (CallR.len hc) hg hm hv ha hn hdb he hpl) (QnN hd)
theorem pd1{A P:Addr->Prop}{H:Hp}{vs:List V}{d:Qb}(q:Zw (DP A P H) vs [d]):∃v,vs=[v]/\DP A P H v d:=by
 cases q with
 |cons a b=>cases b;exact⟨_,rfl,a⟩
theorem pd2{A P:Addr->Prop}{H:Hp}{vs:List V}{d d':Qb}(q:Zw (DP A P H) vs [d,d']):∃v v',vs=[v,v']/\DP A P H v d/\DP A P H v' d':=by
 cases q with
 |cons a b=>cases b with | cons b c=>cases c;exact⟨_,_,rfl,a,b⟩
def QAU:List Qb->(Qb->Prop)->Prop
 |[.list ds],Q=>Q (.int ds.length)
 |[.tuple ds],Q=>Q (.int ds.length)
 |_,_=>False
theorem QnM{K:PySem.W.Frag}:Qcv (Qxj K) QAU:=λA P H vs ds R Q ln dm q h k=>by
 unfold QAU at h;split at h
 ·obtain⟨v,rfl,hv⟩:=pd1 q;obtain⟨l,xs,rfl,e,qq⟩:=hv.list;exact⟨l,xs,rfl,.inl (SqL.of e),by rw[qq.length];exact k _ h _ H (Same.refl H) (.int _) QaD⟩
 ·obtain⟨v,rfl,hv⟩:=pd1 q;obtain⟨l,xs,rfl,e,qq⟩:=hv.tuple;exact⟨l,xs,rfl,.inr (SqT.of e),by rw[qq.length];exact k _ h _ H (Same.refl H) (.int _) QaD⟩
 ·exact h.elim
theorem Qfd:CallR X (.builtin "len") (Qxj X.K):=Z0
def Qve:List Qb->(Qb->Prop)->Prop
 |[.int i,.int j],Q=>Q (.int (if j<i then j else i))
 |_,_=>False
theorem QvP:Qcv (λxs H Q=>∃i j,xs=[.int i,.int j]/\Q (.int (if j<i then j else i)) H) Qve:=λA P H vs ds R Q ln dm q h k=>by
 unfold Qve at h;split at h
 ·obtain⟨v,v',rfl,h1,h2⟩:=pd2 q;rw[h1.int,h2.int];exact⟨_,_,rfl,k _ h _ H (Same.refl H) (.int _) QaD⟩
 ·exact h.elim
def QcQ:List Qb->Option (List Bool)
 |[]=>some []
 |.bool b::ds=>(QcQ ds).map (b::·)
 |_::_=>none
def Qed:List Qb->Option (List Int)
 |[]=>some []
 |.int b::ds=>(Qed ds).map (b::·)
 |_::_=>none
theorem QnU(bs:List Bool):QcQ (bs.map Qaz)=some bs:=by
 induction bs with
 |nil=>rfl
 |cons b bs ih=>rw[JB,QcQ,ih];rfl
theorem ints_map(bs:List Int):Qed (bs.map QJ)=some bs:=by
 induction bs with
 |nil=>rfl
 |cons b bs ih=>rw[JB,Qed,ih];rfl
theorem bools_eq:∀{ds:List Qb}{bs:List Bool},QcQ ds=some bs->ds=bs.map Qaz
 |[],bs,h=>by cases h;rfl
 |d::ds,bs,h=>by
  cases d<;>first | (unfold QcQ at h;cases h;done) | skip
  rw[QcQ] at h;obtain⟨cs,h1,rfl⟩:=JG.mp h;rw[bools_eq h1];rfl
theorem QiI:∀{ds:List Qb}{bs:List Int},Qed ds=some bs->ds=bs.map QJ
 |[],bs,h=>by cases h;rfl
 |d::ds,bs,h=>by
  cases d<;>first | (unfold Qed at h;cases h;done) | skip
  rw[Qed] at h;obtain⟨cs,h1,rfl⟩:=JG.mp h;rw[QiI h1];rfl
theorem QhQ{A:Addr->Prop}{H:Hp}:∀{bs:List Bool}{xs:List V},DAs A H xs (bs.map Qaz)->xs=bs.map V.bl
 |[],_,.nil=>rfl
 |b::bs,_,.cons (.bl _) r=>by rw[QhQ r];rfl
theorem QgK{A:Addr->Prop}{H:Hp}:∀{bs:List Int}{xs:List V},DAs A H xs (bs.map QJ)->xs=bs.map V.int
 |[],_,.nil=>rfl
 |b::bs,_,.cons (.int _) r=>by rw[QgK r];rfl
@[irreducible] def Qzx:List Qb->(Qb->Prop)->Prop
 |[.list ds],Q=>∃ns,Qed ds=some ns/\Q (.int ns.sum)
 |_,_=>False
theorem Qy0{K:PySem.W.Frag}:Qcv (Qxd K) Qzx:=λA P H vs ds R Q ln dm q h k=>by
 unfold Qzx at h;split at h
 ·obtain⟨v,rfl,hv⟩:=pd1 q;obtain⟨bs,hb,hR⟩:=h;rw[QiI hb] at hv;obtain⟨l,xs,rfl,e,qq⟩:=hv.list;rw[QgK qq] at e;exact⟨l,bs,rfl,SqL.of e,k _ hR _ H (Same.refl H) (.int _) QaD⟩
 ·exact h.elim
def QrO:List Qb->(Qb->Prop)->Prop
 |[.list ds],Q=>Q (.tuple ds)
 |[.tuple ds],Q=>Q (.tuple ds)
 |_,_=>False
def Qvh:List Qb->(Qb->Prop)->Prop
 |[.list ds],Q=>Q (.list ds)
 |[.tuple ds],Q=>Q (.list ds)
 |_,_=>False
theorem Ys{K:PySem.W.Frag}:Qcv (Ql8 K) QrO:=λA P H vs ds R Q ln dm q h k=>by
 unfold QrO at h;split at h
 ·obtain⟨v,rfl,hv⟩:=pd1 q;obtain⟨l,xs,rfl,e,qq⟩:=hv.list;exact⟨l,xs,rfl,.inl ⟨SqL.of e,λl' H' s n e'=>k _ h _ H' s (Qhe dm s e' qq) (Qe3 e')⟩⟩
 ·obtain⟨v,rfl,hv⟩:=pd1 q;obtain⟨l,xs,rfl,e,qq⟩:=hv.tuple;exact⟨l,xs,rfl,.inr ⟨SqT.of e,k _ h _ H (Same.refl H) (Qhe dm (Same.refl H) e qq) (Qe3 e)⟩⟩
 ·exact h.elim
theorem QiQ{K:PySem.W.Frag}:Qcv (Qmb K) Qvh:=λA P H vs ds R Q ln dm q h k=>by
 unfold Qvh at h;split at h
 ·obtain⟨v,rfl,hv⟩:=pd1 q;obtain⟨l,xs,rfl,e,qq⟩:=hv.list;exact⟨l,xs,rfl,.inl (SqL.of e),λl' H' s n e'=>k _ h _ H' s (QfU dm s n e' qq) (QbO n)⟩
 ·obtain⟨v,rfl,hv⟩:=pd1 q;obtain⟨l,xs,rfl,e,qq⟩:=hv.tuple;exact⟨l,xs,rfl,.inr (SqT.of e),λl' H' s n e'=>k _ h _ H' s (QfU dm s n e' qq) (QbO n)⟩
 ·exact h.elim
inductive Tn where | int | bool | str | tuple | list
def Tn.s:Tn->String
 |.int => "int"
 |.bool => "bool"
 |.str => "str"
 |.tuple => "tuple"
 |.list => "list"
def isT:Tn->Qb->Bool
 |.int,.int _=>true
 |.int,.bool _=>true
 |.bool,.bool _=>true
 |.str,.str _=>true
 |.tuple,.tuple _=>true
 |.list,.list _=>true
 |_,_=>false
theorem Qvr{K:PySem.W.Frag}{A P:Addr->Prop}{H:Hp}{v:V}{d:Qb}(tn:Tn)(h:DP A P H v d):∃t,TyOf K H v t/\PySem.W.kitOne K t (.type tn.s)=some (isT tn d):=by
 rcases h with h | ⟨l,xs,ds,rfl,rfl,_,e,q⟩
 ·cases h with
  |non=>exact⟨_,.non,by cases tn<;>rfl⟩
  |bl b=>exact⟨_,.bl _,by cases tn<;>rfl⟩
  |int i=>exact⟨_,.int _,by cases tn<;>rfl⟩
  |str x c=>exact⟨_,.str _,by cases tn<;>rfl⟩
  |tup n e q=>exact⟨_,.tup e,by cases tn<;>rfl⟩
  |lst n e q=>exact⟨_,.lst e,by cases tn<;>rfl⟩
  |dct n e q=>exact⟨_,.dK e,by cases tn<;>rfl⟩
 ·exact⟨_,.lst e,by cases tn<;>rfl⟩
def QyU(tn:Tn)(we:DE):DE:=λδ Q EX=>we δ (λd=>Q (.bool (isT tn d))) EX
theorem Quq{e f:QV}{we:DE}{p pos:Pos}(tn:Tn)(hg:Gl X "isinstance")(hm:X.mg "isinstance" = none)(he:PE X e (tX .P X.K E we))(hf:PE X f (tC (.ty tn.s)))(h1:notStar e=true:=by rfl)(h2:notStar f=true:=by rfl) :
  PE X (.Call (.Name "isinstance" p) [e,f] [] pos) (tX .F X.K E (QyU tn we)):=by
 refine PE.imp (ZD QiR hg hm QbR (Zo he (Zo hf Qq h2) h1) (he:=Qbr h1) (hpl:=by rw[Qbr h2];rfl)) λσ H Q ⟨F,δ,R,EX,rel,hw,k,o⟩=>?_
 refine⟨F,δ,_,EX,rel,hw,λd hd v H' rel' kp vk=>?_,o⟩;obtain⟨t,ty,et⟩:=Qvr (K:=X.K) tn vk;exact⟨v,t,tn.s,_,rfl,ty,et,k _ hd _ H' rel' kp ⟨.bl _,Qa0⟩⟩
theorem QAJ{x:Str}{pos:Pos}(tn:Tn)(hg:Gl X x)(hm:X.mg x=none)(hv:bootBuiltins x=some (.type tn.s))(hn:x ≠ "__name__" := by decide)(hd:(x == ("__debug__" : Str))=false:=by decide):PE X (.Name x pos) (tC (.ty tn.s)):=Qmw (v:=.ty tn.s) hg hm hv rfl hn hd
abbrev DO:=Sts->(Option Int->Prop)->XP->Prop
def tO(K:PySem.W.Frag)(E:XK)(w:DO):TO:=λσ H Q=>∃(F:Fm)(δ:Sts)(R:Option Int->Prop)(EX:XP),Rel K F σ H δ/\w δ R EX/\(∀d,R d->∀H',Rel K F σ H' δ->Kp σ δ H H'->Q d H')/\Out F E EX
def dNo:DO:=λ_ Q _=>Q none
def dSo(we:DE):DO:=λδ Q EX=>we δ (λd=>match d with
 |.int i=>Q (some i)
 |_=>False) EX
theorem PO.imp{e:Option QV}{t t':TO}(h:PO X e t)(i:∀σ H Q,t' σ H Q->t σ H Q):PO X e t':=λpins s σ H Q I q=>h pins s σ H Q I (i σ H Q q)
theorem Qpj:PO X none (tO X.K E dNo):=PO.imp Y1 λσ H Q ⟨F,δ,R,EX,rel,hw,k,o⟩=>k _ hw H rel (Kp.refl rel)
theorem Qpi{e:QV}{we:DE}(he:PE X e (tX .P X.K E we)):PO X (some e) (tO X.K E (dSo we)):=by
 refine PO.imp (Y0 he) λσ H Q ⟨F,δ,R,EX,rel,hw,k,o⟩=>?_
 refine⟨F,δ,_,EX,rel,hw,λd hd v H' rel' kp vk=>?_,o⟩;cases d<;>first | exact(show False from hd).elim | skip
 exact⟨_,DP.int vk,k _ hd H' rel' kp⟩
def cutD(xs:List Qb)(lo hi:Option Int):List Qb:=(xs.drop (HT.sIx xs.length 0 lo)).take (HT.sIx xs.length xs.length hi - HT.sIx xs.length 0 lo)
theorem QnH{A:Addr->Prop}{H:Hp}{xs:List V}{ds:List Qb}(q:DAs A H xs ds)(lo hi:Option Int):DAs A H (QhS xs lo hi) (cutD ds lo hi):=by
 unfold QhS cutD;rw[q.length];exact(q.drop _).take _
def slD(d:Qb)(lo hi:Option Int)(Q:Qb->Prop):Prop:=
 match d with
 |.list ds=>Q (.list (cutD ds lo hi))
 |.tuple ds=>Q (.tuple (cutD ds lo hi))
 |_=>False
def dSl(we:DE)(wl wh:DO):DE:=λδ Q EX=>we δ (λd=>wl δ (λlo=>wh δ (λhi=>slD d lo hi Q) EX) EX) EX
def Qxg(K:PySem.W.Frag):V->Option Int->Option Int->Hp->VK->Prop:=λx a b H Q=>QBJ x a b H Q∨QtK K x a b H Q
theorem Qpn{e:QV}{lo hi:Option QV}{we:DE}{wl wh:DO}{p2 pos:Pos}(he:PE X e (tX .P X.K E we))(hl:PO X lo (tO X.K E wl))(hh:PO X hi (tO X.K E wh)):PE X (.Subscript e (.Slice lo hi none p2) pos) (tX .F X.K E (dSl we wl wh)):=by
 refine PE.imp (Yd (r:=Qxg X.K) (SlR.or2 QwY Qbf) he hl hh) λσ H Q ⟨F,δ,R,EX,rel,hw,k,o⟩=>?_
 refine⟨F,δ,_,EX,rel,hw,λd hd v H1 rel1 kp1 vk=>⟨F,δ,_,EX,rel1,hd,λa ha H2 rel2 kp2=>⟨F,δ,_,EX,rel2,ha,λb hb H3 rel3 kp3=>?_,o⟩,o⟩,o⟩;have v3:=kp3.dp (kp2.dp vk);have K3:=(kp1.trans kp2).trans kp3;cases d<;>first | exact(show False from hb).elim | skip
 ·obtain⟨l,xs,rfl,e,q⟩:=DP.list v3;exact .inr ⟨l,xs,rfl,SqL.of e,λp H' s n e'=>k _ hb _ H' (rel3.same s) (K3.trans (Kp.same rel3 s)) ⟨QfU (λa ha=>rel3.isl ha) s n e' (QnH q _ _),QbO (QcL K3 n)⟩⟩
 ·obtain⟨l,xs,rfl,e,q⟩:=DP.tuple v3;exact .inl ⟨l,xs,rfl,e,λp H' s e'=>k _ hb _ H' (rel3.same s) (K3.trans (Kp.same rel3 s)) ⟨Qhe (λa ha=>rel3.isl ha) s e' (QnH q _ _),Qe3 e'⟩⟩
abbrev DF:=List Sl->(Qb->Prop)->XP->Prop
def Kq(pt:Addr->Prop)(H H':Hp):Prop:=(∀b o,¬pt b->H b=some o->H' b=some o)/\∀p,pt p->∃n,H' p=some (.lst [.int n])
def ZN(fr:Bool)(f:DF):Sp:=λvs H Q Ex=>∃(A pt:Addr->Prop)(args:List Sl)(R:Qb->Prop)(EX:XP),(∀a,A a->∃xs,H a=some (.lst xs))/\(∀p,pt p->A p/\∃n,H p=some (.lst [.int n]))/\Zw (QiZ A pt H) vs args/\f args R EX /\
 (∀d,R d->∀v H',Kq pt H H'->DA A H' v d->(fr=true->FrV H H' v)->Q v H')/\∀C,EX C->∀H',Kq pt H H'->Ex (.ref C) none H'
def QAq:DSl:=λ_ Q _=>Q []
def sV(we:DE)(wr:DSl):DSl:=λδ Q EX=>we δ (λd=>wr δ (λds=>Q (.v d::ds)) EX) EX
def Qzy(i:Nat)(wr:DSl):DSl:=λδ Q EX=>match δ[i]? with
 |some .pot=>wr δ (λds=>Q (.pot::ds)) EX
 |_=>False
theorem Qug:PA X [] (tAs X.K E QAq):=PA.imp Qq λσ H Q ⟨F,δ,R,EX,rel,hw,k,o⟩=>k [] hw [] H rel (Kp.refl rel) .nil
theorem QAD{e:QV}{es:List QV}{we:DE}{wr:DSl}(he:PE X e (tX .D X.K E we))(hr:PA X es (tAs X.K E wr))(hs:notStar e=true:=by rfl):PA X (e::es) (tAs X.K E (sV we wr)):=by
 refine PA.imp (Zo he hr hs) λσ H Q ⟨F,δ,R,EX,rel,hw,k,o⟩=>?_
 refine⟨F,δ,_,EX,rel,hw,λd hd v H' rel' kp vk=>⟨F,δ,_,EX,rel',hd,λds hds vs H2 rel2 kp2 vks=>?_,o⟩,o⟩;exact k _ hds (v::vs) H2 rel2 (kp.trans kp2) (.cons (kp2.da vk) vks)
theorem Qud{e:QV}{es:List QV}{i:Nat}{wr:DSl}(he:PE X e (Qbq i))(hr:PA X es (tAs X.K E wr))(hs:notStar e=true:=by rfl):PA X (e::es) (tAs X.K E (Qzy i wr)):=by
 refine PA.imp (Zo he hr hs) λσ H Q ⟨F,δ,R,EX,rel,hw,k,o⟩=>?_
 unfold Qzy at hw;split at hw
 ·rename_i hd
  obtain⟨x,hx⟩:=rel.lt hd;obtain⟨p,n,rfl,e,q⟩:=rel.sl i _ _ hx hd;refine⟨.ref p,hx,F,δ,_,EX,rel,hw,λds hds vs H2 rel2 kp2 vks=>?_,o⟩;exact k _ hds (.ref p::vs) H2 rel2 kp2 (.cons ⟨p,rfl,i,hx,hd⟩ vks)
 ·exact hw.elim
def QgM(f:DF)(wa:DSl):DE:=λδ Q EX=>wa δ (λargs=>f args Q EX) EX
theorem Kq.kp{K:PySem.W.Frag}{F:Fm}{σ:L2.St}{δ:Sts}{H H':Hp}(k:Kq (Yh σ δ) H H'):Kp σ δ H H':=k
theorem QhY{m:Md}{fr:Bool}{K:PySem.W.Frag}{f:DF}{wa:DSl}(hm:∀{F:Fm}{σ:L2.St}{δ:Sts}{H H':Hp}{v:V}{d:Qb},DA (Av F σ δ) H' v d->(fr=true->FrV H H' v)->Vok m F σ δ H H' v d)(σ:L2.St)(H:Hp)(Q:VK)(h:tX m K E (QgM f wa) σ H Q):Qkr (ZN fr f) [] E (tAs K E wa) σ H Q:=by
 obtain⟨F,δ,R,EX,rel,hw,k,o⟩:=h;refine⟨F,δ,_,EX,rel,hw,λargs ha vs H1 rel1 kp1 q=>?_,o⟩;show ZN fr f (vs++[]) H1 Q E;rw[Zn];refine⟨Av F σ δ,Yh σ δ,args,R,EX,λa ha=>rel1.isl ha,λp hp=>⟨Qaf hp,(Kp.refl rel1).2 p hp⟩,q,ha,λd hd v H' kq dv fr=>?_,λC hC H' kq=>o C hC H' (rel1.kp kq).ke⟩;exact k d hd v H' (rel1.kp kq) (kp1.trans kq) (hm dv λz l e1 e2=>QcL kp1 (fr z l e1 e2))
variable{CX:CXT}{k:Nat}{f:Addr}{fd:JQ}{ps:List Str}{x:Str}{p pos:Pos}{e:QV}{es:List QV}{fD:DF}{wa:DSl}
theorem Qus(G:FnOk X.prog X.w X.K X.mg X.base CX k f fd ps (ZN false fD))(hr:Room k X.A)(hg:Gl X x)(hm:X.mg x=some (.ref f))(hk:PySem.W.keepIn X.K (.ref f)=true)(hb:Binds X.K fd ps [])(hx:Y8 CX X E)
  (ha:PA X (e::es) (tAs X.K E wa))(hdb:(x == ("__debug__" : Str))=false:=by decide)(he:starEach (e::es) X.env=(false,eval e X.env)::starEach es X.env:=by rfl)(hpl:(backTo pos (starEach es X.env)).any (·.1)=false:=by rfl) :
  PE X (.Call (.Name x p) (e::es) [] pos) (tX .D X.K E (QgM fD wa)):=PE.imp (Qiv G hr hg hm hk hb .nil hx ha hdb he hpl) (QhY λh _=>h)
theorem Qpo(G:FnOk X.prog X.w X.K X.mg X.base CX k f fd ps (ZN true fD))(hr:Room k X.A)(hg:Gl X x)(hm:X.mg x=some (.ref f))(hk:PySem.W.keepIn X.K (.ref f)=true)(hb:Binds X.K fd ps [])(hx:Y8 CX X E)
  (ha:PA X (e::es) (tAs X.K E wa))(hdb:(x == ("__debug__" : Str))=false:=by decide)(he:starEach (e::es) X.env=(false,eval e X.env)::starEach es X.env:=by rfl)(hpl:(backTo pos (starEach es X.env)).any (·.1)=false:=by rfl) :
  PE X (.Call (.Name x p) (e::es) [] pos) (tX .F X.K E (QgM fD wa)):=PE.imp (Qiv G hr hg hm hk hb .nil hx ha hdb he hpl) (QhY λh z=>⟨h,z rfl⟩)
abbrev DG:=Qb->Sts->(Sts->Prop)->Prop
def tG(ix:List Nat)(K:PySem.W.Frag)(w:DG):TG:=λv σ H Q=>∃(F:Fm)(δ:Sts)(d:Qb)(R:Sts->Prop),Rel K F σ H δ/\DA (Av F σ δ) H v d/\w d δ R /\
 ∀δ',R δ'->∀σ',Rel K F σ' H δ'->Stp F σ H δ σ' H δ'->σ'.length=σ.length->(∀j,j∉ix->σ'[j]? = σ[j]?)->Q σ' H
theorem QaG{α:Type}{l:List α}{i j:Nat}{x:α}(h:j≠i):(l.set i x)[j]? = l[j]? := Qa6 (Qb1 h)
theorem set_eq{α:Type}{l:List α}{i:Nat}{x y:α}(h:(l.set i x)[i]? = some y):y=x:=by
 rw[Qfn] at h;simp only[if_true] at h;split at h
 ·exact(QH h).symm
 ·cases h
theorem Qec{F:Fm}{σ:L2.St}{δ:Sts}{i:Nat}{o:Option V}{d:Qb}{a:Addr}(h:Av F (σ.set i o) (δ.set i (.v d)) a):Av F σ δ a:=by
 rcases h with h | ⟨j,h1,h2⟩
 ·exact .inl h
 ·by_cases z:j=i
  ·subst z;rcases h2 with h2 | ⟨ds,h2⟩<;>cases set_eq h2
  ·rw[QaG z] at h1 h2;exact .inr ⟨j,h1,h2⟩
theorem Rel.setv{K:PySem.W.Frag}{F:Fm}{σ:L2.St}{H:Hp}{δ:Sts}(r:Rel K F σ H δ){i:Nat}{v:V}{d:Qb}(q:DA (Av F σ δ) H v d):Rel K F (σ.set i (some v)) H (δ.set i (.v d)) where
 len:=by rw[ZH,ZH];exact r.len
 dom:=r.dom
 dom0:=r.dom0
 pt0:=r.pt0
 kx:=r.kx
 sl:=λj o x h1 h2=>by
  have wk:∀{v:V}{d':Qb},DA (Av F σ δ) H v d'->DA (Av F (σ.set i (some v)) (δ.set i (.v d))) H v d':=λh=>h.mv (λ_ _ _ e=>e) λa z=>.inl (Qec z)
  by_cases z:j=i
  ·subst z;cases set_eq h1;cases set_eq h2;exact⟨v,rfl,q.mv (λ_ _ _ e=>e) λa z=>.inl (Qec z)⟩
  ·rw[QaG z] at h1 h2;have h:=r.sl j o x h1 h2;cases x with
   |no=>trivial
   |v d=>obtain⟨v',e,q'⟩:=h;exact⟨v',e,q'.mv (λ_ _ _ e=>e) λa z=>.inl (Qec z)⟩
   |own ds=>obtain⟨l,xs,e,e2,q',f⟩:=h;exact⟨l,xs,e,e2,q'.mv (λ_ _ _ e=>e) λa z=>.inl (Qec z),f⟩
   |pk ds=>obtain⟨l,xs,e,e2,q',f⟩:=h;exact⟨l,xs,e,e2,q'.mv (λ_ _ _ e=>e) λa z=>.inl (Qec z),f⟩
   |pot=>exact h
   |scr=>exact h
 inj:=λj k a ds h1 h2 ⟨h3,h4⟩=>by
  by_cases z:j=i
  ·subst z;cases set_eq h1
  ·rw[QaG z] at h1 h2;by_cases z2:k=i
   ·subst z2;rcases h4 with h4 | ⟨ds,h4⟩<;>cases set_eq h4
   ·rw[QaG z2] at h3 h4;exact r.inj j k a ds h1 h2 ⟨h3,h4⟩
theorem Stp.setv{F:Fm}{σ:L2.St}{H:Hp}{δ:Sts}{i:Nat}{o:Option V}{d:Qb}:Stp F σ H δ (σ.set i o) H (δ.set i (.v d)):=⟨λ_ _ _ e=>e,λa z=>.inl (Qec z)⟩
def gN(i:Nat):DG:=λd δ Q=>Q (δ.set i (.v d))
def Qjp:Sts->List Nat->List Qb->Sts
 |δ,i::is,d::ds=>Qjp (δ.set i (.v d)) is ds
 |δ,_,_=>δ
def gTN(is:List Nat):DG:=λd δ Q=>match d with
 |.tuple ds=>ds.length=is.length/\Q (Qjp δ is ds)
 |_=>False
theorem PG.imp{e:QV}{t t':TG}(h:PG X e t)(i:∀v σ H Q,t' v σ H Q->t v σ H Q):PG X e t':=λpins s σ H v u Q I r q=>h pins s σ H v u Q I r (i v σ H Q q)
theorem Qpm{e:QV}{i:Nat}(h:PG X e (Qbc i)):PG X e (tG [i] X.K (gN i)):=PG.imp h λv σ H Q ⟨F,δ,d,R,rel,dv,hw,k⟩=>
 k _ hw _ (rel.setv dv) Stp.setv (ZH ..) λj hj=>QaG λz=>hj (by rw[z];exact Qy.mpr rfl)
def gNs:List Nat->TGs
 |[]=>QA9
 |i::is=>Qrc (Qbc i) (gNs is)
theorem QjT{K:PySem.W.Frag}{F:Fm}{H:Hp}{Q:L2.St->Hp->Prop}:∀(is:List Nat)(vs:List V)(ds:List Qb)(σ:L2.St)(δ:Sts),ds.length=is.length->Rel K F σ H δ->DAs (Av F σ δ) H vs ds ->
  (∀σ',Rel K F σ' H (Qjp δ is ds)->Stp F σ H δ σ' H (Qjp δ is ds)->σ'.length=σ.length->(∀j,j∉is->σ'[j]? = σ[j]?)->Q σ' H)->gNs is vs σ H Q
 |[],vs,ds,σ,δ,hl,rel,q,k=>by
  cases ds with
  |nil=>cases q;exact⟨rfl,k σ rel Stp.refl rfl λ_ _=>rfl⟩
  |cons d ds=>cases hl
 |i::is,vs,ds,σ,δ,hl,rel,q,k=>by
  cases ds with
  |nil=>cases hl
  |cons d ds=>
   cases q with
   |@cons v vs _ _ q qs=>
    refine⟨v,vs,rfl,?_⟩;refine QjT is vs ds _ _ (by simpa using hl) (rel.setv q) (qs.mv (λ_ _ _ e=>e) λa z=>.inl (Qec z)) λσ' r' st hl' hj=>?_
    refine k σ' r' (Stp.setv.trans st) (by rw[hl',ZH]) λj hn=>?_
    rw[hj j (λz=>hn (QX _ z)),QaG (λz=>hn (by rw[z];exact Jl))]
theorem Quo{e:QV}{n:Nat}{is:List Nat}(h:PG X e (QA8 X.K n (gNs is)))(hn:is.length=n:=by rfl):PG X e (tG is X.K (gTN is)):=PG.imp h λv σ H Q ⟨F,δ,d,R,rel,dv,hw,k⟩=>by
 unfold gTN at hw;split at hw
 ·obtain⟨hl,hR⟩:=hw;cases dv with
  |@tup a xs ds na e q=>
   exact⟨a,xs,rfl,SqT.of e,by rw[q.length,hl,hn],QjT is xs _ σ δ hl rel q λσ' r' st hl' hj=>k _ hR σ' r' st hl' hj⟩
 ·exact hw.elim
def ItD(A S:Addr->Prop)(J:It)(items:List Qb)(H1:Hp):Prop:=items.length<=sizeLine/\∀(H2:Hp)(A':Addr->Prop),(∀b o,S b->H1 b=some o->H2 b=some o)->(∀b,A' b->A b∨H1 b=none)->(∀a,A' a->∃xs,H2 a=some (.lst xs)) ->
 (∀(i:Nat) d,items[i]? = some d->J.go i H2/\∀x H3,J.yld i H2 x H3->Same H2 H3/\DA A' H3 x d)/\J.stop items.length H2
def Sx(m:Md)(F:Fm)(σ:L2.St)(δ:Sts)(b:Addr):Prop:=
 match m with
 |.P=>¬Yh σ δ b
 |_=>¬Av F σ δ b
abbrev DI:=Sts->(List Qb->Prop)->XP->Prop
def tI(m:Md)(K:PySem.W.Frag)(E:XK)(w:DI):TI:=λσ H R=>∃(F:Fm)(δ:Sts)(R':List Qb->Prop)(EX:XP),Rel K F σ H δ/\w δ R' EX/\(∀items,R' items->∀J H',Rel K F σ H' δ->Kp σ δ H H'->ItD (Av F σ δ) (Sx m F σ δ) J items H'->R J H')/\Out F E EX
theorem PI.imp{tg e:QV}{t t':TI}(h:PI X tg e t)(i:∀σ H R,QcR H->t' σ H R->t σ H R):PI X tg e t':=λpins s σ H R I q=>h pins s σ H R I (i σ H R (Inv.lens I) q)
theorem PI.len{tg e:QV}{t:TI}(h:PI X tg e t):PI X tg e (λσ H R=>t σ H λJ H1=>QcR H1->R J H1):=λpins s σ H R I q=>by
 refine thn (h pins s σ H _ I q) λv s1 h1=>thn h1 λitv s2 h2=>?_
 obtain⟨it,fp,tn,J,H',e,I',T,t0,fo,hR⟩:=h2;exact⟨it,fp,tn,J,H',e,I',T,t0,fo,hR (Inv.lens I')⟩
def QB9(w:DE):DI:=λδ Q EX=>w δ (λd=>match d with
 |.list ds=>Q ds
 |_=>False) EX
def QB8(w:DE):DI:=λδ Q EX=>w δ (λd=>match d with
 |.tuple ds=>Q ds
 |_=>False) EX
theorem Qgn{A S:Addr->Prop}{H H2:Hp}{A':Addr->Prop}{xs:List V}{ds:List Qb}(sA:∀b,¬A b->S b)(k:∀b o,S b->H b=some o->H2 b=some o)(m:∀b,A' b->A b∨H b=none)(q:DAs A H xs ds):DAs A' H2 xs ds:=q.mv (λa o n e=>k a o (sA a n) e) m
theorem QAX{K:PySem.W.Frag}{A S:Addr->Prop}{H:Hp}{l:Addr}{xs:List V}{ds:List Qb}(sA:∀b,¬A b->S b)(sl:S l)(e:H l=some (.lst xs))(q:DAs A H xs ds)(ln:xs.length<=sizeLine):ItD A S (Itl K l) ds H:=by
 refine⟨by rw[<- q.length];exact ln,λH2 A' k m dm=>⟨λi d hd=>?_,xs,SqL.of (k _ _ sl e),by rw[q.length];exact Qf _⟩⟩;obtain⟨x,hx,dx⟩:=(Qgn sA k m q).get i d hd;refine⟨⟨xs,x,SqL.of (k _ _ sl e),hx⟩,λy H3 ⟨e3,hy⟩=>?_⟩;subst e3;have:=hy xs (SqL.of (k _ _ sl e));rw[hx] at this;cases this;exact⟨Same.refl _,dx⟩
theorem QAV{K:PySem.W.Frag}{A S:Addr->Prop}{H:Hp}{l:Addr}{xs:List V}{ds:List Qb}(sA:∀b,¬A b->S b)(sl:S l)(e:H l=some (.tup xs))(q:DAs A H xs ds)(ln:xs.length<=sizeLine):ItD A S (Itt K l) ds H:=by
 refine⟨by rw[<- q.length];exact ln,λH2 A' k m dm=>⟨λi d hd=>?_,xs,SqT.of (k _ _ sl e),by rw[q.length];exact Qf _⟩⟩;obtain⟨x,hx,dx⟩:=(Qgn sA k m q).get i d hd;refine⟨⟨xs,x,SqT.of (k _ _ sl e),hx⟩,λy H3 ⟨e3,hy⟩=>?_⟩;subst e3;have:=hy xs (SqT.of (k _ _ sl e));rw[hx] at this;cases this;exact⟨Same.refl _,dx⟩
theorem QlJ{m:Md}{F:Fm}{σ:L2.St}{δ:Sts}{b:Addr}(h:¬Av F σ δ b):Sx m F σ δ b:=by
 cases m
 ·exact h
 ·exact λz=>h (Qaf z)
 ·exact h
theorem stL{m:Md}{F:Fm}{σ:L2.St}{δ:Sts}{H H':Hp}{v:V}{ds:List Qb}(h:VD m (Av F σ δ) (Yh σ δ) H v (.list ds)):∃l xs,v=.ref l/\Sx m F σ δ l/\H l=some (.lst xs)/\DAs (Av F σ δ) H xs ds:=by
 cases m
 ·cases h with | @lst a xs _ n e q=>exact⟨a,xs,rfl,n,e,q⟩
 ·rcases h with h | ⟨l,xs,ds',rfl,e,n,e2,q⟩
  ·cases h with | @lst a xs _ n e q=>exact⟨a,xs,rfl,QlJ n,e,q⟩
  ·cases e;exact⟨l,xs,rfl,n,e2,q⟩
 ·cases h with | @lst a xs _ n e q=>exact⟨a,xs,rfl,n,e,q⟩
theorem stT{m:Md}{F:Fm}{σ:L2.St}{δ:Sts}{H H':Hp}{v:V}{ds:List Qb}(h:VD m (Av F σ δ) (Yh σ δ) H v (.tuple ds)):∃l xs,v=.ref l/\Sx m F σ δ l/\H l=some (.tup xs)/\DAs (Av F σ δ) H xs ds:=by
 cases m
 ·cases h with | @tup a xs _ n e q=>exact⟨a,xs,rfl,n,e,q⟩
 ·rcases h with h | ⟨l,xs,ds',rfl,e,n,e2,q⟩
  ·cases h with | @tup a xs _ n e q=>exact⟨a,xs,rfl,QlJ n,e,q⟩
  ·cases e
 ·cases h with | @tup a xs _ n e q=>exact⟨a,xs,rfl,n,e,q⟩
theorem Qlt{m:Md}{F:Fm}{σ:L2.St}{δ:Sts}{H H':Hp}{v:V}{d:Qb}(h:Vok m F σ δ H H' v d):VD m (Av F σ δ) (Yh σ δ) H' v d:=by
 cases m
 ·exact h
 ·exact h
 ·exact h.1
variable{m:Md}{tg e e':QV}{w w':DE}{p pos tpos:Pos}
theorem Qpl(h:PE X e (tX m X.K E w)):PI X tg e (tI m X.K E (QB9 w)):=by
 refine PI.imp (PI.len (QcH h)) λσ H R _ ⟨F,δ,R',EX,rel,hw,k,o⟩=>?_
 refine⟨F,δ,_,EX,rel,hw,λd hd v H' rel' kp vk=>?_,o⟩;cases d<;>first | exact(show False from hd).elim | skip
 obtain⟨l,xs,rfl,sl,e,q⟩:=stL (H':=H') (Qlt vk);exact⟨l,rfl,⟨xs,SqL.of e⟩,λln=>k _ hd _ H' rel' kp (QAX (λb=>QlJ) sl e q (ln _ _ (.inl e)))⟩
theorem Qun(h:PE X e (tX m X.K E w)):PI X tg e (tI m X.K E (QB8 w)):=by
 refine PI.imp (PI.len (Qsk h)) λσ H R _ ⟨F,δ,R',EX,rel,hw,k,o⟩=>?_
 refine⟨F,δ,_,EX,rel,hw,λd hd v H' rel' kp vk=>?_,o⟩;cases d<;>first | exact(show False from hd).elim | skip
 obtain⟨l,xs,rfl,sl,e,q⟩:=stT (H':=H') (Qlt vk);exact⟨l,rfl,⟨xs,SqT.of e⟩,λln=>k _ hd _ H' rel' kp (QAV (λb=>QlJ) sl e q (ln _ _ (.inr e)))⟩
def Qib(lo:Int)(n:Nat):List Qb:=(QN n).map λ(i:Nat)=>.int (lo+i)
theorem QdI{lo:Int}{n i:Nat}{d:Qb}(h:(Qib lo n)[i]? = some d):i<n/\d=.int (lo+i):=by
 unfold Qib at h;rw[Qz] at h;by_cases z:i<n
 ·rw[Zb z] at h;exact⟨z,(QH h).symm⟩
 ·rw[JC (by rw[Q5];omega)] at h;cases h
theorem Qgp{lo:Int}{n:Nat}:(Qib lo n).length=n:=by unfold Qib;rw[Qc,Q5]
theorem QAW{A S:Addr->Prop}{H:Hp}{lo:Int}{n:Nat}(hn:n<=1000000):ItD A S (Itr lo n) (Qib lo n) H:=by
 refine⟨by rw[Qgp];exact Qt hn QhJ,λH2 A' k m dm=>⟨λi d hd=>?_,by rw[Qgp];exact Qf _⟩⟩;obtain⟨hi,rfl⟩:=QdI hd;exact⟨hi,λx H3 ⟨e1,e2⟩=>by subst e1 e2;exact⟨Same.refl _,.int _⟩⟩
def QyP(w:DE):DI:=λδ Q EX=>w δ (λd=>match d with
 |.int j=>(-1000000<=j/\j<=1000000)/\Q (Qib 0 j.toNat)
 |_=>False) EX
theorem Qpk(hg:Gl X "range")(hm:X.mg "range" = none)(h:PE X e (tX .P X.K E w))(hs:notStar e=true:=by rfl):PI X tg (.Call (.Name "range" p) [e] [] pos) (tI m X.K E (QyP w)):=by
 refine PI.imp (Qau hg hm (Zo h Qq hs) (by rw[Qbr hs];rfl)) λσ H R _ ⟨F,δ,R',EX,rel,hw,k,o⟩=>?_
 refine⟨F,δ,_,EX,rel,hw,λd hd v H' rel' kp vk=>?_,o⟩;cases d<;>first | exact(show False from hd).elim | skip
 obtain⟨⟨h1,h2⟩,hR⟩:=hd;rw[DP.int vk];exact⟨_,rfl,by omega,by omega,k _ hR _ H' rel' kp (QAW (by omega))⟩
theorem Quu{A':Addr->Prop}{H2:Hp}{r:Addr}{x y:V}{d d':Qb}(dm:∀a,A' a->∃xs,H2 a=some (.lst xs))(n:H2 r=none)(q:DA A' H2 x d)(q':DA A' H2 y d'):DA A' (upd H2 r (.tup [x,y])) (.ref r) (.tuple [d,d']):=
 .tup (λz=>by obtain⟨xs,e⟩:=dm r z;rw[n] at e;cases e) upd_same (.cons (q.same (JK n)) (.cons (q'.same (JK n)) .nil))
def QhO(ds:List Qb):List Qb:=(QN ds.length).map λ(i:Nat)=>.tuple [.int i,ds.getD i .none]
theorem QgF{ds:List Qb}{i:Nat}{d:Qb}(h:(QhO ds)[i]? = some d):∃e,ds[i]? = some e/\d=.tuple [.int i,e]:=by
 unfold QhO at h;rw[Qz] at h;by_cases z:i<ds.length
 ·rw[Zb z] at h;refine⟨ds[i],Qd z,?_⟩;rw[<- QH h];show YV [.int i,ds.getD i .none]=_;rw[Qg,Qd z];rfl
 ·rw[JC (by rw[Q5];omega)] at h;cases h
theorem QgE{ds:List Qb}:(QhO ds).length=ds.length:=by unfold QhO;rw[Qc,Q5]
def QCb(w:DE):DI:=λδ Q EX=>w δ (λd=>match d with
 |.list ds=>Q (QhO ds)
 |_=>False) EX
variable{elts:List QV}
theorem QmB{x1}(hg:Gl X "enumerate")(hm:X.mg "enumerate" = none)(h:PE X e (tX m X.K E w))(hs:notStar e=true:=by rfl):PI X (.Tuple elts x1 tpos) (.Call (.Name "enumerate" p) [e] [] pos) (tI m X.K E (QCb w)):=by
 refine PI.imp (PI.len (QtZ hg hm (Zo h Qq hs) (by rw[Qbr hs];rfl))) λσ H R _ ⟨F,δ,R',EX,rel,hw,k,o⟩=>?_
 refine⟨F,δ,_,EX,rel,hw,λd hd v H' rel' kp vk=>?_,o⟩;cases d<;>first | exact(show False from hd).elim | skip
 obtain⟨l,xs,rfl,sl,e,q⟩:=stL (H':=H') (Qlt vk);refine⟨l,xs,rfl,e,λln=>k _ hd _ H' rel' kp ⟨by rw[QgE,<- q.length];exact ln _ _ (.inl e),λH2 A' kk mm dm=>⟨λi d hd'=>?_,xs,kk _ _ sl e,by rw[QgE,q.length];exact Qf _⟩⟩⟩;obtain⟨d',hd2,rfl⟩:=QgF hd';obtain⟨x,hx,dx⟩:=(Qgn (S:=Sx m F σ δ) (λb=>QlJ) kk mm q).get i d' hd2;refine⟨⟨xs,x,kk _ _ sl e,hx⟩,λy H3 ⟨r,x',nr,hx',e1,e2⟩=>?_⟩;subst e1 e2;have:=hx' xs (kk _ _ sl e);rw[hx] at this;cases this;exact⟨JK nr,Quu dm nr (.int _) dx⟩
def QvS:Option Sl->Sl
 |some (.v d)=>.v d
 |some (.own ds)=>.pk ds
 |some (.pk ds)=>.pk ds
 |some .pot=>.pot
 |_=>.no
def Qex(cap:List (Option Nat))(δ:Sts):Sts:=cap.map λo=>match o with
 |none=>.no
 |some j=>QvS δ[j]?
theorem QgN{cap:List (Option Nat)}{σ:L2.St}{i:Nat}{o:Option V}(h:(QdU cap σ)[i]? = some o):(cap[i]? = some none/\o=none)∨∃j,cap[i]? = some (some j)/\o=(σ[j]?).getD none:=by
 unfold QdU at h;rw[Qz] at h;obtain⟨c,hc,rfl⟩:=JG.mp h;cases c with
 |none=>exact .inl ⟨hc,rfl⟩
 |some j=>exact .inr ⟨j,hc,rfl⟩
theorem QgP{cap:List (Option Nat)}{δ:Sts}{i:Nat}{x:Sl}(h:(Qex cap δ)[i]? = some x):(cap[i]? = some none/\x=.no)∨∃j,cap[i]? = some (some j)/\x=QvS δ[j]? := by
 unfold Qex at h;rw[Qz] at h;obtain⟨c,hc,rfl⟩:=JG.mp h;cases c with
 |none=>exact .inl ⟨hc,rfl⟩
 |some j=>exact .inr ⟨j,hc,rfl⟩
theorem Qbj{cap:List (Option Nat)}{σ:L2.St}{δ:Sts}{i:Nat}{o:Option V}{x:Sl}(h1:(QdU cap σ)[i]? = some o)(h2:(Qex cap δ)[i]? = some x)(hx:x≠.no):∃(j:Nat)(y:Sl),δ[j]? = some y/\x=QvS (some y)/\o=(σ[j]?).getD none:=by
 rcases QgP h2 with⟨_,e⟩ | ⟨j,hj,e⟩
 ·exact absurd e hx
 ·rcases QgN h1 with⟨z,_⟩ | ⟨j',hj',e'⟩
  ·rw[hj] at z;cases z
  ·rw[hj] at hj';cases hj';cases e2:δ[j]? with
   |none=>rw[e2] at e;exact absurd e hx
   |some y=>exact⟨j,y,e2,by rw[e,e2],e'⟩
theorem QcP{cap:List (Option Nat)}{σ:L2.St}{δ:Sts}{a:Addr}(h:Yh (QdU cap σ) (Qex cap δ) a):Yh σ δ a:=by
 obtain⟨i,h1,h2⟩:=h;obtain⟨j,y,hy,e,eo⟩:=Qbj h1 h2 (λz=>by cases z);cases y<;>first | (cases e;done) | skip
 refine⟨j,?_,hy⟩;cases e2:σ[j]? with
 |none=>rw[e2] at eo;cases eo
 |some o'=>rw[e2] at eo;exact congrArg some eo.symm
def inF(A1:Addr->Prop)(cap:List (Option Nat))(σ:L2.St)(δ:Sts)(H:Hp):Fm:=⟨H,A1,Yh (QdU cap σ) (Qex cap δ)⟩
theorem QjS{A1:Addr->Prop}{cap:List (Option Nat)}{σ:L2.St}{δ:Sts}{H:Hp}(h:∀a,Yh σ δ a->A1 a){a:Addr}:Av (inF A1 cap σ δ H) (QdU cap σ) (Qex cap δ) a↔A1 a:=by
 constructor
 ·rintro(z | ⟨i,h1,h2⟩)
  ·exact z
  ·rcases h2 with h2 | ⟨ds,h2⟩
   ·exact h a (QcP ⟨i,h1,h2⟩)
   ·obtain⟨j,y,hy,e,eo⟩:=Qbj h1 h2 (λz=>by cases z);cases y<;>cases e
 ·exact .inl
theorem Qnj{K:PySem.W.Frag}{F:Fm}{σ:L2.St}{δ:Sts}{H1 H3:Hp}{A1:Addr->Prop}{cap:List (Option Nat)}(rel:Rel K F σ H1 δ)(hA:∀a,Av F σ δ a->A1 a)(hN:∀a,A1 a->Av F σ δ a∨H1 a=none)
  (dm:∀a,A1 a->∃xs,H3 a=some (.lst xs))(kp:Kp σ δ H1 H3):Rel K (inF A1 cap σ δ H3) (QdU cap σ) H3 (Qex cap δ) where
 len:=by unfold QdU Qex;rw[Qc,Qc]
 dom:=dm
 dom0:=dm
 pt0:=λp hp=>⟨hA p (Qaf (QcP hp)),kp.2 p (QcP hp)⟩
 kx:=λb o _ e=>e
 sl:=λi o x h1 h2=>by
  have iv:∀{a:Addr},Av (inF A1 cap σ δ H3) (QdU cap σ) (Qex cap δ) a->A1 a:=λ{a}=>(QjS λa z=>hA a (Qaf z)).mp
  have mv:∀{v:V}{d:Qb},DA (Av F σ δ) H1 v d->DA (Av (inF A1 cap σ δ H3) (QdU cap σ) (Qex cap δ)) H3 v d:=λq=>q.mv (λa o n e=>kp.1 a o (λz=>n (Qaf z)) e) λa z=>hN a (iv z)
  have mvs:∀{v:List V}{d:List Qb},DAs (Av F σ δ) H1 v d->DAs (Av (inF A1 cap σ δ H3) (QdU cap σ) (Qex cap δ)) H3 v d:=λq=>q.mv (λa o n e=>kp.1 a o (λz=>n (Qaf z)) e) λa z=>hN a (iv z)
  cases x with
  |no=>trivial
  |own ds=>
   obtain⟨j,y,hy,e,eo⟩:=Qbj h1 h2 (λz=>by cases z);cases y<;>cases e
  |scr=>
   obtain⟨j,y,hy,e,eo⟩:=Qbj h1 h2 (λz=>by cases z);cases y<;>cases e
  |v d=>
   obtain⟨j,y,hy,e,eo⟩:=Qbj h1 h2 (λz=>by cases z);cases y<;>first | (cases e;done) | skip
   cases e;obtain⟨x,hx⟩:=rel.lt hy;obtain⟨v,rfl,q⟩:=rel.sl j _ _ hx hy;rw[hx] at eo;exact⟨v,eo,mv q⟩
  |pk ds=>
   obtain⟨j,y,hy,e,eo⟩:=Qbj h1 h2 (λz=>by cases z);cases y<;>first | (cases e;done) | skip
   ·cases e;obtain⟨x,hx⟩:=rel.lt hy;obtain⟨l,xs,rfl,e,q,f⟩:=rel.sl j _ _ hx hy;rw[hx] at eo;have np:=rel.own_pot hy hx;exact⟨l,xs,eo,kp.1 _ _ np e,mvs q,xs,kp.1 _ _ np e,λz=>np (QcP z)⟩
   ·cases e;obtain⟨x,hx⟩:=rel.lt hy;obtain⟨l,xs,rfl,e,q,ys,f,f2⟩:=rel.sl j _ _ hx hy;rw[hx] at eo;have np:¬Yh σ δ l:=by
     rintro⟨j,j1,j2⟩;obtain⟨p,m,e1,_,w⟩:=rel.sl j _ _ j1 j2;cases e1;rcases w with w | w
     ·exact f2 w
     ·rw[w] at f;cases f
    exact⟨l,xs,eo,kp.1 _ _ np e,mvs q,xs,kp.1 _ _ np e,λz=>np (QcP z)⟩
  |pot=>
   obtain⟨j,y,hy,e,eo⟩:=Qbj h1 h2 (λz=>by cases z);cases y<;>first | (cases e;done) | skip
   obtain⟨x,hx⟩:=rel.lt hy;obtain⟨p,n,rfl,e,q⟩:=rel.sl j _ _ hx hy;rw[hx] at eo;obtain⟨m,em⟩:=kp.2 p ⟨j,hx,hy⟩;have eo':o=some (.ref p):=eo;subst eo';exact⟨p,m,rfl,em,.inl ⟨i,h1,h2⟩⟩
 inj:=λi j a ds h1 h2 _=>by
  obtain⟨j,y,hy,e,eo⟩:=Qbj h2 h1 (λz=>by cases z);cases y<;>cases e
theorem QoA:∀{σ σ':L2.St},σ'.length=σ.length->(∀(i:Nat) v,σ[i]? = some (some v)->σ'[i]? = some (some v))->Wk σ σ'
 |[],[],_,_=>trivial
 |[],_::_,h,_=>by cases h
 |_::_,[],h,_=>by cases h
 |none::a,x::b,h,g=>QoA (σ:=a) (σ':=b) (by simpa using h) λi v e=>by simpa using g (i+1) v (by simpa using e)
 |some u::a,x::b,h,g=>by
  have h0:=g 0 u rfl;simp only[Qi2,Option.some.injEq] at h0;subst h0;exact⟨rfl,QoA (σ:=a) (σ':=b) (by simpa using h) λi v e=>by simpa using g (i+1) v (by simpa using e)⟩
def QcN(cap:List (Option Nat))(ix:List Nat):Bool:=ix.all λi=>match cap[i]? with
 |some none=>true
 |_=>false
theorem QsY{cap:List (Option Nat)}{ix:List Nat}(hf:QcN cap ix=true){σ σ4:L2.St}(hl:σ4.length=(QdU cap σ).length)(hj:∀j,j∉ix->σ4[j]? = (QdU cap σ)[j]?):Wk (QdU cap σ) σ4:=by
 refine QoA hl λi v e=>?_
 by_cases z:i∈ix
 ·have:=JA.mp hf i z;rcases QgN e with⟨_,e2⟩ | ⟨j,hj2,_⟩
  ·cases e2
  ·rw[hj2] at this;cases this
 ·rw[hj i z];exact e
def XF:XP:=λ_=>False
@[irreducible] def QiY(items:List Qb)(wg:DG)(wt:DT)(we:DE)(δ:Sts)(Q:Qb->Prop):Prop:=∃Iv:Nat->List Qb->Prop,Iv 0 [] /\
 (∀(i:Nat) acc d,items[i]? = some d->Iv i acc->wg d δ λδ4=>wt δ4 (λb=>if b=true then we δ4 (λe=>Iv (i+1) (acc++[e])) XF else Iv (i+1) acc) XF)/\∀acc,Iv items.length acc->Q (.list acc)
def dComp(cap:List (Option Nat))(wi:DI)(wg:DG)(wt:DT)(we:DE):DE:=λδ Q EX=>wi δ (λitems=>QiY items wg wt we (Qex cap δ) Q) EX
def QzF:DT:=λ_ Q _=>Q true
theorem Quw{F:Fm}{E:XK}:Out F E XF:=λ_ z=>z.elim
theorem PTs.imp{es:List QV}{t t':TT}(h:PTs X es t)(i:∀σ H Q,t' σ H Q->t σ H Q):PTs X es t':=λpins s σ H Q I q=>h pins s σ H Q I (i σ H Q q)
theorem Qpa:PTs X [] (tT X.K E QzF):=PTs.imp QaV λσ H Q ⟨F,δ,R,EX,rel,hw,k,o⟩=>k _ hw H rel (Kp.refl rel)
theorem Qo9{c:QV}{t:DT}(h:PT X c (tT X.K E t)):PTs X [c] (tT X.K E t):=Qmn h
theorem QiJ{K:PySem.W.Frag}{A1:Addr->Prop}{cap:List (Option Nat)}{σ σ4:L2.St}{δ δ4:Sts}{H3 H4:Hp}(r:Rel K (inF A1 cap σ δ H3) σ4 H4 δ4)(hk:∀b o,¬Yh σ δ b->H4 b=some o->H3 b=none->False){b:Addr}(h:Yh σ4 δ4 b):Yh σ δ b:=by
 obtain⟨i,h1,h2⟩:=h;obtain⟨p,n,e,hp,w⟩:=r.sl i _ _ h1 h2;cases e;rcases w with w | w
 ·exact QcP w
 ·by_cases z:Yh σ δ b
  ·exact z
  ·exact(hk b _ z hp w).elim
theorem Qlx{K:PySem.W.Frag}{F:Fm}{σ:L2.St}{δ:Sts}{H1 H3:Hp}{cap:List (Option Nat)}{ix:List Nat}{wg:DG}{wt:DT}{A1:Addr->Prop}{x:V}{d:Qb}{inner:L2.St->Hp->(Hp->Prop)->Prop}{kk:Hp->Prop}{T:Sts->Prop}{N:Prop}
  (hf:QcN cap ix=true)(rel:Rel K F σ H1 δ)(hA:∀a,Av F σ δ a->A1 a)(hN:∀a,A1 a->Av F σ δ a∨H1 a=none)(dm:∀a,A1 a->∃xs,H3 a=some (.lst xs))(kp:Kp σ δ H1 H3)(dx:DA A1 H3 x d)
  (h:wg d (Qex cap δ) λδ4=>wt δ4 (λb=>if b=true then T δ4 else N) XF)
  (hT:∀σ4 δ4 H5,T δ4->Rel K (inF A1 cap σ δ H3) σ4 H5 δ4->Kp σ δ H3 H5->(∀b,Yh σ4 δ4 b->Yh σ δ b)->inner σ4 H5 kk)(hF:N->∀H5,Kp σ δ H3 H5->kk H5) :
  bOf (QdU cap σ) (tG ix K wg) (tT K E0 wt) inner x H3 kk:=by
 have ri:=Qnj (cap:=cap) rel hA hN dm kp;have iv:∀{a:Addr},Av (inF A1 cap σ δ H3) (QdU cap σ) (Qex cap δ) a->A1 a:=λ{a}=>(QjS λa z=>hA a (Qaf z)).mp
 refine⟨inF A1 cap σ δ H3,Qex cap δ,d,_,ri,dx.mv (λ_ _ _ e=>e) λa z=>.inl (iv z),h,λδ4 h4 σ4 r4 st4 l4 j4=>⟨QsY hf l4 j4,inF A1 cap σ δ H3,δ4,_,XF,r4,h4,λb hb H5 r5 kp5=>?_,Quw⟩⟩;have pots:∀{b:Addr},Yh σ4 δ4 b->Yh σ δ b:=λz=>QiJ r4 (λb o _ e1 e2=>by rw[e2] at e1;cases e1) z
 have K5:Kp σ δ H3 H5:=by
  refine⟨λb o n e=>kp5.1 b o (λz=>n (pots z)) e,λb hb=>?_⟩;by_cases z:Yh σ4 δ4 b
  ·exact kp5.2 b z
  ·obtain⟨n,e⟩:=kp.2 b hb;exact⟨n,kp5.1 _ _ z e⟩
 exact QcC hb (λz=>hT σ4 δ4 H5 z r5 K5 λb=>pots) λz=>hF z H5 K5
structure Lp (σ:L2.St) (δ:Sts) (A1:Addr->Prop) (p:Addr) (H1 H2:Hp) (acc:List Qb):Prop where
 kp:Kp σ δ H1 H2
 at_:∃ys,H2 p=some (.lst ys)/\DAs A1 H2 ys acc
theorem Lp.step{σ:L2.St}{δ:Sts}{A1:Addr->Prop}{p:Addr}{H1 H2 H3:Hp}{acc:List Qb}(hpA:∀a,Yh σ δ a->A1 a)(hpn:¬Yh σ δ p)(h:Lp σ δ A1 p H1 H2 acc)(k:Kp σ δ H2 H3):Lp σ δ A1 p H1 H3 acc:=by
 obtain⟨ys,e,q⟩:=h.at_;exact⟨h.kp.trans k,ys,k.1 _ _ hpn e,q.mv (λa o n e=>k.1 a o (λz=>n (hpA a z)) e) λa z=>.inl z⟩
theorem QsN{K:PySem.W.Frag}{σ σ4:L2.St}{δ δ4:Sts}{H1 H3 H5:Hp}{cap:List (Option Nat)}{we:DE}{A1:Addr->Prop}{p:Addr}{acc:List Qb}{kk:Hp->Prop}{G:Qb->Prop}
  (hpA:A1 p)(hP:∀a,Yh σ δ a->A1 a)(hp1:H1 p=none)(hpn:¬Yh σ δ p)(lp:Lp σ δ A1 p H1 H5 acc)(hl:acc.length<sizeLine)(r5:Rel K (inF A1 cap σ δ H3) σ4 H5 δ4)(pots:∀b,Yh σ4 δ4 b->Yh σ δ b)
  (h:we δ4 G XF)(hk:∀e,G e->∀H',Lp σ δ A1 p H1 H' (acc++[e])->kk H'):Qwl p (tX .D K E0 we) σ4 H5 kk:=by
 refine⟨inF A1 cap σ δ H3,δ4,G,XF,r5,h,λe he v H6 r6 kp6 dv=>?_,Quw⟩;have k56:Kp σ δ H5 H6:=by
  refine⟨λb o n e=>kp6.1 b o (λz=>n (pots b z)) e,λb hb=>?_⟩;by_cases z:Yh σ4 δ4 b
  ·exact kp6.2 b z
  ·obtain⟨n,e⟩:=lp.kp.2 b hb;exact⟨n,kp6.1 _ _ z e⟩
 obtain⟨k6,ys,e6,q6⟩:=lp.step hP hpn k56;have up:∀{b:Addr}{o:HO},¬A1 b->H6 b=some o->upd H6 p (.lst (ys++[v])) b=some o:=λ{b o} n e=>by rw[QK (λz=>n (by rw[z];exact hpA))];exact e
 refine⟨ys,e6,by rw[q6.length];exact hl,hk e he _ ⟨⟨λb o n e=>?_,λb hb=>?_⟩,ys++[v],upd_same,DAs.app (q6.mv (λ_ _=>up) λa z=>.inl z) (.cons (DA.mv dv (λa o n e=>up (λz=>n (.inl z)) e) λa z=>.inl (.inl z)) .nil)⟩⟩
 ·rw[QK (λz=>by rw[z,hp1] at e;cases e)];exact k6.1 b o n e
 ·rw[QK (λz=>hpn (by rw[<- z];exact hb))];exact k6.2 b hb
theorem Qur{M:List Str}{cap:List (Option Nat)}{elt tg iter:QV}{ifs:List QV}{scope:Qai}{pos:Pos}{ix:List Nat}{wi:DI}{wg:DG}{wt:DT}{we:DE}(hc:X.calm=true)(ok:QgO X.N X.env.scope M scope cap=true)(hf:QcN cap ix=true)
  (hi:PI X tg iter (tI .P X.K E wi))(hb:∀cl ex s3 H3 C,PG (blk X M scope cl ex s3 H3 C) tg (tG ix X.K wg)/\PTs (blk X M scope cl ex s3 H3 C) ifs (tT X.K E0 wt)/\PE (blk X M scope cl ex s3 H3 C) elt (tX .D X.K E0 we))
  (hs:∀x,foldedSetIterable iter X.env x=pure x:=by intro _;rfl):PE X (.ListComp elt [⟨tg,iter,ifs,0⟩] scope pos) (tX .F X.K E (dComp cap wi wg wt we)):=by
 refine PE.imp (Y3 hc ok hi hb hs) λσ H Q ⟨F,δ,R,EX,rel,hw,k,o⟩=>?_
 refine⟨F,δ,_,EX,rel,hw,λitems hC J H1 rel1 kp1 ⟨ln,it⟩ p hp=>?_,o⟩;unfold QiY at hC;obtain⟨Iv,i0,step,fin⟩:=hC;have hpn:¬Yh σ δ p:=λz=>by obtain⟨xs,e⟩:=rel1.isl (Qaf (F:=F) z);rw[hp] at e;cases e
 let A1:Addr->Prop:=λa=>Av F σ δ a∨a=p
 have hP:∀a,Yh σ δ a->A1 a:=λa z=>.inl (Qaf z)
 have hN:∀a,A1 a->Av F σ δ a∨H1 a=none:=λa z=>z.elim .inl λz=>.inr (by rw[z];exact hp)
 have dmK:∀{H2:Hp},Kp σ δ H1 H2->(∃ys,H2 p=some (.lst ys))->∀a,A1 a->∃xs,H2 a=some (.lst xs):=λ{H2} k2 e2 a z=>by
  rcases z with z | z
  ·exact(rel1.kp k2).isl z
  ·rw[z];exact e2
 refine QeY items.length (λi H2=>i<=items.length/\∃acc,Iv i acc/\acc.length<=i/\Lp σ δ A1 p H1 H2 acc) ⟨Jn _,[],i0,Qf _,Kp.same rel1 (JK hp),[],upd_same,.nil⟩ (λi H2 hi ⟨_,acc,iv,hl,lp⟩=>?_) λH2 ⟨_,acc,iv,hl,lp⟩=>?_
 ·obtain⟨k2,ys,e2,q2⟩:=lp;obtain⟨go,_⟩:=it H2 A1 (λb o n e=>k2.1 b o n e) hN (dmK k2 ⟨ys,e2⟩);have hd:items[i]? = some items[i]:=Qd hi;obtain⟨g1,g2⟩:=go i _ hd;refine⟨g1,λx H3 y kk hk=>?_⟩;obtain⟨s3,dx⟩:=g2 x H3 y;have k23:=Kp.same (rel1.kp k2) s3;have lp3:Lp σ δ A1 p H1 H3 acc:=Lp.step hP hpn ⟨k2,ys,e2,q2⟩ k23;refine Qlx hf rel1 (λa z=>.inl z) hN (dmK lp3.kp ⟨ys,s3 _ _ e2⟩) lp3.kp dx (step i acc _ hd iv) (λσ4 δ4 H5 h5 r5 k5 pots=>?_) λh5 H5 k5=>hk _ ⟨hi,acc,h5,by omega,lp3.step hP hpn k5⟩
  exact QsN (.inr rfl) hP hp hpn (lp3.step hP hpn k5) (by omega) r5 pots h5 λe he H' lp'=>hk _ ⟨hi,acc++[e],he,by rw[Qj];show _+1<=_;omega,lp'⟩
 ·obtain⟨k2,ys,e2,q2⟩:=lp;obtain⟨_,st⟩:=it H2 A1 (λb o n e=>k2.1 b o n e) hN (dmK k2 ⟨ys,e2⟩);refine⟨st,k _ (fin acc iv) (.ref p) H2 (rel1.kp k2) (kp1.trans k2) ⟨.lst (λz=>?_) e2 (q2.mv (λ_ _ _ e=>e) λa z=>.inl (.inl z)),λl e1 _=>?_⟩⟩
  ·obtain⟨xs,e⟩:=rel1.isl z;rw[hp] at e;cases e
  ·cases e1;exact QcL kp1 hp
theorem QhT{items:List Qb}{wg:DG}{wt:DT}{we:DE}{δ:Sts}{Q:Qb->Prop}(G:Qb->Option Qb)
  (h:∀d∈items,∀(k1:Prop)(k2:Qb->Prop),(G d=none->k1)->(∀e,G d=some e->k2 e)->wg d δ λδ4=>wt δ4 (λb=>if b=true then we δ4 k2 XF else k1) XF)(q:Q (.list (items.filterMap G))) :
  QiY items wg wt we δ Q:=by
 unfold QiY;refine⟨λi acc=>acc=(items.take i).filterMap G,by simp,λi acc d hd e=>?_,λacc e=>by rw[e,YW];exact q⟩;have hs:(items.take (i+1)).filterMap G=(items.take i).filterMap G++(G d).toList:=by
  rw[QaF,hd,QcW];cases e2:G d<;>simp[e2]
 have e:acc=(items.take i).filterMap G:=e;refine h d (J4 hd) _ _ (λe2=>?_) λe' e2=>?_
 ·show acc=(items.take (i+1)).filterMap G;rw[hs,e2,e];simp
 ·show acc++[e']=(items.take (i+1)).filterMap G;rw[hs,e2,e];rfl
theorem Qfb{items:List Qb}{wg:DG}{we:DE}{δ:Sts}{Q:Qb->Prop}(G:Qb->Qb)
  (h:∀d∈items,∀(k2:Qb->Prop),k2 (G d)->wg d δ λδ4=>we δ4 k2 XF)(q:Q (.list (items.map G))) :
  QiY items wg QzF we δ Q:=by
 unfold QiY;refine⟨λi acc=>acc=(items.take i).map G,by simp,λi acc d hd e=>?_,λacc e=>by rw[e,YW];exact q⟩;have hs:(items.take (i+1)).map G=(items.take i).map G++[G d]:=by
  rw[QaF,hd,Je];simp
 have e:acc=(items.take i).map G:=e;have hh:=h d (J4 hd) (λe=>acc++[e]=(items.take (i+1)).map G) (by show acc++[G d]=_;rw[hs,e]);simp only[QzF,if_true];exact hh
theorem Qnt:∀{a b:List (Int×Int)},dkV a=dkV b->a=b
 |[],[],_=>rfl
 |[],_::_,h=>by cases h
 |_::_,[],h=>by cases h
 |p::a,q::b,h=>by
  have h:=Qf8 (show(Qc1 p.1,V.int p.2)::dkV a=(Qc1 q.1,V.int q.2)::dkV b from h);have h1:=Zr h.1;rw[Qnt h.2,Qc4 (Qwr h1.1) (V.int.inj h1.2)]
mutual
theorem QnC{A B:Addr->Prop}{H:Hp}:∀(d d':Qb)(x:V),DA A H x d->DA B H x d'->d=d'
 |.none,d',_,.non,h=>by cases h;rfl
 |.bool _,d',_,.bl _,h=>by cases h;rfl
 |.int _,d',_,.int _,h=>by cases h;rfl
 |.str _,d',_,.str _ _,h=>by cases h;rfl
 |.tuple ds,d',_,.tup (xs:=xs) n e q,h=>by
  cases h with
  |@tup a ys es n' e' q'=>
   rw[e] at e';cases e';rw[QgI ds es xs q q']
  |@lst a ys es n' e' q'=>rw[e] at e';cases e'
  |@dct a kvs' ds' n' e' q'=>rw[e] at e';cases e'
 |.list ds,d',_,.lst (xs:=xs) n e q,h=>by
  cases h with
  |@tup a ys es n' e' q'=>rw[e] at e';cases e'
  |@lst a ys es n' e' q'=>
   rw[e] at e';cases e';rw[QgI ds es xs q q']
  |@dct a kvs' ds' n' e' q'=>rw[e] at e';cases e'
 |.dict _,d',_,.dct (kvs:=kvs) n e q,h=>by
  cases h with
  |@tup a ys es n' e' q'=>rw[e] at e';cases e'
  |@lst a ys es n' e' q'=>rw[e] at e';cases e'
  |@dct a kvs' ds' n' e' q'=>
   rw[e] at e';rw[q,q',Qnt (HO.dK.inj (QH e'))]
theorem QgI{A B:Addr->Prop}{H:Hp}:∀(ds es:List Qb)(xs:List V),DAs A H xs ds->DAs B H xs es->ds=es
 |[],es,_,.nil,h=>by cases h;rfl
 |d::ds,es,_,.cons q qs,h=>by
  cases h with
  |@cons x xs e es q' qs'=>rw[QnC d e _ q q',QgI ds es _ qs qs']
end
mutual
theorem QyL{A:Addr->Prop}{H:Hp}{l:Addr}{rs:List Qb}(root:DA A H (.ref l) (.list rs)):∀(d:Qb)(x:V),sizeOf d<sizeOf (YS rs)->DA A H x d->DA (λa=>A a∨a=l) H x d
 |.none,_,_,.non=>.non
 |.bool _,_,_,.bl _=>.bl _
 |.int _,_,_,.int _=>.int _
 |.str _,_,_,.str _ c=>.str _ c
 |.tuple ds,_,hs,.tup (a:=a) (xs:=xs) n e q=>.tup (λz=>z.elim n λz=>by subst z;cases root with | @lst _ ys _ n' e' q'=>(rw[e] at e';cases e')) e (QgJ root ds xs (by simp at hs ⊢;omega) q)
 |.list ds,_,hs,.lst (a:=a) (xs:=xs) n e q=>.lst (λz=>z.elim n λz=>by
   subst z;have:=QnC _ _ _ root (.lst n e q);rw[this] at hs;omega) e (QgJ root ds xs (by simp at hs ⊢;omega) q)
 |.dict _,_,hs,.dct (a:=a) n e q=>.dct (λz=>z.elim n λz=>by subst z;cases root with | @lst _ ys _ n' e' q'=>(rw[e] at e';cases e')) e q
theorem QgJ{A:Addr->Prop}{H:Hp}{l:Addr}{rs:List Qb}(root:DA A H (.ref l) (.list rs)):∀(ds:List Qb)(xs:List V),sizeOf ds<sizeOf (YS rs)->DAs A H xs ds->DAs (λa=>A a∨a=l) H xs ds
 |[],_,_,.nil=>.nil
 |d::ds,_,hs,.cons q qs=>.cons (QyL root d _ (by simp at hs ⊢;omega) q) (QgJ root ds _ (by simp at hs ⊢;omega) qs)
end
theorem DA.items{A:Addr->Prop}{H:Hp}{l:Addr}{ds:List Qb}(root:DA A H (.ref l) (.list ds)):∃xs,H l=some (.lst xs)/\DAs (λa=>A a∨a=l) H xs ds:=by
 have root':=root;cases root with
 |@lst _ xs _ n e q=>exact⟨xs,e,QgJ root' ds xs (by simp) q⟩
structure Qfl where
 nx:Sts->Prop
 rt:Qb->Prop
 rtF:Qb->Prop
 bk:Sts->Prop
 ct:Sts->Prop
 ex:XP
abbrev DS:=Qfl->Sts->Prop
structure Nx (K:PySem.W.Frag) (F:Fm) (σ:L2.St) (H:Hp) (δ:Sts) (R:Sts->Prop) (T:L2.St->Hp->Prop):Prop where
 go:∀δ',R δ'->∀σ' H',Rel K F σ' H' δ'->Stp F σ H δ σ' H' δ'->T σ' H'
structure Ends1 (K:PySem.W.Frag) (E:XK) (F:Fm) (σ:L2.St) (H:Hp) (δ:Sts) (DD:Qfl) (D:Ends):Prop where
 nx:Nx K F σ H δ DD.nx D.nx
 rt:∀d,DD.rt d->∀v H',Ke F H'->DA F.A0 H' v d->D.rt v H'
 rtF:∀d,DD.rtF d->∀v H',Ke F H'->DA F.A0 H' v d->FrV F.H0 H' v->D.rt v H'
 bk:Nx K F σ H δ DD.bk D.bk
 ct:Nx K F σ H δ DD.ct D.ct
 ex:Out F E DD.ex
def tS(K:PySem.W.Frag)(E:XK)(w:DS):TS:=λD σ H=>∃(F:Fm)(δ:Sts)(DD:Qfl),Rel K F σ H δ/\w DD δ/\Ends1 K E F σ H δ DD D
theorem Nx.step{K:PySem.W.Frag}{F:Fm}{σ σ1:L2.St}{H H1:Hp}{δ δ1:Sts}{R:Sts->Prop}{T:L2.St->Hp->Prop}(h:Nx K F σ H δ R T)(s:Stp F σ H δ σ1 H1 δ1):Nx K F σ1 H1 δ1 R T:=⟨λδ' hR σ' H' r st=>h.go δ' hR σ' H' r (s.trans st)⟩
theorem Ends1.step{K:PySem.W.Frag}{E:XK}{F:Fm}{σ σ1:L2.St}{H H1:Hp}{δ δ1:Sts}{DD:Qfl}{D:Ends}(h:Ends1 K E F σ H δ DD D)(s:Stp F σ H δ σ1 H1 δ1):Ends1 K E F σ1 H1 δ1 DD D:=⟨h.nx.step s,h.rt,h.rtF,h.bk.step s,h.ct.step s,h.ex⟩
theorem PS.imp{e:J7}{t t':TS}(h:PS X e t)(i:∀D σ H,t' D σ H->t D σ H):PS X e t':=λpins s σ H D I q=>h pins s σ H D I (i D σ H q)
theorem PSs.imp{e:List J7}{t t':TS}(h:PSs X e t)(i:∀D σ H,t' D σ H->t D σ H):PSs X e t':=λpins s σ H D I q=>h pins s σ H D I (i D σ H q)
def Qro(a b:DS):DS:=λD δ=>a { D with nx:=b D } δ
def QhR:DS:=λD δ=>D.nx δ
theorem Qpb:PSs X [] (tS X.K E QhR):=PSs.imp Zs λD σ H ⟨F,δ,DD,rel,hw,en⟩=>en.nx.go δ hw σ H rel Stp.refl
theorem Quf{st:J7}{w:DS}(h:PS X st (tS X.K E w)):PSs X [st] (tS X.K E w):=QQ h
theorem Qpg{st:J7}{rest:List J7}{w w':DS}(h:PS X st (tS X.K E w))(h':PSs X rest (tS X.K E w')):PSs X (st::rest) (tS X.K E (Qro w w')):=by
 refine PSs.imp (Qr h h') λD σ H ⟨F,δ,DD,rel,hw,en⟩=>?_
 exact⟨F,δ,_,rel,hw,⟨λδ' h' σ' H' r st=>⟨F,δ',DD,r,h',en.step st⟩⟩,en.rt,en.rtF,en.bk,en.ct,en.ex⟩
def QzE(i:Nat)(we:DE):DS:=λD δ=>we δ (λd=>D.nx (δ.set i (.v d))) D.ex
def Qrn(i:Nat)(we:DE):DS:=λD δ=>we δ (λd=>match d with
 |.list ds=>D.nx (δ.set i (.own ds))
 |_=>False) D.ex
def QCR(i:Nat)(we:DE):DS:=λD δ=>we δ (λd=>match d with
 |.list [.int _]=>D.nx (δ.set i .pot)
 |_=>False) D.ex
variable{i:Nat}{e:QV}{st:J7}{we wi:DE}
theorem Qiw(h:PS X st (QoG (tX .D X.K E we) (Qbc i))):PS X st (tS X.K E (QzE i we)):=by
 refine PS.imp h λD σ H ⟨F,δ,DD,rel,hw,en⟩=>?_
 refine⟨F,δ,_,DD.ex,rel,hw,λd hd v H' rel' kp vk=>?_,en.ex⟩;exact en.nx.go _ hd _ H' (rel'.setv vk) ((Stp.kp kp).trans Stp.setv)
theorem Qs2{F:Fm}{σ:L2.St}{δ:Sts}{i:Nat}{l:Addr}{x:Sl}{a:Addr}(h:Av F (σ.set i (some (.ref l))) (δ.set i x) a):Av F σ δ a∨a=l:=by
 rcases h with h | ⟨j,h1,h2⟩
 ·exact .inl (.inl h)
 ·by_cases z:j=i
  ·subst z;cases set_eq h1;exact .inr rfl
  ·rw[QaG z] at h1 h2;exact .inl (.inr ⟨j,h1,h2⟩)
theorem Rel.seto{K:PySem.W.Frag}{F:Fm}{σ:L2.St}{H H':Hp}{δ:Sts}{l:Addr}{x:Sl}(r:Rel K F σ H δ)(r':Rel K F σ H' δ)(kp:Kp σ δ H H')(n:H l=none)(hx:∀A:Addr->Prop,(∀a,A a->Av F σ δ a∨H a=none)->(∀a,A a->Av F σ δ a∨a=l)->QCh K F H' A (some (.ref l)) x) :
  Rel K F (σ.set i (some (.ref l))) H' (δ.set i x)/\Stp F σ H δ (σ.set i (some (.ref l))) H' (δ.set i x):=by
 have nA:∀a,Av F (σ.set i (some (.ref l))) (δ.set i x) a->Av F σ δ a∨H a=none:=λa z=>(Qs2 z).elim .inl λz=>.inr (by rw[z];exact n)
 have kk:∀a o,¬Av F σ δ a->H a=some o->H' a=some o:=λa o m e=>kp.1 a o (λz=>m (Qaf z)) e
 refine⟨?_,⟨kk,nA⟩⟩;exact{
  len:=by rw[ZH,ZH];exact r.len
  dom:=r'.dom
  dom0:=r'.dom0
  pt0:=r'.pt0
  kx:=r'.kx
  sl:=λj o y h1 h2=>by
   by_cases z:j=i
   ·subst z;cases set_eq h1;cases set_eq h2;exact hx _ nA λa z=>Qs2 z
   ·rw[QaG z] at h1 h2;have h:=r.sl j o y h1 h2;have h':=r'.sl j o y h1 h2;cases y with
    |no=>trivial
    |v d=>obtain⟨v',e,q'⟩:=h;exact⟨v',e,q'.mv kk nA⟩
    |own ds=>obtain⟨l',xs,rfl,e2,q',f⟩:=h;exact⟨l',xs,rfl,kp.1 _ _ (r.own_pot h2 h1) e2,q'.mv kk nA,f⟩
    |pk ds=>
     obtain⟨l',xs,rfl,e2,q',ys,f,f2⟩:=h;refine⟨l',xs,rfl,kp.1 _ _ ?_ e2,q'.mv kk nA,ys,f,f2⟩;rintro⟨j,j1,j2⟩;obtain⟨p,m,e1,_,w⟩:=r.sl j _ _ j1 j2;cases e1;rcases w with w | w
     ·exact f2 w
     ·rw[w] at f;cases f
    |pot=>exact h'
    |scr=>exact h'
  inj:=λj k a ds h1 h2 ⟨h3,h4⟩=>by
   have ne:∀(k:Nat),k≠i->σ[k]? = some (some (.ref l))->(δ[k]? = some .pot∨∃ds,δ[k]? = some (.own ds))->False:=λk _ h3 h4=>by
    obtain⟨xs,e⟩:=r.isl (a:=l) (.inr ⟨k,h3,h4⟩);rw[n] at e;cases e
   by_cases z:j=i
   ·subst z;cases set_eq h2;by_cases z2:k=j
    ·exact z2.symm
    ·rw[QaG z2] at h3 h4;exact(ne k z2 h3 h4).elim
   ·rw[QaG z] at h1 h2;by_cases z2:k=i
    ·subst z2;cases set_eq h3;exact(ne j z h2 (.inr ⟨ds,h1⟩)).elim
    ·rw[QaG z2] at h3 h4;exact r.inj j k a ds h1 h2 ⟨h3,h4⟩ }
theorem QsK{K:PySem.W.Frag}{F:Fm}{σ:L2.St}{H:Hp}{δ:Sts}(r:Rel K F σ H δ){l:Addr}(n:H l=none):F.H0 l=none:=by
 cases e:F.H0 l with
 |none=>rfl
 |some o=>
  by_cases z:F.pt l
  ·obtain⟨_,m,e'⟩:=r.pt0 l z;rw[n] at e';cases e'
  ·rw[r.kx l o z e] at n;cases n
theorem Qpc(h:PS X st (QoG (tX .F X.K E we) (Qbc i))):PS X st (tS X.K E (Qrn i we)):=by
 refine PS.imp h λD σ H ⟨F,δ,DD,rel,hw,en⟩=>?_
 refine⟨F,δ,_,DD.ex,rel,hw,λd hd v H' rel' kp ⟨vk,fr⟩=>?_,en.ex⟩;obtain⟨ds,rfl⟩:∃ds,d=.list ds:=by cases d<;>first | exact⟨_,rfl⟩ | exact(show False from hd).elim
 obtain⟨l,rfl⟩:∃l,v=.ref l:=by cases vk;exact⟨_,rfl⟩
 obtain⟨xs,e,q⟩:=DA.items vk;have n:=fr l rfl ⟨xs,e⟩;obtain⟨r2,st⟩:=rel.seto (i:=i) (x:=.own ds) rel' kp n λA hA hB=>⟨l,xs,rfl,e,q.mv (λ_ _ _ e=>e) λa z=>.inl (hB a z),QsK rel n⟩
 exact en.nx.go _ hd _ H' r2 st
def QCc(we:DE)(wg:DG):DS:=λD δ=>we δ (λd=>wg d δ D.nx) D.ex
theorem Qul{ix:List Nat}{wg:DG}(h:PS X st (QoG (tX .D X.K E we) (tG ix X.K wg))):PS X st (tS X.K E (QCc we wg)):=by
 refine PS.imp h λD σ H ⟨F,δ,DD,rel,hw,en⟩=>?_
 refine⟨F,δ,_,DD.ex,rel,hw,λd hd v H' rel' kp vk=>?_,en.ex⟩;exact⟨F,δ,d,_,rel',vk,hd,λδ' h' σ' r' st' _ _=>en.nx.go _ h' _ H' r' ((Stp.kp kp).trans st')⟩
def QB5(i j:Nat)(wa:DAr):DS:=λD δ=>wa δ (λds=>match ds with
 |[a,b]=>D.nx ((δ.set i (.v a)).set j (.v b))
 |_=>False) D.ex
theorem Que{n i j:Nat}{wa:DAr}(h:PS X st (QBE i j (tAr n .D X.K E wa))):PS X st (tS X.K E (QB5 i j wa)):=by
 refine PS.imp h λD σ H ⟨F,δ,DD,rel,hw,en⟩=>?_
 refine⟨F,δ,_,DD.ex,rel,hw,λds hds _ vs H' rel' kp q=>?_,en.ex⟩;split at hds
 ·cases q with
  |cons q1 q2=>cases q2 with
   |cons q2 q3=>
    cases q3;refine⟨_,_,rfl,en.nx.go _ hds _ H' ((rel'.setv q1).setv (DA.mv q2 (λ_ _ _ e=>e) λa z=>.inl (Qec z))) (((Stp.kp kp).trans Stp.setv).trans Stp.setv)⟩
 ·exact hds.elim
def QB4(we:DE):DS:=λD δ=>we δ D.rt D.ex
def QvJ(we:DE):DS:=λD δ=>we δ D.rtF D.ex
theorem Qrm{F:Fm}{σ:L2.St}{δ:Sts}{H:Hp}{v:V}{d:Qb}(h:DA (Av F σ δ) H v d):DA F.A0 H v d:=h.mv (λ_ _ _ e=>e) λa z=>.inl (.inl z)
theorem Qub{e:QV}{pos:Pos}(h:PE X e (tX .D X.K E we)):PS X (.Return (some e) pos) (tS X.K E (QB4 we)):=by
 refine PS.imp (JI h) λD σ H ⟨F,δ,DD,rel,hw,en⟩=>?_
 exact⟨F,δ,_,DD.ex,rel,hw,λd hd v H' rel' kp vk=>en.rt d hd v H' rel'.ke (Qrm vk),en.ex⟩
theorem Qpe{e:QV}{pos:Pos}(h:PE X e (tX .F X.K E we)):PS X (.Return (some e) pos) (tS X.K E (QvJ we)):=by
 refine PS.imp (JI h) λD σ H ⟨F,δ,DD,rel,hw,en⟩=>?_
 exact⟨F,δ,_,DD.ex,rel,hw,λd hd v H' rel' kp vk=>en.rtF d hd v H' rel'.ke (Qrm vk.1) λl e1 e2=>QsK rel (vk.2 l e1 e2),en.ex⟩
def QvI(i:Nat):DS:=λD δ=>match δ[i]? with
 |some (.own ds)=>D.rtF (.list ds)
 |some (.v d)=>D.rt d
 |_=>False
theorem Qpd{e:QV}{pos:Pos}(h:PE X e (Qbq i)):PS X (.Return (some e) pos) (tS X.K E (QvI i)):=by
 refine PS.imp (JI h) λD σ H ⟨F,δ,DD,rel,hw,en⟩=>?_
 unfold QvI at hw;split at hw
 ·rename_i ds hd
  obtain⟨x,hx⟩:=rel.lt hd;obtain⟨l,xs,rfl,e,q,f⟩:=rel.sl i _ _ hx hd;refine⟨_,hx,en.rtF _ hw _ H rel.ke (.lst (λz=>?_) e (q.mv (λ_ _ _ e=>e) λa z=>.inl (.inl z))) λl' e1 _=>by cases e1;exact f⟩;obtain⟨ys,e'⟩:=rel.dom0 l z;rw[f] at e';cases e'
 ·rename_i d hd
  obtain⟨x,hx⟩:=rel.lt hd;obtain⟨v,rfl,q⟩:=rel.sl i _ _ hx hd;exact⟨v,hx,en.rt _ hw _ H rel.ke (Qrm q)⟩
 ·exact hw.elim
def dIf(t:DT)(a b:DS):DS:=λD δ=>t δ (λc=>if c=true then a D δ else b D δ) D.ex
theorem QxF{c:QV}{a b:List J7}{pos:Pos}{t:DT}{w w':DS}(hc:PT X c (tT X.K E t))(ha:PSs X a (tS X.K E w))(hb:PSs X b (tS X.K E w')):PS X (.If c a b pos) (tS X.K E (dIf t w w')):=by
 refine PS.imp (Qat hc ha hb) λD σ H ⟨F,δ,DD,rel,hw,en⟩=>?_
 exact⟨F,δ,_,DD.ex,rel,hw,λb hb H' rel' kp=>QcC hb (λz=>⟨F,δ,DD,rel',z,en.step (Stp.kp kp)⟩) λz=>⟨F,δ,DD,rel',z,en.step (Stp.kp kp)⟩,en.ex⟩
theorem QmA{sts:List J7}:PSs X sts (tS X.K E λ_ _=>False):=λpins s σ H D I ⟨F,δ,DD,rel,hw,en⟩=>hw.elim
def QBk(i:Nat)(rD:Qb->Qb->(Qb->Prop)->Prop)(we:DE):DS:=λD δ=>match δ[i]? with
 |some (.v d)=>we δ (λe=>rD d e (λz=>D.nx (δ.set i (.v z)))) D.ex
 |_=>False
theorem Quk{r:TIp}{rD:Qb->Qb->(Qb->Prop)->Prop}(hd:QrA r rD)(h:PS X st (QBG i (tX .P X.K E we) (λx y H Q=>QcR H->r x y H Q))):PS X st (tS X.K E (QBk i rD we)):=by
 refine PS.imp h λD σ H ⟨F,δ,DD,rel,hw,en⟩=>?_
 unfold QBk at hw;split at hw
 ·rename_i d hd'
  obtain⟨x,hx⟩:=rel.lt hd';obtain⟨v,rfl,q⟩:=rel.sl i _ _ hx hd';refine⟨v,hx,F,δ,_,DD.ex,rel,hw,λe he y H' rel' kp yk ln=>?_,en.ex⟩;refine hd (Av F σ δ) (Yh σ δ) H' v y d e _ _ ln (λa ha=>rel'.isl ha) (.inl (kp.da q)) yk he λz hz u H2 s du=>?_
  exact en.nx.go _ hz _ H2 ((rel'.same s).setv du) (((Stp.kp kp).trans (Stp.kp (Kp.same rel' s))).trans Stp.setv)
 ·exact hw.elim
theorem QiC{g:Int->Int->Int}:QrA (ipI g) (ii0 λi j=>.int (g i j)):=λA P H x y d1 d2 R Q ln dm hx hy h k=>by
 cases d1<;>cases d2<;>first | exact h.elim | skip
 rw[hx.int,hy.int];exact⟨_,_,rfl,rfl,k _ h _ H (Same.refl H) (.int _)⟩
theorem PIp.len{op:Qc5}{t:TIp}(h:PIp X op t):PIp X op (λx y H Q=>QcR H->t x y H Q):=λpins s σ H x y v u Q I rx ry q=>h pins s σ H x y v u Q I rx ry (q (Inv.lens I))
theorem Rel.mut{K:PySem.W.Frag}{F:Fm}{σ:L2.St}{H:Hp}{δ:Sts}(r:Rel K F σ H δ){l:Addr}{ds ds':List Qb}{ys:List V}(h:δ[i]? = some (.own ds))(hx:σ[i]? = some (some (.ref l)))(q:DAs (Av F σ δ) H ys ds') :
  Rel K F σ (upd H l (.lst ys)) (δ.set i (.own ds'))/\Stp F σ H δ σ (upd H l (.lst ys)) (δ.set i (.own ds')):=by
 have hl:Av F σ δ l:=.inr ⟨i,hx,.inr ⟨ds,h⟩⟩;obtain⟨l',xs0,e0,el,_,f⟩:=r.sl i _ _ hx h;cases e0;have lt:i < δ.length:=(Q6.mp h).1;have ge:(δ.set i (.own ds'))[i]? = some (.own ds'):=by rw[QaB lt]
 have kk:∀a o,¬Av F σ δ a->H a=some o->upd H l (.lst ys) a=some o:=λa o n e=>by rw[QK (λz=>n (by rw[z];exact hl))];exact e
 have av:∀a,Av F σ (δ.set i (.own ds')) a->Av F σ δ a:=λa z=>by
  rcases z with z | ⟨j,h1,h2⟩
  ·exact .inl z
  ·by_cases z:j=i
   ·subst z;exact .inr ⟨j,h1,.inr ⟨ds,h⟩⟩
   ·rw[QaG z] at h2;exact .inr ⟨j,h1,h2⟩
 have up:∀{b:Addr}{o:HO},b≠l->H b=some o->upd H l (.lst ys) b=some o:=λn e=>by rw[QK n];exact e
 refine⟨?_,⟨kk,λa z=>.inl (av a z)⟩⟩;exact{
  len:=by rw[ZH];exact r.len
  dom:=λa ha=>by
   by_cases z:a=l
   ·rw[z];exact⟨_,upd_same⟩
   ·obtain⟨xs,e⟩:=r.dom a ha;exact⟨xs,up z e⟩
  dom0:=r.dom0
  pt0:=λp hp=>by
   obtain⟨h1,n,e⟩:=r.pt0 p hp;refine⟨h1,n,up (λz=>?_) e⟩;obtain⟨xs,e'⟩:=r.dom0 p h1;rw[z,f] at e';cases e'
  kx:=λb o n e=>up (λz=>by rw[z,f] at e;cases e) (r.kx b o n e)
  sl:=λj o y h1 h2=>by
   by_cases z:j=i
   ·subst z;rw[ge] at h2;cases h2;rw[hx] at h1;cases h1;exact⟨l,ys,rfl,upd_same,q.mv kk λa z=>.inl (av a z),f⟩
   ·rw[QaG z] at h2;have hh:=r.sl j o y h1 h2;cases y with
    |no=>trivial
    |v d=>obtain⟨v',e,q'⟩:=hh;exact⟨v',e,q'.mv kk λa z=>.inl (av a z)⟩
    |own es=>
     obtain⟨l',xs,rfl,e2,q',f'⟩:=hh;exact⟨l',xs,rfl,up (λz2=>z (r.inj j i l' es h2 h1 ⟨by rw[z2];exact hx,.inr ⟨ds,h⟩⟩)) e2,q'.mv kk λa z=>.inl (av a z),f'⟩
    |pk es=>
     obtain⟨l',xs,rfl,e2,q',ys',f',f2⟩:=hh;exact⟨l',xs,rfl,up (λz2=>by rw[z2,f] at f';cases f') e2,q'.mv kk λa z=>.inl (av a z),ys',f',f2⟩
    |pot=>
     obtain⟨p,n,rfl,e2,w⟩:=hh;refine⟨p,n,rfl,up (λz2=>?_) e2,w⟩;subst z2;exact r.own_pot h hx ⟨j,h1,h2⟩
    |scr=>exact hh
  inj:=λj k a es h1 h2 ⟨h3,h4⟩=>by
   have h4':δ[k]? = some .pot∨∃ds,δ[k]? = some (.own ds):=by
    by_cases z:k=i
    ·subst z;exact .inr ⟨ds,h⟩
    ·rw[QaG z] at h4;exact h4
   by_cases z:j=i
   ·subst z;exact r.inj j k a ds h h2 ⟨h3,h4'⟩
   ·rw[QaG z] at h1;exact r.inj j k a es h1 h2 ⟨h3,h4'⟩ }
def QBl(i:Nat)(we:DE):DS:=λD δ=>match δ[i]? with
 |some (.own ds)=>we δ (λd=>ds.length<1000000/\D.nx (δ.set i (.own (ds++[d])))) D.ex
 |_=>False
theorem Qum(h:PS X st (QlH (tBM X.K "list" Qmd (Qbq i) (Qae (tX .D X.K E we) Qej)))):PS X st (tS X.K E (QBl i we)):=by
 refine PS.imp h λD σ H ⟨F,δ,DD,rel,hw,en⟩=>?_
 unfold QBl at hw;split at hw
 ·rename_i ds hd
  obtain⟨x,hx⟩:=rel.lt hd;obtain⟨l,xs,rfl,e,q,f⟩:=rel.sl i _ _ hx hd;have np:=rel.own_pot hd hx;refine⟨.ref l,hx,.inl ⟨rfl,_,SqL.of e⟩,F,δ,_,DD.ex,rel,hw,λd ⟨hl,hn⟩ v H' rel' kp vk=>?_,en.ex⟩;have q':=kp.das q;refine⟨l,xs,v,rfl,rfl,kp.1 _ _ np e,QR (by rw[q.length];exact hl) QhJ,?_⟩;obtain⟨r2,st⟩:=rel'.mut hd hx (q'.app (.cons vk .nil));exact en.nx.go _ hn _ _ r2 ((Stp.kp kp).trans st)
 ·exact hw.elim
def QBi(i:Nat)(we:DE):DS:=λD δ=>match δ[i]? with
 |some (.own ds)=>we δ (λd=>match d with
  |.list es=>ds.length+es.length<=1000000/\D.nx (δ.set i (.own (ds++es)))
  |_=>False) D.ex
 |_=>False
theorem Quj(h:PS X st (QlH (tBM X.K "list" Qmc (Qbq i) (Qae (tX .P X.K E we) Qej)))):PS X st (tS X.K E (QBi i we)):=by
 refine PS.imp h λD σ H ⟨F,δ,DD,rel,hw,en⟩=>?_
 unfold QBi at hw;split at hw
 ·rename_i ds hd
  obtain⟨x,hx⟩:=rel.lt hd;obtain⟨l,xs,rfl,e,q,f⟩:=rel.sl i _ _ hx hd;have np:=rel.own_pot hd hx;refine⟨.ref l,hx,.inl ⟨rfl,_,SqL.of e⟩,F,δ,_,DD.ex,rel,hw,λd hd2 v H' rel' kp vk=>?_,en.ex⟩;cases d<;>first | exact(show False from hd2).elim | skip
  obtain⟨hl,hn⟩:=hd2;obtain⟨l2,ys,rfl,e2,q2⟩:=DP.list vk;have q':=kp.das q;refine⟨l,l2,xs,ys,rfl,rfl,kp.1 _ _ np e,e2,Qt (by rw[q.length,q2.length];exact hl) QhJ,?_⟩;obtain⟨r2,st⟩:=rel'.mut hd hx (q'.app q2);exact en.nx.go _ hn _ _ r2 ((Stp.kp kp).trans st)
 ·exact hw.elim
def QyR(i:Nat)(wi we:DE):DS:=λD δ=>we δ (λd=>match δ[i]? with
 |some (.own ds)=>wi δ (λz=>match z with
  |.int k=>∃j,ixN ds.length k=some j/\D.nx (δ.set i (.own (ds.set j d)))
  |_=>False) D.ex
 |_=>False) D.ex
theorem Quc(h:PS X st (QoG (tX .D X.K E we) (gSub (Qbq i) (tX .P X.K E wi) QtL))):PS X st (tS X.K E (QyR i wi we)):=by
 refine PS.imp h λD σ H ⟨F,δ,DD,rel,hw,en⟩=>?_
 refine⟨F,δ,_,DD.ex,rel,hw,λd hd v H1 rel1 kp1 vk=>?_,en.ex⟩;split at hd
 ·rename_i ds hds
  obtain⟨x,hx⟩:=rel1.lt hds;obtain⟨l,xs,rfl,e,q,f⟩:=rel1.sl i _ _ hx hds;have np:=rel1.own_pot hds hx;refine⟨.ref l,hx,F,δ,_,DD.ex,rel1,hd,λz hz y H2 rel2 kp2 yk=>?_,en.ex⟩;cases z<;>first | exact(show False from hz).elim | skip
  obtain⟨j,hj,hn⟩:=hz;refine⟨l,xs,_,j,rfl,DP.int yk,kp2.1 _ _ np e,by rw[q.length];exact hj,?_⟩;obtain⟨r2,st⟩:=rel2.mut hds hx ((kp2.das q).set (kp2.da vk) j);exact en.nx.go _ hn _ _ r2 (((Stp.kp kp1).trans (Stp.kp kp2)).trans st)
 ·exact hd.elim
def QvK(i:Nat)(rD:Qb->Qb->(Qb->Prop)->Prop)(wi we:DE):DS:=λD δ=>match δ[i]? with
 |some (.own ds)=>wi δ (λz=>match z with
  |.int k=>∃j a,ixN ds.length k=some j/\ds[j]? = some a/\we δ (λe=>rD a e λb=>D.nx (δ.set i (.own (ds.set j b)))) D.ex
  |_=>False) D.ex
 |_=>False
theorem Qph{r:TIp}{rD:Qb->Qb->(Qb->Prop)->Prop}(hd:QrA r rD)(h:PS X st (QwS (Qbq i) (tX .P X.K E wi) (tX .P X.K E we) (Qwh X.K) (λx y H Q=>QcR H->r x y H Q) QtL)):PS X st (tS X.K E (QvK i rD wi we)):=by
 refine PS.imp h λD σ H ⟨F,δ,DD,rel,hw,en⟩=>?_
 unfold QvK at hw;split at hw
 ·rename_i ds hds
  obtain⟨x,hx⟩:=rel.lt hds;obtain⟨l,xs,rfl,e,q,f⟩:=rel.sl i _ _ hx hds;have np:=rel.own_pot hds hx;refine⟨.ref l,hx,F,δ,_,DD.ex,rel,hw,λz hz y H1 rel1 kp1 yk=>?_,en.ex⟩;cases z<;>first | exact(show False from hz).elim | skip
  obtain⟨j,a,hj,ha,hn⟩:=hz;have q1:=kp1.das q;obtain⟨va,hva,da⟩:=q1.get j a ha;rw[DP.int yk];refine⟨l,xs,_,va,rfl,rfl,SqL.of (kp1.1 _ _ np e),by unfold atI;rw[q.length,hj];exact hva,F,δ,_,DD.ex,rel1,hn,λb hb u H2 rel2 kp2 uk ln=>?_,en.ex⟩;refine hd (Av F σ δ) (Yh σ δ) H2 va u a b _ _ ln (λa ha=>rel2.isl ha) (.inl (kp2.da da)) uk hb λc hc w H3 s dw=>?_
  have r3:=rel2.same s;have k3:=kp2.trans (Kp.same rel2 s);refine⟨l,xs,_,j,rfl,rfl,k3.1 _ _ np (kp1.1 _ _ np e),by rw[q.length];exact hj,?_⟩;obtain⟨r4,st⟩:=r3.mut hds hx ((k3.das q1).set dw j);exact en.nx.go _ hc _ _ r4 (((Stp.kp kp1).trans (Stp.kp k3)).trans st)
 ·exact hw.elim
@[irreducible] def Qv2(items:List Qb)(wg:DG)(wb:DS)(D:Qfl)(δ:Sts):Prop:=∃Iv:Nat->Sts->Prop,Iv 0 δ/\(∀(i:Nat) d δ,items[i]? = some d->Iv i δ->wg d δ λδ2=>wb { D with nx:=Iv (i+1),ct:=Iv (i+1),bk:=D.nx } δ2)/\∀δ,Iv items.length δ->D.nx δ
def dFor(wi:DI)(wg:DG)(wb:DS):DS:=λD δ=>wi δ (λitems=>Qv2 items wg wb D δ) D.ex
theorem Qui{tg iter:QV}{body:List J7}{pos:Pos}{ix:List Nat}{wi:DI}{wg:DG}{wb:DS}(hp:Qf6 (model X.prog X.w) X.A X.env X.xe)(hc:X.calm=true)(hi:PI X tg iter (tI .D X.K E wi))(hg:PG X tg (tG ix X.K wg))(hb:PSs X body (tS X.K E wb))
  (hs:∀x,foldedSetIterable iter X.env x=pure x:=by intro _;rfl):PS X (.For tg iter body [] pos) (tS X.K E (dFor wi wg wb)):=by
 refine PS.imp (Qhw hp hc hi hg hb hs) λD σ H ⟨F,δ,DD,rel,hw,en⟩=>?_
 refine⟨F,δ,_,DD.ex,rel,hw,λitems hC J H1 rel1 kp1 ⟨ln,it⟩=>?_,en.ex⟩;unfold Qv2 at hC;obtain⟨Iv,i0,step,fin⟩:=hC;have en1:=en.step (Stp.kp (F:=F) kp1);refine⟨λi m σ' H'=>m=items.length - i/\i<=items.length/\∃δ',Iv i δ'/\Rel X.K F σ' H' δ'/\Stp F σ H1 δ σ' H' δ',⟨_,rfl,Jn _,δ,i0,rel1,Stp.refl⟩,?_⟩;rintro i m σ' H' ⟨rfl,hi',δ',iv,r',st'⟩;obtain⟨go,stop⟩:=it H' (Av F σ' δ') st'.1 st'.2 λa ha=>r'.isl ha
 by_cases hlt:i<items.length
 ·have hd:items[i]? = some items[i]:=Qd hlt;obtain⟨g1,g2⟩:=go i _ hd;refine .inr ⟨g1,λσ2 H2=>∃δ2,Iv (i+1) δ2/\Rel X.K F σ2 H2 δ2/\Stp F σ H1 δ σ2 H2 δ2,λσ2 H2 ⟨δ2,h2,r2,s2⟩=>⟨_,by omega,rfl,hlt,δ2,h2,r2,s2⟩,λx H3 y=>?_⟩;obtain⟨s3,dx⟩:=g2 x H3 y;have r3:=r'.same s3;have st3:Stp F σ H1 δ σ' H3 δ':=st'.trans (Stp.kp (Kp.same r' s3));refine⟨F,δ',_,_,r3,dx,step i _ δ' hd iv,λδ4 h4 σ4 r4 st4 _ _=>⟨F,δ4,_,r4,h4,?_⟩⟩;have st5:=st3.trans st4;exact⟨⟨λδ6 h6 σ6 H6 r6 s6=>⟨δ6,h6,r6,st5.trans s6⟩⟩,en.rt,en.rtF,(en1.step st5).nx,⟨λδ6 h6 σ6 H6 r6 s6=>⟨δ6,h6,r6,st5.trans s6⟩⟩,en.ex⟩
 ·have e:i=items.length:=by omega
  subst e;exact .inl ⟨stop,(en1.step st').nx.go δ' (fin δ' iv) σ' H' r' Stp.refl⟩
theorem Qvv{lo:Int}{n:Nat}{wg:DG}{wb:DS}{D:Qfl}{δ:Sts}(Iv:Nat->Sts->Prop)(h0:Iv 0 δ)
  (hs:∀(i:Nat) δ,i<n->Iv i δ->wg (.int (lo+i)) δ λδ2=>wb { D with nx:=Iv (i+1),ct:=Iv (i+1),bk:=D.nx } δ2)(hd:∀δ,Iv n δ->D.nx δ):Qv2 (Qib lo n) wg wb D δ:=by
 unfold Qv2;exact⟨Iv,h0,λi d δ hd iv=>by obtain⟨hi,rfl⟩:=QdI hd;exact hs i δ hi iv,λδ iv=>hd δ (by rw[Qgp] at iv;exact iv)⟩
theorem Qdq{items:List Qb}{wg:DG}{wb:DS}{D:Qfl}{δ:Sts}(Iv:Nat->Sts->Prop)(h0:Iv 0 δ)
  (hs:∀(i:Nat) d δ,items[i]? = some d->Iv i δ->wg d δ λδ2=>wb { D with nx:=Iv (i+1),ct:=Iv (i+1),bk:=D.nx } δ2)(hd:∀δ,Iv items.length δ->D.nx δ):Qv2 items wg wb D δ:=by
 unfold Qv2;exact⟨Iv,h0,hs,hd⟩
def QsW(C:Addr)(we:DE):DS:=λD δ=>we δ (λ_=>D.ex C) D.ex
theorem Qmz{C:Addr}(h:PS X st (Rx.QrR E C (tX .P X.K E we))):PS X st (tS X.K E (QsW C we)):=by
 refine PS.imp h λD σ H ⟨F,δ,DD,rel,hw,en⟩=>?_
 exact⟨F,δ,_,DD.ex,rel,hw,λd hd v H' rel' kp vk=>en.ex C hd H' rel'.ke,en.ex⟩
def QyV(we:DE):DS:=λD δ=>we δ (λ_=>D.nx δ) D.ex
theorem Qpf(h:PS X st (QlH (tX .P X.K E we))):PS X st (tS X.K E (QyV we)):=by
 refine PS.imp h λD σ H ⟨F,δ,DD,rel,hw,en⟩=>?_
 exact⟨F,δ,_,DD.ex,rel,hw,λd hd v H' rel' kp vk=>en.nx.go δ hd σ H' rel' (Stp.kp kp),en.ex⟩
end
def stD(N:List Str)(args:List Sl):Sts:=args++Jc (N.length - args.length) .no
theorem QfR{α β:Type}{R:α->β->Prop}:∀{xs:List α}{ys:List β},Zw R xs ys->∀(i:Nat) x y,xs[i]? = some x->ys[i]? = some y->R x y
 |_,_,.nil,i,x,y,h,_=>by simp at h
 |_,_,.cons a b,0,x,y,h,h'=>by simp at h h';subst h h';exact a
 |_,_,.cons a b,i+1,x,y,h,h'=>QfR b i x y (by simpa using h) (by simpa using h')
theorem Qhl{K:PySem.W.Frag}{N:List Str}{A pt:Addr->Prop}{H:Hp}{vs:List V}{args:List Sl}(dm:∀a,A a->∃xs,H a=some (.lst xs))(hp:∀p,pt p->A p/\∃n,H p=some (.lst [.int n]))(q:Zw (QiZ A pt H) vs args):Rel K ⟨H,A,pt⟩ (L2.start N vs) H (stD N args):=by
 have hl:vs.length=args.length:=q.length;have no:∀(i:Nat) x,(stD N args)[i]? = some x->(i<args.length/\args[i]? = some x)∨x=.no:=λi x h=>by
  unfold stD at h;by_cases z:i<args.length
  ·rw[QbS z] at h;exact .inl ⟨z,h⟩
  ·rw[Qg2 (by omega),Qam] at h;split at h
   ·exact .inr (QH h).symm
   ·cases h
 have arg:∀(i:Nat) o x,(L2.start N vs)[i]? = some o->(stD N args)[i]? = some x->x≠.no->∃v,o=some v/\QiZ A pt H v x:=λi o x h1 h2 hx=>by
  rcases no i x h2 with⟨z,e⟩ | e
  ·unfold L2.start at h1;rw[QbS (by rw[Qc];omega),Qz] at h1;obtain⟨v,hv,rfl⟩:=JG.mp h1;exact⟨v,rfl,QfR q i v x hv e⟩
  ·exact absurd e hx
 have av:∀a,Av ⟨H,A,pt⟩ (L2.start N vs) (stD N args) a->A a:=λa z=>by
  rcases z with z | ⟨i,h1,h2⟩
  ·exact z
  ·rcases h2 with h2 | ⟨ds,h2⟩
   ·obtain⟨v,e,p,rfl,hp'⟩:=arg i _ _ h1 h2 (λz=>by cases z);cases e;exact(hp _ hp').1
   ·obtain⟨v,e,hh⟩:=arg i _ _ h1 h2 (λz=>by cases z);exact hh.elim
 exact{
  len:=by unfold L2.start stD;rw[Qj,Qj,Qc,QaM,QaM,hl]
  dom:=dm
  dom0:=dm
  pt0:=hp
  kx:=λ_ _ _ e=>e
  sl:=λi o x h1 h2=>by
   cases x with
   |no=>trivial
   |v d=>
    obtain⟨v,e,hh⟩:=arg i _ _ h1 h2 (λz=>by cases z);exact⟨v,e,DA.mv hh (λ_ _ _ e=>e) λa z=>.inl (av a z)⟩
   |pot=>
    obtain⟨v,e,p,rfl,hp'⟩:=arg i _ _ h1 h2 (λz=>by cases z);obtain⟨_,n,en⟩:=hp p hp';exact⟨p,n,e,en,.inl hp'⟩
   |own ds=>obtain⟨v,e,hh⟩:=arg i _ _ h1 h2 (λz=>by cases z);exact hh.elim
   |pk ds=>obtain⟨v,e,hh⟩:=arg i _ _ h1 h2 (λz=>by cases z);exact hh.elim
   |scr=>obtain⟨v,e,hh⟩:=arg i _ _ h1 h2 (λz=>by cases z);exact hh.elim
  inj:=λi j a ds h1 h2 _=>by
   obtain⟨v,e,hh⟩:=arg i _ _ h2 h1 (λz=>by cases z);exact hh.elim }
def QCK:Qb->Bool
 |.list _=>false
 |_=>true
def rtD:Bool->(Qb->Prop)->Qb->Prop
 |true,R,d=>QCK d=true/\R d
 |false,R,d=>R d
def QhP(fr:Bool)(R:Qb->Prop)(EX:XP):Qfl:=⟨λ_=>R .none,rtD fr R,R,λ_=>False,λ_=>False,EX⟩
theorem Qnr{K:PySem.W.Frag}{E Ex:XK}{fr:Bool}{A pt:Addr->Prop}{H:Hp}{R:Qb->Prop}{EX EX':XP}{Q:VK}{σ:L2.St}{δ:Sts}(k:∀d,R d->∀v H',Kq pt H H'->DA A H' v d->(fr=true->FrV H H' v)->Q v H')(o:Out ⟨H,A,pt⟩ E EX') :
  Ends1 K E ⟨H,A,pt⟩ σ H δ (QhP fr R EX') { nx:=λ_ H'=>Q .non H',rt:=Q } where
 nx:=⟨λδ' hR σ' H' r st=>k _ hR _ H' r.ke .non λ_=>Qvu⟩
 rt:=λd h v H' ke dv=>by
  cases fr with
  |false=>exact k d h v H' ke dv λz=>by cases z
  |true=>
   obtain⟨h1,h2⟩:=h;refine k d h2 v H' ke dv λz l e1 ⟨xs,e2⟩=>?_
   subst e1;cases dv with
   |@tup a ys ds n e q=>rw[e] at e2;cases e2
   |@lst a ys ds n e q=>cases h1
   |@dct a kvs ds n e q=>rw[e] at e2;cases e2
 rtF:=λd h v H' ke dv fr'=>k d h v H' ke dv λ_=>fr'
 bk:=⟨λ_ h=>h.elim⟩
 ct:=⟨λ_ h=>h.elim⟩
 ex:=o
section
variable{P:Qm}{w:QZ}{K:PySem.W.Frag}{mg:Str->Option Value}{base:JS}
theorem okD{x qual:Str}{st:J7}{f:Addr}{fd:JQ}{N ps:List Str}{k:Nat}{fD:DF}(fr:Bool)(F:Fun K x qual st f fd)(S:Yb N ps (QU st))(len:∀args R EX,fD args R EX->args.length=ps.length)
  (hbody:∀(cdv:Value)(A:Q1)(outer:List Env)(s:Shared)(H:Hp)(E:XK),Room k (A.deeper (envOfC qual (QU st) s.heap.objs.size f cdv)) ->
   ∃wd,PSs (cxOf CX0 P w K mg base N qual (QU st) f cdv A outer s H E).nox (ZU st) (tS K E0 wd)/\∀args R EX,fD args R EX->wd (QhP fr R XF) (stD N args)):FnOk P w K mg base CX0 (k+1) f fd ps (ZN fr fD):=by
 refine F.ok S (λvs H Q E h=>?_) λcdv A outer s H vs Q E hr h=>?_
 ·obtain⟨A,pt,args,R,EX,_,_,q,h,_⟩:=h;rw[q.length];exact len _ _ _ h
 ·obtain⟨wd,hp,hw⟩:=hbody cdv A outer s H E hr;obtain⟨A',pt,args,R,EX,dm,hpt,q,h,k,_⟩:=h;exact⟨_,hp,⟨H,A',pt⟩,_,_,Qhl dm hpt q,hw args R EX h,Qnr (Ex:=E) (EX:=EX) k Quw⟩
theorem QCJ{x qual:Str}{st:J7}{f:Addr}{fd:JQ}{N ps:List Str}{k:Nat}{fD:DF}(fr:Bool)(F:Fun K x qual st f fd)(S:Yb N ps (QU st))(len:∀args R EX,fD args R EX->args.length=ps.length)
  (hbody:∀(cdv:Value)(A:Q1)(outer:List Env)(s:Shared)(H:Hp)(E:XK),Room k (A.deeper (envOfC qual (QU st) s.heap.objs.size f cdv)) ->
   ∃wd,PSs (cxOf (Rx.CXE P w) P w K mg base N qual (QU st) f cdv A outer s H E) (ZU st) (tS K E wd)/\∀args R EX,fD args R EX->wd (QhP fr R EX) (stD N args)):FnOk P w K mg base (Rx.CXE P w) (k+1) f fd ps (ZN fr fD):=by
 refine Rx.okE F S (λvs H Q E h=>?_) λcdv A outer s H vs Q E hr h=>?_
 ·obtain⟨A,pt,args,R,EX,_,_,q,h,_⟩:=h;rw[q.length];exact len _ _ _ h
 ·obtain⟨wd,hp,hw⟩:=hbody cdv A outer s H E hr;obtain⟨A',pt,args,R,EX,dm,hpt,q,h,k,kx⟩:=h;exact⟨_,hp,⟨H,A',pt⟩,_,_,Qhl dm hpt q,hw args R EX h,Qnr (Ex:=E) (EX:=EX) k λC hC H' ke=>kx C hC H' ke⟩
end
end Dl
namespace L2
def QBA(i j:Int):Prop:=0<j/\j<=10^40
theorem Qpt{X:Cx}:OpR X (binaryOp .FloorDiv) (rI QBA λi j=>.int (i / j)):=opI λi j _ _ _ _ _ hc q=>by
 have h1:(0:Int)<j:=hc.1;have h2:j<=10^40:=hc.2;refine floordiv_int (by omega) (by rw[Int.fdiv_eq_ediv_of_nonneg i (by omega)];exact q) (.inl (PyProof.noPylong_of_log2 ?_));have h3:j.natAbs<2^200:=by
  have:(10:Int)^40<2^200:=by decide
  omega
 have:=(Qow (by omega:j.natAbs≠0)).mpr h3;omega
end L2
namespace Rk
open L2 _root_.Rd
def Qc9:Sp:=λvs H Q _=>∃p n f,vs=[.ref p,.int f]/\H p=some (.lst [.int n])/\0<f/\f<=10^40/\∀r m,0<=r->r<f->Q (.int r) (upd H p (.lst [.int m]))
end Rk
namespace Dl
open L2 _root_.Rd Rk
theorem QxW{X:Cx}{E:XK}:Y8 CX0 X E:=λ_ _ _ _ _ _ _ h=>h.elim
theorem Room.u60{k:Nat}{A:Q1}(r:Room k A):A.units+60<cLine:=by have:=r.un;omega
theorem Room.i60{k:Nat}{A:Q1}(r:Room k A):A.in1.units+60<cLine:=by
 have:=r.un;show A.units+1+60<cLine;omega
section
variable{X:Cx}{E:XK}{CX:CXT}{k:Nat}{f:Addr}{fd:JQ}{ps:List Str}{x:Str}{p pos:Pos}{e:QV}{es:List QV}{fD:DF}
def QoE:DF:=λargs R _=>∃f,args=[.pot,.v (.int f)]/\0<f/\f<=10^40/\∀r,0<=r->r<f->R (.int r)
theorem QwH{vs:List V}{H:Hp}{Q:VK}{Ex:XK}(h:ZN true QoE vs H Q Ex):Qc9 vs H Q Ex:=by
 obtain⟨A,pt,args,R,EX,dm,hp,q,⟨f,rfl,f0,f1,hR⟩,k,_⟩:=h;cases q with
 |cons q1 q2=>cases q2 with
  |cons q2 q3=>
   cases q3;obtain⟨p,rfl,pp⟩:=q1;cases q2;obtain⟨_,n,e⟩:=hp p pp;refine⟨p,n,f,rfl,e,f0,f1,λr m r0 r1=>k _ (hR r r0 r1) _ _ ⟨λb o nb eb=>?_,λz hz=>?_⟩ (.int _) λ_=>QaD⟩
   ·rw[QK (λz=>nb (by rw[z];exact pp))];exact eb
   ·by_cases y:z=p
    ·rw[y];exact⟨m,upd_same⟩
    ·obtain⟨_,n',e'⟩:=hp z hz;exact⟨n',by rw[QK y];exact e'⟩
def isW:Qb->Bool
 |.int _=>true
 |_=>false
def Qi7:DF:=λargs R _=>∃d,args=[.v d]/\R (.bool (isW d))
end
section
variable{P:Qm}{w:QZ}{K:PySem.W.Frag}{mg:Str->Option Value}{base:JS}
def Qjm(K:PySem.W.Frag):Sp:=λvs H Q _=>∃(a:Addr)(ns:List Int),vs=[.ref a]/\SqL K H a (ns.map V.int)/\ns.length<=63/\∀H',Q (.bl true) H'
end
theorem Qs4{α:Type}{p:α->Prop}:∀x∈([]:List α),p x:=λ_ h=>nomatch h
theorem ZG{α:Type}{p:α->Prop}{a:α}{l:List α}(h:p a)(t:∀x∈l,p x):∀x∈a::l,p x:=λx hx=>by
 rcases QM.mp hx with z | z
 ·rw[z];exact h
 ·exact t x z
theorem Qzh{b c:Bool}{R:Qb->Prop}(h:R (.bool (b&&c))):if b=true then R (.bool c) else R (.bool false):=by
 cases b
 ·exact Qb0 h
 ·exact QbZ h
theorem QvX{b c:Bool}{R:Qb->Prop}{Pk:Prop}(h:R (.bool (b&&c)))(k:b=true->R (.bool c)->Pk):if b=true then Pk else R (.bool false):=by
 cases b
 ·exact Qb0 h
 ·exact QbZ (k rfl h)
theorem ifF{c:Bool}{A B:Prop}(h:c=false)(k:B):if c=true then A else B:=by subst h;exact k
theorem ifT{c:Bool}{A B:Prop}(h:c=true)(k:A):if c=true then A else B:=by subst h;exact k
theorem ifC{c:Bool}{A B:Prop}(t:c=true->A)(f:c=false->B):if c=true then A else B:=by
 cases c
 ·exact f rfl
 ·exact t rfl
theorem Qtu{ds:List Qb}{Q:Qb->Prop}(ns:List Int)(h:ds=[.list (ns.map QJ)])(q:Q (.int ns.sum)):Qzx ds Q:=by
 subst h;unfold Qzx;exact⟨ns,ints_map ns,q⟩
end Dl
namespace L2
section
variable{X:Cx}
end
end L2
namespace Dl
open L2 _root_.Rd Rk
section
variable{X:Cx}{E:XK}
variable{e:QV}{w:DE}{p p2 pos pos2:Pos}
end
theorem Qzg{ds:List Qb}{i:Int}(h0:0<=i)(h1:i<ds.length):∃d,d∈ds/\atI ds i=some d:=by
 obtain⟨j,rfl⟩:∃j:Nat,i=j:=⟨i.toNat,by omega⟩
 have hj:j<ds.length:=by omega
 exact⟨ds[j],Jz hj,Q3 (Qd hj)⟩
theorem Qp3{ds:List Qb}{i:Int}{Q:Qb->Prop}(h0:0<=i)(h1:i<ds.length)(q:∀d∈ds,Q d):∃d,atI ds i=some d/\Q d:=by
 obtain⟨d,hd,e⟩:=Qzg h0 h1;exact⟨d,e,q d hd⟩
structure QE (m:Md) (X:Cx) (E:XK) (e:QV) (w:DE):Prop where h:PE X e (tX m X.K E w)
structure QT (X:Cx) (E:XK) (e:QV) (w:DT):Prop where h:PT X e (tT X.K E w)
structure QW (X:Cx) (E:XK) (e:QV) (w:DT):Prop where h:PW X e (tT X.K E w)
structure QTs (X:Cx) (E:XK) (es:List QV) (w:DT):Prop where h:PTs X es (tT X.K E w)
structure QA (n:Nat) (m:Md) (X:Cx) (E:XK) (es:List QV) (w:DAr):Prop where h:PA X es (tAr n m X.K E w)
structure QAs (X:Cx) (E:XK) (es:List QV) (w:DSl):Prop where h:PA X es (tAs X.K E w)
structure QO (X:Cx) (E:XK) (o:Option QV) (w:DO):Prop where h:PO X o (tO X.K E w)
structure QG (ix:List Nat) (X:Cx) (tg:QV) (w:DG):Prop where h:PG X tg (tG ix X.K w)
structure QI (m:Md) (X:Cx) (E:XK) (tg it:QV) (w:DI):Prop where h:PI X tg it (tI m X.K E w)
structure QS (X:Cx) (E:XK) (st:J7) (w:DS):Prop where h:PS X st (tS X.K E w)
structure QSs (X:Cx) (E:XK) (sts:List J7) (w:DS):Prop where h:PSs X sts (tS X.K E w)
section
variable{X:Cx}{E:XK}
theorem JV{e:QV}{w:DE}(h:QE .F X E e w):QE .D X E e w:=⟨toD h.h⟩
theorem Q9{e:QV}{w:DE}(h:QE .D X E e w):QE .P X E e w:=⟨toP h.h⟩
theorem Jp{e:QV}{w:DE}(h:QE .F X E e w):QE .P X E e w:=⟨QCn h.h⟩
theorem qv(i:Nat){x:Str}{pos:Pos}(hN:X.N[i]? = some x:=by rfl)(hv:Vis X.env.scope x:=by first | exact Qx rfl | exact QL (Qx rfl) | exact QL (QL rfl))(hd:(x == ("__debug__" : Str))=false:=by decide)(hcd:(x == ("__classdict__" : Str))=false:=by decide):QE .D X E (.Name x pos) (Qk9 i):=⟨QxG (pv i hN hv hd hcd)⟩
theorem qp(i:Nat){x:Str}{pos:Pos}(hN:X.N[i]? = some x:=by rfl)(hv:Vis X.env.scope x:=by first | exact Qx rfl | exact QL (Qx rfl) | exact QL (QL rfl))(hd:(x == ("__debug__" : Str))=false:=by decide)(hcd:(x == ("__classdict__" : Str))=false:=by decide):QE .P X E (.Name x pos) (dPk i):=⟨QAE (pv i hN hv hd hcd)⟩
theorem Jo{i:Int}{j pos}:QE .D X E (.Constant (.int i) j pos) (dC (.int i)):=⟨QxP⟩
theorem Qwi{b:Bool}{j pos}:QE .D X E (.Constant (.bool b) j pos) (dC (.bool b)):=⟨QAI⟩
theorem QtS{j pos}:QE .D X E (.Constant .none j pos) (dC .none):=⟨QxM⟩
theorem Qaj{x:Str}{j pos}(h:Jx (.str x)=true:=by decide):QE .D X E (.Constant (.str x) j pos) (dC (.str x)):=⟨QxJ h⟩
theorem Qxu{x:Str}(i:Int){u:Value}{pos:Pos}(hg:Gl X x)(hm:X.mg x=some u)(r:RelV (.int i) u)(hd:(x == ("__debug__" : Str))=false:=by decide):QE .D X E (.Name x pos) (dC (.int i)):=⟨QxT (ZL hg hm r hd) λ_ _=>.int i⟩
theorem YC{a b:QV}{wa wb:DE}{pos:Pos}{r:R2}{rD:Qb->Qb->(Qb->Prop)->Prop}{op:Qc5}(ho:OpR X (binaryOp op) r)(hd:OpD r rD)(ha:QE .P X E a wa)(hb:QE .P X E b wb):QE .F X E (.BinOp a op b pos) (dOp rD wa wb):=⟨QxU ho hd ha.h hb.h⟩
theorem Qmj{a b:QV}{wa wb:DE}{pos:Pos}{r:R2}{rD:Qb->Qb->(Qb->Prop)->Prop}{op:Qth}(ho:OpR X (compareOp op) r)(hd:OpD r rD)(ha:QE .P X E a wa)(hb:QE .P X E b wb)(hm:behindInMarks op b=false):QE .F X E (.Compare a [op] [b] pos) (dOp rD wa wb):=⟨QxS ho hd ha.h hb.h hm⟩
theorem ZA{a b:QV}{wa wb:DE}{pos:Pos}{r:R2}{rD:Qb->Qb->(Qb->Prop)->Prop}{op:Qth}(ho:OpR X (compareOp op) r)(hd:OpD r rD)(ha:QE .P X E a wa)(hb:QE .P X E b wb)(hm:behindInMarks op b=false):QT X E (.Compare a [op] [b] pos) (dTst (dOp rD wa wb)):=⟨Qua ho hd ha.h hb.h hm⟩
theorem QaO{a b:QV}{wa wb:DE}{pos:Pos}{r:R2}{rD:Qb->Qb->(Qb->Prop)->Prop}(ho:IxR X r)(hd:QrA r rD)(ha:QE .P X E a wa)(hb:QE .P X E b wb)(hs:QiX b):QE .D X E (.Subscript a b pos) (dOp rD wa wb):=⟨QAG ho hd ha.h hb.h hs⟩
theorem QoX{a:QV}{wa:DE}{pos:Pos}(ha:QE .P X E a wa):QE .F X E (.UnaryOp .USub a pos) (dUn QBW wa):=⟨QxN ha.h⟩
theorem QAA{a b c:QV}{wa wb wc:DE}{pos:Pos}{op op':Qth}{p q:Int->Int->Bool}(ho:OpR X (compareOp op) (rI0 λi j=>.bl (p i j)))(ho':OpR X (compareOp op') (rI0 λi j=>.bl (q i j)))(ha:QE .P X E a wa)(hb:QE .P X E b wb)(hc:QE .P X E c wc)(hm:lastMarks [op,op'] [b,c]=false:=by with_unfolding_all rfl):QE .F X E (.Compare a [op,op'] [b,c] pos) (dCh p q wa wb wc):=⟨QAH ho ho' ha.h hb.h hc.h hm⟩
theorem QfP{e:QV}{w:DE}(h:QE .P X E e w)(he:∀whole,isTrue e X.env whole=(do let v <- whole;standAt e.pos;holding [v] (truthy v)):=by intro _;rfl):QT X E e (dTru w):=⟨Qt8 h.h he⟩
theorem QbC{e:QV}{w:DE}(h:QE .P X E e w)(he:∀whole,isTrue e X.env whole=(do let v <- whole;standAt e.pos;holding [v] (truthy v)):=by intro _;rfl):QT X E e (dTst w):=⟨Qt7 h.h he⟩
theorem QeL{a:QV}{pos:Pos}{ta:DT}(ha:QT X E a ta):QW X E (.BoolOp .And [a] pos) ta:=⟨Qo8 ha.h⟩
theorem Qhp{a b:QV}{rest:List QV}{pos:Pos}{ta tb:DT}(ha:QT X E a ta)(hb:QW X E (.BoolOp .And (b::rest) pos) tb):QW X E (.BoolOp .And (a::b::rest) pos) (QBm ta tb):=⟨Qt6 ha.h hb.h⟩
theorem Qmk{a b:QV}{rest:List QV}{pos:Pos}{wa wb:DE}(ha:QE .P X E a wa)(hb:QE .D X E (.BoolOp .And (b::rest) pos) wb):QE .D X E (.BoolOp .And (a::b::rest) pos) (QyX wa wb):=⟨QxV ha.h hb.h⟩
theorem Qjv{a:QV}{pos:Pos}{ta:DT}(ha:QT X E a ta):QW X E (.BoolOp .Or [a] pos) ta:=⟨Qt5 ha.h⟩
theorem Qku{a b:QV}{rest:List QV}{pos:Pos}{ta tb:DT}(ha:QT X E a ta)(hb:QW X E (.BoolOp .Or (b::rest) pos) tb):QW X E (.BoolOp .Or (a::b::rest) pos) (dOr ta tb):=⟨QxE ha.h hb.h⟩
theorem QCH{a b:QV}{rest:List QV}{pos:Pos}{wa wb:DE}(ha:QE .P X E a wa)(hb:QE .D X E (.BoolOp .Or (b::rest) pos) wb):QE .D X E (.BoolOp .Or (a::b::rest) pos) (QB6 wa wb):=⟨QAF ha.h hb.h⟩
theorem QoW{e:QV}{t:DT}(h:QW X E e t):QT X E e t:=⟨PW.pt h.h⟩
theorem QbD{a:QV}{pos:Pos}{ta:DT}(ha:QT X E a ta):QT X E (.UnaryOp .Not a pos) (QB7 ta):=⟨Qt9 ha.h⟩
theorem Qkv{op}{a:QV}{pos:Pos}{w:DE}(h:QE .D X E a w):QE .D X E (.BoolOp op [a] pos) w:=⟨QxK h.h⟩
theorem Qxt{a:QV}{pos:Pos}{wa:DE}(ha:QE .P X E a wa):QE .D X E (.UnaryOp .Not a pos) (QyS wa):=⟨QxL ha.h⟩
theorem QAz{c a b:QV}{pos:Pos}{ta:DT}{wa wb:DE}(hc:QT X E c ta)(ha:QE .D X E a wa)(hb:QE .D X E b wb):QE .D X E (.IfExp c a b pos) (QCa ta wa wb):=⟨QxQ hc.h ha.h hb.h⟩
theorem Ja{m:Md}:QA 0 m X E [] QnG:=⟨Qup⟩
theorem J8{n:Nat}{e:QV}{es:List QV}{we:DE}{wr:DAr}(he:QE .D X E e we)(hr:QA n .D X E es wr)(hs:notStar e=true:=by rfl):QA (n+1) .D X E (e::es) (Qbu we wr):=⟨QmD he.h hr.h hs⟩
theorem Qdb{n:Nat}{e:QV}{es:List QV}{we:DE}{wr:DAr}(he:QE .P X E e we)(hr:QA n .P X E es wr)(hs:notStar e=true:=by rfl):QA (n+1) .P X E (e::es) (Qbu we wr):=⟨QmC he.h hr.h hs⟩
theorem ZZ{n:Nat}{es:List QV}{w:DAr}{x1}{pos:Pos}(h:QA n .D X E es w)(hn:n<=1000:=by decide):QE .F X E (.Tuple es x1 pos) (Qwk w):=⟨QxH h.h hn⟩
theorem QcG{n:Nat}{es:List QV}{w:DAr}{pos:Pos}(h:QA n .D X E es w)(hn:n<=1000:=by decide):QE .F X E (.List es pos) (QyT w):=⟨QxO h.h hn⟩
theorem Qxv{pos:Pos}:QE .D X E (.Dict [] [] pos) (dC (.dict [])):=⟨QxR⟩
theorem QaC{x:Str}{bid:String}{p pos:Pos}{e:QV}{es:List QV}{n:Nat}{wr:DAr}{r:List V->Hp->VK->Prop}{rD:List Qb->(Qb->Prop)->Prop}(hc:CallR X (.builtin bid) r)(hd:Qcv r rD)(hg:Gl X x)(hm:X.mg x=none)(hv:bootBuiltins x=some (.builtin bid))(ha:QA n .P X E (e::es) wr)(hn:x ≠ "__name__" := by decide)(hdb:(x == ("__debug__" : Str))=false:=by decide)(he:starEach (e::es) X.env=(false,eval e X.env)::starEach es X.env:=by rfl)(hpl:(backTo pos (starEach es X.env)).any (·.1)=false:=by rfl):QE .F X E (.Call (.Name x p) (e::es) [] pos) (dCB rD wr):=⟨Qpp hc hd hg hm hv ha.h hn hdb he hpl⟩
theorem ZQ{x:Str}{T:String}{p pos:Pos}{e:QV}{es:List QV}{n:Nat}{wr:DAr}{r:List V->Hp->VK->Prop}{rD:List Qb->(Qb->Prop)->Prop}(hc:CallR X (.type T) r)(hd:Qcv r rD)(hg:Gl X x)(hm:X.mg x=none)(hv:bootBuiltins x=some (.type T))(ha:QA n .P X E (e::es) wr)(hn:x ≠ "__name__" := by decide)(hdb:(x == ("__debug__" : Str))=false:=by decide)(he:starEach (e::es) X.env=(false,eval e X.env)::starEach es X.env:=by rfl)(hpl:(backTo pos (starEach es X.env)).any (·.1)=false:=by rfl):QE .F X E (.Call (.Name x p) (e::es) [] pos) (dCB rD wr):=⟨QmE hc hd hg hm hv ha.h hn hdb he hpl⟩
theorem Qd7{e:QV}{we:DE}{p pos pos2:Pos}{x:Str}(tn:Tn)(hg:Gl X "isinstance")(hm:X.mg "isinstance" = none)(he:QE .P X E e we)(hg2:Gl X x)(hm2:X.mg x=none)(hv:bootBuiltins x=some (.type tn.s))(hn:x ≠ "__name__" := by decide)(hd:(x == ("__debug__" : Str))=false:=by decide)(h1:notStar e=true:=by rfl):QE .F X E (.Call (.Name "isinstance" p) [e,.Name x pos2] [] pos) (QyU tn we):=⟨Quq tn hg hm he.h (QAJ tn hg2 hm2 hv hn hd) h1 rfl⟩
theorem Qmg  : QO X E none dNo:=⟨Qpj⟩
theorem Qmf{e:QV}{we:DE}(he:QE .P X E e we):QO X E (some e) (dSo we):=⟨Qpi he.h⟩
theorem Qmi{e:QV}{lo hi:Option QV}{we:DE}{wl wh:DO}{p2 pos:Pos}(he:QE .P X E e we)(hl:QO X E lo wl)(hh:QO X E hi wh):QE .F X E (.Subscript e (.Slice lo hi none p2) pos) (dSl we wl wh):=⟨Qpn he.h hl.h hh.h⟩
theorem Zi  : QAs X E [] QAq:=⟨Qug⟩
theorem Yz{e:QV}{es:List QV}{we:DE}{wr:DSl}(he:QE .D X E e we)(hr:QAs X E es wr)(hs:notStar e=true:=by rfl):QAs X E (e::es) (sV we wr):=⟨QAD he.h hr.h hs⟩
theorem Qd5(i:Nat){x:Str}{pos:Pos}{es:List QV}{wr:DSl}(hr:QAs X E es wr)(hN:X.N[i]? = some x:=by rfl)(hv:Vis X.env.scope x:=by first | exact Qx rfl | exact QL (Qx rfl) | exact QL (QL rfl))(hd:(x == ("__debug__" : Str))=false:=by decide)(hcd:(x == ("__classdict__" : Str))=false:=by decide):QAs X E (.Name x pos::es) (Qzy i wr):=⟨Qud (pv i hN hv hd hcd) hr.h rfl⟩
theorem Qxw{CX:CXT}{k:Nat}{f:Addr}{fd:JQ}{ps:List Str}{x:Str}{p pos:Pos}{e:QV}{es:List QV}{fD:DF}{wa:DSl}(G:FnOk X.prog X.w X.K X.mg X.base CX k f fd ps (ZN false fD))(hr:Room k X.A)(hg:Gl X x)(hm:X.mg x=some (.ref f))(hk:PySem.W.keepIn X.K (.ref f)=true)(hb:Binds X.K fd ps [])(hx:Y8 CX X E)(ha:QAs X E (e::es) wa)(hdb:(x == ("__debug__" : Str))=false:=by decide)(he:starEach (e::es) X.env=(false,eval e X.env)::starEach es X.env:=by rfl)(hpl:(backTo pos (starEach es X.env)).any (·.1)=false:=by rfl):QE .D X E (.Call (.Name x p) (e::es) [] pos) (QgM fD wa):=⟨Qus G hr hg hm hk hb hx ha.h hdb he hpl⟩
theorem QtT{CX:CXT}{k:Nat}{f:Addr}{fd:JQ}{ps:List Str}{x:Str}{p pos:Pos}{e:QV}{es:List QV}{fD:DF}{wa:DSl}(G:FnOk X.prog X.w X.K X.mg X.base CX k f fd ps (ZN true fD))(hr:Room k X.A)(hg:Gl X x)(hm:X.mg x=some (.ref f))(hk:PySem.W.keepIn X.K (.ref f)=true)(hb:Binds X.K fd ps [])(hx:Y8 CX X E)(ha:QAs X E (e::es) wa)(hdb:(x == ("__debug__" : Str))=false:=by decide)(he:starEach (e::es) X.env=(false,eval e X.env)::starEach es X.env:=by rfl)(hpl:(backTo pos (starEach es X.env)).any (·.1)=false:=by rfl):QE .F X E (.Call (.Name x p) (e::es) [] pos) (QgM fD wa):=⟨Qpo G hr hg hm hk hb hx ha.h hdb he hpl⟩
theorem YK(i:Nat){x:Str}{pos:Pos}(hN:X.N.Nodup)(hi:X.N[i]? = some x)(hx:Loc X.env.scope x)(hf:X.fn x=true∨X.env.scope.names.lookup x=some .local:=by first | exact .inl rfl | exact .inr rfl | assumption):QG [i] X (.Name x pos) (gN i):=⟨Qpm (Yv hN hi hx hf)⟩
structure QGs (X:Cx) (es:List QV) (is:List Nat):Prop where h:PGs X es (gNs is)
theorem Qbh  : QGs X [] []:=⟨QcI⟩
theorem JW(i:Nat){is:List Nat}{x:Str}{pos:Pos}{es:List QV}(h:QGs X es is)(hN:X.N.Nodup)(hi:X.N[i]? = some x)(hx:Loc X.env.scope x)(hf:X.fn x=true∨X.env.scope.names.lookup x=some .local:=by first | exact .inl rfl | exact .inr rfl | assumption)(hs:(assignEach (.Name x pos::es) X.env).map (·.2)=assign (.Name x pos) X.env::(assignEach es X.env).map (·.2):=by rfl):QGs X (.Name x pos::es) (i::is):=⟨ZR (Yv hN hi hx hf) h.h hs⟩
theorem Qbg{es:List QV}{k:Nat}{pos:Pos}{is:List Nat}(hc:X.calm=true)(h:QGs X es is)(hn:(assignEach es X.env).length=is.length:=by rfl)(hst:(assignEach es X.env).findIdx? (·.1)=none:=by rfl):QG is X (.Tuple es k pos) (gTN is):=⟨Quo (QeO hc h.h hn hst) rfl⟩
theorem Qgs{m:Md}{tg e:QV}{w:DE}(h:QE m X E e w):QI m X E tg e (QB9 w):=⟨Qpl h.h⟩
theorem Qd6{m:Md}{tg e:QV}{w:DE}(h:QE m X E e w):QI m X E tg e (QB8 w):=⟨Qun h.h⟩
theorem QdK{m:Md}{tg e:QV}{w:DE}{p pos:Pos}(hg:Gl X "range")(hm:X.mg "range" = none)(h:QE .P X E e w)(hs:notStar e=true:=by rfl):QI m X E tg (.Call (.Name "range" p) [e] [] pos) (QyP w):=⟨Qpk hg hm h.h hs⟩
theorem Qjx{m:Md}{e:QV}{w:DE}{p pos tpos:Pos}{elts:List QV}{x1}(hg:Gl X "enumerate")(hm:X.mg "enumerate" = none)(h:QE m X E e w)(hs:notStar e=true:=by rfl):QI m X E (.Tuple elts x1 tpos) (.Call (.Name "enumerate" p) [e] [] pos) (QCb w):=⟨QmB hg hm h.h hs⟩
theorem Qb8  : QTs X E [] QzF:=⟨Qpa⟩
theorem QbM{c:QV}{t:DT}(h:QT X E c t):QTs X E [c] t:=⟨Qo9 h.h⟩
theorem Qbi(M:List Str)(cap:List (Option Nat)){elt tg iter:QV}{ifs:List QV}{scope:Qai}{pos:Pos}{ix:List Nat}{wi:DI}{wg:DG}{wt:DT}{we:DE}(hi:QI .P X E tg iter wi)(hb:∀cl ex s3 H3 C,QG ix (blk X M scope cl ex s3 H3 C) tg wg/\QTs (blk X M scope cl ex s3 H3 C) E0 ifs wt/\QE .D (blk X M scope cl ex s3 H3 C) E0 elt we)(hc:X.calm=true:=by rfl)(ok:QgO X.N X.env.scope M scope cap=true:=by rfl)(hf:QcN cap ix=true:=by rfl)(hs:∀x,foldedSetIterable iter X.env x=pure x:=by intro _;rfl):QE .F X E (.ListComp elt [⟨tg,iter,ifs,0⟩] scope pos) (dComp cap wi wg wt we):=⟨Qur hc ok hf hi.h (λcl ex s3 H3 C=>⟨(hb cl ex s3 H3 C).1.h,(hb cl ex s3 H3 C).2.1.h,(hb cl ex s3 H3 C).2.2.h⟩) hs⟩
theorem ZE  : QSs X E [] QhR:=⟨Qpb⟩
theorem Jf{st:J7}{w:DS}(h:QS X E st w):QSs X E [st] w:=⟨Quf h.h⟩
theorem QF{st:J7}{rest:List J7}{w w':DS}(h:QS X E st w)(h':QSs X E rest w'):QSs X E (st::rest) (Qro w w'):=⟨Qpg h.h h'.h⟩
theorem Qhq{sts:List J7}:QSs X E sts (λ_ _=>False):=⟨QmA⟩
theorem Z8(i:Nat){x:Str}{e:QV}{pos pos':Pos}{we:DE}(he:QE .D X E e we)(hN:X.N.Nodup)(hi:X.N[i]? = some x:=by rfl)(hx:Loc X.env.scope x:=by first | exact Qx rfl | exact QL rfl)(hs:swapsWith e (some (.Name x pos')) pos.line X.env=pure false:=by rfl)(hf:X.fn x=true∨X.env.scope.names.lookup x=some .local:=by first | exact .inl rfl | exact .inr rfl | assumption):QS X E (.Assign [.Name x pos'] e pos) (QzE i we):=⟨Qiw (Yk hN hi hx he.h hs hf)⟩
theorem QdJ(i:Nat){x:Str}{e:QV}{pos pos':Pos}{we:DE}(he:QE .F X E e we)(hN:X.N.Nodup)(hi:X.N[i]? = some x:=by rfl)(hx:Loc X.env.scope x:=by first | exact Qx rfl | exact QL rfl)(hs:swapsWith e (some (.Name x pos')) pos.line X.env=pure false:=by rfl)(hf:X.fn x=true∨X.env.scope.names.lookup x=some .local:=by first | exact .inl rfl | exact .inr rfl | assumption):QS X E (.Assign [.Name x pos'] e pos) (Qrn i we):=⟨Qpc (Yk hN hi hx he.h hs hf)⟩
theorem QeM{tg e:QV}{pos:Pos}{ix:List Nat}{we:DE}{wg:DG}(he:QE .D X E e we)(hg:QG ix X tg wg)(hs:swapsWithSole [tg] e pos.line X.env=pure false:=by rfl)(hw:swappedStores [tg] e X.env=pure none:=by rfl)(h1:(assignEach [tg] X.env).map (·.2)=[assign tg X.env]:=by rfl):QS X E (.Assign [tg] e pos) (QCc we wg):=⟨Qul (Qde he.h hg.h hs hw h1)⟩
theorem Qxo(i j:Nat){x y:Str}{a b:QV}{n:Nat}{wa:DAr}{pos px py pt:Pos}{kt k2 pt2}(ha:QA n .D X E [a,b] wa)(hN:X.N.Nodup)(hc:X.calm=true:=by rfl)(hi:X.N[i]? = some x:=by rfl)(hj:X.N[j]? = some y:=by rfl)(hij:i≠j:=by decide)(hx:X.env.scope.names.lookup x=some .local:=by rfl)(hy:X.env.scope.names.lookup y=some .local:=by rfl)(hw:swappedStores [.Tuple [.Name x px,.Name y py] kt pt] (.Tuple [a,b] k2 pt2) X.env=pure (some [x,y]):=by rfl)(hs:swapsWithSole [.Tuple [.Name x px,.Name y py] kt pt] (.Tuple [a,b] k2 pt2) pos.line X.env=pure false:=by rfl):QS X E (.Assign [.Tuple [.Name x px,.Name y py] kt pt] (.Tuple [a,b] k2 pt2) pos) (QB5 i j wa):=⟨Que (Qxx hc hN hi hj hij hx hy ha.h hw hs)⟩
theorem QaU{e:QV}{pos:Pos}{we:DE}(h:QE .D X E e we):QS X E (.Return (some e) pos) (QB4 we):=⟨Qub h.h⟩
theorem Yj{e:QV}{pos:Pos}{we:DE}(h:QE .F X E e we):QS X E (.Return (some e) pos) (QvJ we):=⟨Qpe h.h⟩
theorem Qit(i:Nat){x:Str}{pos pos2:Pos}(hN:X.N[i]? = some x:=by rfl)(hv:Vis X.env.scope x:=by first | exact Qx rfl | exact QL (Qx rfl) | exact QL (QL rfl))(hd:(x == ("__debug__" : Str))=false:=by decide)(hcd:(x == ("__classdict__" : Str))=false:=by decide):QS X E (.Return (some (.Name x pos)) pos2) (QvI i):=⟨Qpd (pv i hN hv hd hcd)⟩
theorem Qa8{c:QV}{a b:List J7}{pos:Pos}{t:DT}{w w':DS}(hc:QT X E c t)(ha:QSs X E a w)(hb:QSs X E b w'):QS X E (.If c a b pos) (dIf t w w'):=⟨QxF hc.h ha.h hb.h⟩
theorem Qsf(i:Nat){x:Str}{e:QV}{we:DE}{op:Qc5}{ti:TIp}{rD:Qb->Qb->(Qb->Prop)->Prop}{pos pos':Pos}(ho:PIp X op ti)(hd:QrA ti rD)(he:QE .P X E e we)(hN:X.N.Nodup)(hi:X.N[i]? = some x:=by rfl)(hx:Loc X.env.scope x:=by first | exact Qx rfl | exact QL rfl)(hf:X.fn x=true∨X.env.scope.names.lookup x=some .local:=by first | exact .inl rfl | exact .inr rfl | assumption):QS X E (.AugAssign (.Name x pos') op e pos) (QBk i rD we):=⟨Quk hd (Qxy hN hi hx he.h (PIp.len ho) hf)⟩
theorem Qxr{y:Str}{e:QV}{we:DE}{apos cpos pos npos:Pos}(i:Nat)(he:QE .D X E e we)(hN:X.N[i]? = some y:=by rfl)(hv:Vis X.env.scope y:=by first | exact Qx rfl | exact QL (Qx rfl) | exact QL (QL rfl))(hd:(y == ("__debug__" : Str))=false:=by decide)(hcd:(y == ("__classdict__" : Str))=false:=by decide)(hst:notStar e=true:=by rfl)(hbase:attributeBase (.Name y npos) "append" X.env (eval (.Name y npos) X.env)=eval (.Name y npos) X.env:=by rfl)(hfew:((backTo cpos (starEach [e] X.env)).all (λx => !x.1)&&(backToKw cpos (keywordEach [] X.env)).all (λx=>x.1.isSome)&&decide ([e].length+([]:List Qfv).length+(if([]:List Qfv).isEmpty then 0 else 1)<30))=true:=by rfl)(hline:(apos.endLine == cpos.line)=true:=by rfl)(hsw:swapsWith (.Call (.Attribute (.Name y npos) "append" apos) [e] [] cpos) none pos.line X.env=pure false:=by rfl):QS X E (.Expr (.Call (.Attribute (.Name y npos) "append" apos) [e] [] cpos) pos) (QBl i we):=⟨Qum (Zf (Qbb PySem.F.plainAttrs_list PySem.F.slot_list_append PySem.F.type_list_append Qcc (pv i hN hv hd hcd) (Zo he.h Qq hst) hbase hfew hline (Qbr hst) rfl) hsw)⟩
theorem Qxq{y:Str}{e:QV}{we:DE}{apos cpos pos npos:Pos}(i:Nat)(he:QE .P X E e we)(hN:X.N[i]? = some y:=by rfl)(hv:Vis X.env.scope y:=by first | exact Qx rfl | exact QL (Qx rfl) | exact QL (QL rfl))(hd:(y == ("__debug__" : Str))=false:=by decide)(hcd:(y == ("__classdict__" : Str))=false:=by decide)(hst:notStar e=true:=by rfl)(hbase:attributeBase (.Name y npos) "extend" X.env (eval (.Name y npos) X.env)=eval (.Name y npos) X.env:=by rfl)(hfew:((backTo cpos (starEach [e] X.env)).all (λx => !x.1)&&(backToKw cpos (keywordEach [] X.env)).all (λx=>x.1.isSome)&&decide ([e].length+([]:List Qfv).length+(if([]:List Qfv).isEmpty then 0 else 1)<30))=true:=by rfl)(hline:(apos.endLine == cpos.line)=true:=by rfl)(hsw:swapsWith (.Call (.Attribute (.Name y npos) "extend" apos) [e] [] cpos) none pos.line X.env=pure false:=by rfl):QS X E (.Expr (.Call (.Attribute (.Name y npos) "extend" apos) [e] [] cpos) pos) (QBi i we):=⟨Quj (Zf (Qbb PySem.F.plainAttrs_list PySem.F.slot_list_extend PySem.F.type_list_extend Qm3 (pv i hN hv hd hcd) (Zo he.h Qq hst) hbase hfew hline (Qbr hst) rfl) hsw)⟩
theorem Qse{y:Str}{e k:QV}{we wk:DE}{pos spos npos:Pos}(i:Nat)(he:QE .D X E e we)(hk:QE .P X E k wk)(hN:X.N[i]? = some y:=by rfl)(hv:Vis X.env.scope y:=by first | exact Qx rfl | exact QL (Qx rfl) | exact QL (QL rfl))(hd:(y == ("__debug__" : Str))=false:=by decide)(hcd:(y == ("__classdict__" : Str))=false:=by decide) (ha:∀v,assign (.Subscript (.Name y npos) k spos) X.env v=(do
   let ov <- holding [v] (eval (.Name y npos) X.env)
   let iv <- holding [v,ov] (eval k X.env)
   standAt spos
   holding [v,ov,iv] (setItem ov iv v)
   release [v,ov,iv] []):=by intro _;rfl) (hs:swapsWithSole [.Subscript (.Name y npos) k spos] e pos.line X.env=pure false:=by rfl) (hw:swappedStores [.Subscript (.Name y npos) k spos] e X.env=pure none:=by rfl) (h1:(assignEach [.Subscript (.Name y npos) k spos] X.env).map (·.2)=[assign (.Subscript (.Name y npos) k spos) X.env]:=by rfl):QS X E (.Assign [.Subscript (.Name y npos) k spos] e pos) (QyR i wk we):=⟨Quc (Qde he.h (Qms (pv i hN hv hd hcd) hk.h Qeq ha) hs hw h1)⟩
theorem QtR{y:Str}{e k:QV}{we wk:DE}{op:Qc5}{ti:TIp}{rD:Qb->Qb->(Qb->Prop)->Prop}{pos tpos npos:Pos}(i:Nat)(ho:PIp X op ti)(hd:QrA ti rD)(hk:QE .P X E k wk)(he:QE .P X E e we)(hN:X.N[i]? = some y:=by rfl)(hv:Vis X.env.scope y:=by first | exact Qx rfl | exact QL (Qx rfl) | exact QL (QL rfl))(hdd:(y == ("__debug__" : Str))=false:=by decide)(hcd:(y == ("__classdict__" : Str))=false:=by decide)(ha:∀ov iv new,augStore k ov iv new=(do holding [new,ov,iv] (setItem ov iv new);release [new,ov,iv] [];pure .next):=by intros;rfl):QS X E (.AugAssign (.Subscript (.Name y npos) k tpos) op e pos) (QvK i rD wk we):=⟨Qph hd (QtX (pv i hN hv hdd hcd) hk.h Qrb he.h (PIp.len ho) Qeq ha)⟩
theorem Qhr{tg iter:QV}{body:List J7}{pos:Pos}{ix:List Nat}{wi:DI}{wg:DG}{wb:DS}(hp:Qf6 (model X.prog X.w) X.A X.env X.xe)(hc:X.calm=true)(hi:QI .D X E tg iter wi)(hg:QG ix X tg wg)(hb:QSs X E body wb)(hs:∀x,foldedSetIterable iter X.env x=pure x:=by intro _;rfl):QS X E (.For tg iter body [] pos) (dFor wi wg wb):=⟨Qui hp hc hi.h hg.h hb.h hs⟩
theorem Qet{x:Str}{C:Addr}{e0:QV}{we:DE}{np cpos pos:Pos}(hxe:∀e s1,wpAny (model X.prog X.w) X.A (leaving X.env e) (λ_ s2=>Rx.CXE X.prog X.w X.outer X.H₀ X.s₀ E e s2) (λe' s2=>Rx.CXE X.prog X.w X.outer X.H₀ X.s₀ E e' s2) s1->X.xe e s1)(hm:X.mg x=some (.ref C))(q:PySem.W.excIn X.K C Rx.mroV "ValueError.__new__" = true)(ha:QE .P X E e0 we)(hstk:X.stack=X.env::X.outer:=by rfl)(hfr:X.env.frame=some X.env.locals:=by rfl)(hex:X.ex=[]:=by rfl)(hc:X.calm=true:=by rfl)(hg:Gl X x:=by rfl)(he:starEach [e0] X.env=[(false,eval e0 X.env)]:=by rfl)(hd:(x == ("__debug__" : Str))=false:=by decide):QS X E (.Raise (some (.Call (.Name x np) [e0] [] cpos)) none pos) (QsW C we):=⟨Qmz (Rx.Qdd hxe hstk hfr hex hc hg hm q ha.h he hd)⟩
theorem Qme{e:QV}{we:DE}{pos:Pos}(he:QE .P X E e we)(hs:swapsWith e none pos.line X.env=pure false:=by rfl):QS X E (.Expr e pos) (QyV we):=⟨Qpf (Zf he.h hs)⟩
end
section
variable{P:Qm}{w:QZ}{K:PySem.W.Frag}{mg:Str->Option Value}{base:JS}
theorem okQ{x qual:Str}{st:J7}{f:Addr}{fd:JQ}{N ps:List Str}{k:Nat}{fD:DF}(fr:Bool)(F:Fun K x qual st f fd)(S:Yb N ps (QU st))(len:∀args R EX,fD args R EX->args.length=ps.length)
  (hbody:∀(cdv:Value)(A:Q1)(outer:List Env)(s:Shared)(H:Hp)(E:XK),Room k (A.deeper (envOfC qual (QU st) s.heap.objs.size f cdv)) ->
   ∃wd,QSs (cxOf CX0 P w K mg base N qual (QU st) f cdv A outer s H E).nox E0 (ZU st) wd/\∀args R EX,fD args R EX->wd (QhP fr R XF) (stD N args)):FnOk P w K mg base CX0 (k+1) f fd ps (ZN fr fD):=
 okD fr F S len λcdv A outer s H E hr=>let ⟨wd,h,q⟩:=hbody cdv A outer s H E hr;⟨wd,h.h,q⟩
theorem QCI{x qual:Str}{st:J7}{f:Addr}{fd:JQ}{N ps:List Str}{k:Nat}{fD:DF}(fr:Bool)(F:Fun K x qual st f fd)(S:Yb N ps (QU st))(len:∀args R EX,fD args R EX->args.length=ps.length)
  (hbody:∀(cdv:Value)(A:Q1)(outer:List Env)(s:Shared)(H:Hp)(E:XK),Room k (A.deeper (envOfC qual (QU st) s.heap.objs.size f cdv)) ->
   ∃wd,QSs (cxOf (Rx.CXE P w) P w K mg base N qual (QU st) f cdv A outer s H E) E (ZU st) wd/\∀args R EX,fD args R EX->wd (QhP fr R EX) (stD N args)):FnOk P w K mg base (Rx.CXE P w) (k+1) f fd ps (ZN fr fD):=
 QCJ fr F S len λcdv A outer s H E hr=>let ⟨wd,h,q⟩:=hbody cdv A outer s H E hr;⟨wd,h.h,q⟩
end
end Dl
namespace Rk
open L2 _root_.Rd Dl
def inW(d:Qb)(a b:Int):Bool:=match d with
 |.int i=>decide (a<=i)&&decide (i<=b)
 |_=>false
theorem Qp6{i a b:Int}(h1:a<=i)(h2:i<=b):inW (.int i) a b=true:=by
 show(decide (a<=i)&&decide (i<=b))=true;rw[decide_eq_true h1,decide_eq_true h2];rfl
theorem Qyx{d:Qb}{a b:Int}(h:inW d a b=true):∃i,d=.int i/\a<=i/\i<=b:=by
 cases d<;>first | (cases h;done) | skip
 rename_i i
 have h:=QP.mp (show(decide (a<=i)&&decide (i<=b))=true from h);exact⟨i,rfl,of_decide_eq_true h.1,of_decide_eq_true h.2⟩
def QeD:DF:=λargs R _=>∃d a b,args=[.v d,.v (.int a),.v (.int b)]/\R (.bool (inW d a b))
theorem QpQ(ns:List Int):nds (ns.map QJ)=true:=Qm0.mpr λd hd=>by
 obtain⟨i,_,rfl⟩:=Qw.mp hd;rfl
theorem Qrp(xs:List Qb)(k:Int)(h:0<=k):Dl.cutD xs none (some k)=xs.take k.toNat:=by
 unfold Dl.cutD;obtain⟨j,rfl⟩:∃j:Nat,k=j:=⟨k.toNat,by omega⟩
 rw[HT.Qjr,HT.QtC,Qwv,Nat.sub_zero,QB];by_cases z:j<=xs.length
 ·rw[Qwu z]
 ·rw[Nat.min_eq_right (by omega),YW,Qke (by omega)]
end Rk
namespace Rx
open PySem.Calls L2
section
variable{X:Cx}{e:QV}{st:J7}{rest:List J7}{pos:Pos}{te:TX}{t u:TSX}
theorem QtV(he:PEX X e te):PSX X (.Return (some e) pos) (λD σ H Ex=>te σ H D.rt Ex):=by
 intro pins s σ H D Ex I h;exact QgY (thn (he pins s σ H _ _ I h) λv s1 ⟨x,H1,I1,r1,q1⟩=>⟨x,σ,H1,I1,r1,q1⟩)
end
end Rx
namespace L2
open Dl
end L2
namespace Dl
open L2 _root_.Rd Rk
section
variable{X:Cx}
variable{k:Nat}{f:Addr}{fd:JQ}{ps:List Str}{x:Str}{p pos:Pos}{e:QV}{es:List QV}{fD:DF}{wa:DSl}
end
end Dl
namespace Rx
open PySem.Calls L2
def QwN(C:Addr)(m:Str)(sp:Sp)(ta:TE)(t:TA):TX:=λσ H Q Ex=>ta σ H λx H1=>∃a dx fs,x=.ref a/\H1 a=some (.ins C dx fs)/\fs.lookup m=none /\
 t σ H1 λvs H2=>sp (x::vs) H2 Q λcv _ H3=>∃D,cv=.ref D/\Ex D H3
section
variable{X:Cx}{k:Nat}{f C:Addr}{fd:JQ}{ps:List Str}{sp:Sp}{m:Str}{apos pos:Pos}{o e:QV}{es:List QV}{ta:TE}{t:TA}
theorem QAr{pins:List (Addr×Obj)}{σ:L2.St}{H1:Hp}{s1:Shared}{Q:VK}{Ex:Addr->Hp->Prop}{us:List Value}{vs:List V}(F:FnOk X.prog X.w X.K X.mg X.base (CXE X.prog X.w) k f fd ps sp)(hr:Room k X.A)(hb:Binds X.K fd ps [])(hex:X.ex=[])
  (I1:Inv X pins σ H1 s1)(r:Vals vs us)(q:sp vs H1 Q λcv _ H2=>∃C,cv=.ref C/\Ex C H2) :
  wpAny (model X.prog X.w) X.A (call (.ref f) us) (EP X pins σ Q) (XP X pins λσ1 C H1=>σ1=σ/\Ex C H1) s1:=by
 have hl:us.length=ps.length:=by rw[<- r.length];exact F.len _ _ _ _ q
 have hbb:Qfy s1 fd ⟨us,[]⟩ (ps.zip us):=by
  have z:=hb s1 us I1.kIn (by rw[Zn];exact hl);rw[Zn] at z;exact z
 refine Qel (Qay (F.run X.A X.stack s1 H1 ⟨us,[]⟩ us vs Q _ hr I1.env0 hbb r q) λr s2 hq=>?_);cases r with
 |error e=>
  obtain⟨C0,H2,⟨a,t',B,rfl,os,bare,fl,fa,fH,land⟩,C,eC,ex⟩:=hq;cases eC;refine⟨σ,C0,H2,a,t',B,rfl,fl,fH,?_,λp hp z=>?_,λh2 tk st up=>?_,rfl,ex⟩
  ·cases z:X.s₀.heap.get? a with
   |none=>rfl
   |some o=>
    obtain⟨o',e'⟩:=I1.base.there a o z (by rw[hex];simp);rw[fa] at e';cases e'
  ·have e':=(I1.pin p hp).1;rw[z,fa] at e';cases e'
  ·obtain⟨un,hok⟩:=land h2 st up;exact I1.call' (s':={ s2 with heap:=h2,toks:=tk }) (ch:=[]) os un hok bare (λb z=>absurd z (by simp))
 |ok fl=>
  cases fl with
  |ret u=>exact I1.after hq
  |next=>exact Jr hq
  |brk=>exact Jr hq
  |cont=>exact Jr hq
theorem Qo2{pl:Sem Bool}(he:PE X.nox o ta)(c:Cls X.K C)(hm:Meth X.K C m f)(F:FnOk X.prog X.w X.K X.mg X.base (CXE X.prog X.w) k f fd ps sp)(hr:Room k X.A)(hb:Binds X.K fd ps [])(hex:X.ex=[])(ha:PA X.nox (e::es) t)
  (hst:starEach (e::es) X.env=(false,eval e X.env)::starEach es X.env:=by rfl)(hpl:(backTo pos (starEach es X.env)).any (·.1)=false:=by rfl)
  (ht:eval (.Call (.Attribute o m apos) (e::es) [] pos) X.env=(do
   let ov <- eval o X.env
   standAt apos.atName
   let (f,first) <- holding [ov] (getMethod ov m pl)
   callWith pos f first (backTo pos (starEach (e::es) X.env)) (backToKw pos (keywordEach [] X.env))):=by rfl) :
  PEX X (.Call (.Attribute o m apos) (e::es) [] pos) (QwN C m sp ta t):=by
 intro pins s σ H Q Ex I h;refine PySem.W.methodCall_KW (pl:=pl) (wpAny_mono (he pins s σ H _ (I.wish _) h) (λu s1 ⟨x,H1,J1,rx,a,dx,fs,ex,ea,l,q⟩=>?_) λ_ _ z=>Jr z) ht;subst ex;obtain rfl:u=Jj a:=rx;have I1:Inv X pins σ H1 s1:=J1.unwish;refine QdR I1 ea c hm l ?_
 refine PySem.W.callWith_K (first:=[.ref a]) (h₀:=X.base) I.ok.mod.kin hm.kp (wpAny_mono (ha pos pins s1 σ H1 _ (I1.wish _) q) (λus s2 ⟨vs,H2,J2,r,q2⟩=>?_) λ_ _ z=>Jr z) hst hpl;have I2:Inv X pins σ H2 s2:=J2.unwish;exact⟨I2.kIn,QAr (us:=.ref a::us) (vs:=.ref a::vs) F hr hb hex I2 (.cons rfl r) q2⟩
end
end Rx
namespace Rk
theorem Qbn{n:Nat}(h:n<=1000000):n<sizeLine:=Jt h (by decide)
end Rk
namespace L2
def Its(x:Str):It:=⟨λi _=>i<x.cps.size,λi H v H'=>H'=H/\∃c,x.cps[i]? = some c/\v=.str ⟨#[c]⟩,λi _=>i=x.cps.size⟩
theorem Qha{prog:Qm}{w:QZ}{A:Q1}(hh:A.handled=none)(I:Addr)(x:Str)(t:Tok):Walks prog w A I [I] [I] x.cps.size (SignAt x) (λi h=>h.IsStrIter I (strIterType x) x t i):=by
 unfold strIterType;cases ha:x.cps.all (· < 128)
 ·simp only[Qaq,if_false];exact Walks.strWide hh I x t
 ·simp only[if_true];exact Walks.strAscii hh I x t
theorem QfC{prog:Qm}{w:QZ}{A:Q1}{E:Value->Shared->Prop}{s:Shared}{it:Addr}{x:Str}{t:Tok}{i:Nat}{Q:Value->Shared->Prop}(hit:s.heap.IsStrIter it (strIterType x) x t i)(h:Q (.ref it) s):wpAny (model prog w) A (pyIter (.ref it)) Q E s:=by
 unfold strIterType at hit;cases ha:x.cps.all (· < 128)
 ·rw[ha] at hit;exact wpAny_pyIter_striter_wide hit h
 ·rw[ha] at hit;exact wpAny_pyIter_striter_ascii hit h
theorem QiH(x:Str):["enumerate", "zip", "dict_itemiterator", "dict_reverseitemiterator", "odict_iterator", "itertools.zip_longest", "itertools.pairwise"].contains (strIterType x)=false:=by
 unfold strIterType;split<;>decide
theorem QoC{P:Qm}{w:QZ}{K:PySem.W.Frag}{tg:QV}(it:Addr)(x:Str)(t:Tok):Turn P w K tg (Its x) [it] it (λi h=>h.IsStrIter it (strIterType x) x t i) where
 mem:=by simp
 obj:=λi h st b hb=>by
  have e:b=it:=by simpa using hb
  subst e;obtain⟨o,e,c,d⟩:=st;exact⟨o,e,λv z=>by rw[d] at z;cases z⟩
 keep:=λi h h' st k=>by
  obtain⟨o,e,r⟩:=st;exact⟨o,k it (by simp) o e,r⟩
 item:=by
  intro X hP hw hK hc i pins s σ H E I hf st hg;subst hP hw hK;obtain⟨f0,f1,f2,f3,f4,f5⟩:=hf it (by simp);refine(Qha (I.ok.hd hc) it x t).item i s _ _ hg st λv h' tk hv st' kk=>?_
  obtain⟨c,u,hx,rfl⟩:=hv;have I1:Inv X pins σ H { s with heap:=h',toks:=tk }:=I.turned (λb o hb e=>kk b o (by simpa using hb) e) f0 f1 f3 f4 f5;obtain⟨o,e,cc,d⟩:=id st';exact⟨_,rfl,Qnp (s:={ s with heap:=h',toks:=tk }) e cc d (QiH x) ⟨.str ⟨#[c]⟩,H,I1,⟨u,rfl⟩,⟨rfl,c,hx,rfl⟩,st',λb hb=>(hf b hb).1⟩⟩
 done:=by
  intro X hP hw hK hc i pins s σ H E I hf st hg;subst hP hw hK;have hg:i=x.cps.size:=hg;subst hg;obtain⟨f0,f1,f2,f3,f4,f5⟩:=hf it (by simp);exact(Qha (I.ok.hd hc) it x t).done s _ _ st λh' tk kk=>⟨rfl,I.turned (λb o hb e=>kk b o (by simpa using hb) e) f0 f1 f3 f4 f5⟩
 self:=λ_ _ _ _ _ st h=>QfC st h
def QCO(tl:TE):TI:=λσ H R=>tl σ H λv H1=>∃x,v=.str x/\R (Its x) H1
section
variable{X:Cx}
theorem QxB{tg l:QV}{tl:TE}(hl:PE X l tl):PI X tg l (QCO tl):=by
 intro pins s σ H R I h;refine thn (hl pins s σ H _ I h) λv s1 ⟨x,H1,I1,r1,z,e,q⟩=>?_
 subst e;obtain⟨t,rfl⟩:=r1;refine wpAny_pyIter_strU ?_
 refine⟨s1.heap.objs.size,[s1.heap.objs.size],_,_,H1,rfl,I1.kept (t':=s1.toks) λb o e=>Qh _ e,QoC _ z t,⟨_,QD _ rfl,rfl,rfl⟩,λb hb=>?_,q⟩;have e:b=s1.heap.objs.size:=by simpa using hb
 subst e;exact I1.fpOk (Qf _) (I1.hok.fresh (Qf _))
theorem Qhb:∀(l:List (Str×Tok)),Vals ((l.map (·.1)).map V.str) (strValues l)
 |[]=>.nil
 |p::l=>.cons ⟨p.2,rfl⟩ (Qhb l)
theorem Qhi:∀{ts:List Str}{us:List Value},Vals (ts.map V.str) us->∃l:List (Str×Tok),us=strValues l/\l.map (·.1)=ts
 |[],_,.nil=>⟨[],rfl,rfl⟩
 |t::ts,_,.cons ⟨u,e⟩ r=>by
  obtain⟨l,rfl,rfl⟩:=Qhi r;subst e;exact⟨(t,u)::l,rfl,rfl⟩
theorem split_le(x y:Str):(Zy x y).length<=x.length+2:=by
 unfold Zy;split
 ·show 1<=_;omega
 ·split
  ·show 1<=_;omega
  ·rw[QgZ];have h1:=StrLaws.occ_length_le x y 0 x.length (x.length+1);have h2:∀(cuts:List Nat)(w a:Nat),(Qlf x w a cuts).length=cuts.length+1:=by
    intro cuts;induction cuts with
    |nil=>intro w a;rfl
    |cons c r ih=>intro w a;show(Qlf x w (c+w) r).length+1=_;rw[ih];rfl
   rw[h2];omega
def Qxe:V->List V->Hp->VK->Prop:=λx vs H Q=>∃z y,x=.str z/\vs=[.str y]/\(y.length == 0)=false/\z.length<=30000/\∀l H',Same H H'->H l=none->H' l=some (.lst ((Zy z y).map V.str))->Q (.ref l) H'
theorem Qdi:MtR X "str.split" Qxe:=by
 intro pins s σ H x vs v us Q I rx rv h;obtain⟨z,y,rfl,rfl,hy,hz,q⟩:=h;obtain⟨t,rfl⟩:=rx;obtain⟨u,rfl,ru⟩:=rv.one;obtain⟨t',rfl⟩:=ru;have hf:H s.heap.objs.size=none:=I.hok.fresh (Qf _);have hlen:=split_le z y;have fin:∀(l:List (Str×Tok))(tk:Nat),l.map (·.1)=Zy z y->EP X pins σ Q (.ref s.heap.objs.size) { s with heap:=s.heap.push { cls:=.type "list",data:=.seq (strValues l).toArray },toks:=tk }:=λl tk hl=>by
  refine⟨.ref s.heap.objs.size,upd H s.heap.objs.size (.lst ((Zy z y).map V.str)),I.laid (t':=tk) (λb u e=>Qh _ e) (Qf _) ⟨?_,strValues l,0,?_,QD _ rfl⟩,rfl,q _ _ (JK hf) hf upd_same⟩
  ·rw[Qc];exact Ji (Rk.Qbn (by omega))
  ·rw[<- hl];exact Qhb l
 have hzl:z.length<=sizeLine:=Ji (Rk.Qbn (by omega));cases h1:(decide (z.length<y.length)||decide (Qg7 z<Qg7 y))
 ·cases hf2:(ZY z y 0 z.length (z.length+1)).isEmpty
  ·have es:Zy z y=Qfo z (ZY z y 0 z.length (z.length+1)) y.length:=(if_neg (ne_true_of_eq_false h1)).trans (if_neg (ne_true_of_eq_false hf2));refine YT Qg6 (QcE _ _ _) Qf9 (Qfw _ _) (meets_str_split_sep z y t t' h1 hy hf2 hzl (by rw[<- es];exact Ji (Rk.Qbn (by omega)))) ?_
   show wants _ _ _ { s with toks:=_,heap:=s.heap.push { cls:=.type "list",data:=.seq (strsFrom s.toks (Qfo z (ZY z y 0 z.length (z.length+1)) y.length)).toArray } };rw[strsFrom_eq];exact fin (numbered s.toks _) _ ((numbered_texts _ _).trans es.symm)
  ·exact YT Qg6 (QcE _ _ _) Qf9 (Qfw _ _) (meets_str_split_not_found z y t t' h1 hy hf2)
    (fin [(z,t)] s.toks ((if_neg (ne_true_of_eq_false h1)).trans (if_pos hf2)).symm)
 ·exact YT Qg6 (QcE _ _ _) Qf9 (Qfw _ _) (meets_str_split_cannot_occur z y t t' h1)
   (fin [(z,t)] s.toks (if_pos h1).symm)
def Qxk(K:PySem.W.Frag):V->List V->Hp->VK->Prop:=λx vs H Q=>∃sep p ts,x=.str sep/\vs=[.ref p]/\SqL K H p ((ts:List Str).map V.str)/\JoinOk sep ts=true/\Q (.str (Qez sep ts)) H
theorem QbN:MtR X "str.join" (Qxk X.K):=by
 intro pins s σ H x vs v us Q I rx rv h;obtain⟨sep,p,ts,rfl,rfl,hp,hok,q⟩:=h;obtain⟨t,rfl⟩:=rx;obtain⟨u,rfl,ru⟩:=rv.one;cases ru;obtain⟨its,rv',pl,hz⟩:=I.list hp;obtain⟨l,rfl,hl⟩:=Qhi rv';exact SC.join pl.isList hl hok λt' k=>⟨.str (Qez sep ts),H,I.tok k,⟨t',rfl⟩,q⟩
def QCD(u:Nat):R2:=λx y H Q=>∃a b xs,x=.ref a/\y=.ref b/\H a=some (.lst xs)/\H b=some (.lst [])/\u<cLine/\Q (.bl (!xs.isEmpty)) H
theorem QmI:OpR X (compareOp .NotEq) (QCD X.A.units):=by
 intro pins s σ H x y v u Q I rx ry h;obtain⟨a,b,xs,rfl,rfl,ha,hb,hu,q⟩:=h;cases rx;cases ry;obtain⟨_,its,n,r1,e1⟩:=I.hok a _ ha;obtain⟨_,its2,n2,r2,e2⟩:=I.hok b _ hb;cases r2;have l1:s.heap.IsList a its.toArray:=⟨_,e1,rfl,_,rfl⟩;have l2:s.heap.IsList b #[]:=⟨_,e2,rfl,_,rfl⟩;cases r1 with
 |nil=>exact SeqAt.RcNeAt.lists (e:=λ_=>true) l1 l2 rfl hu (λj h1 h2=>absurd h2 (Qg1 j)) _ _ _ _ ⟨.bl _,H,I,rfl,q⟩
 |cons _ _=>exact SeqAt.RcNeAt.lists_lengths l1 l2 (by simp) hu _ _ _ _ ⟨.bl _,H,I,rfl,q⟩
end
section
variable{κ:Type}[DecidableEq κ]
def Qlu(kvs:List (κ×V))(k:κ):Option V:=(kvs.find? λkv=>decide (kv.1=k)).map (·.2)
def Qoi(kvs:List (κ×V))(k:κ)(v:V):List (κ×V):=
 if(kvs.any λkv=>decide (kv.1=k))=true then kvs.map (λkv=>if kv.1=k then(kv.1,v) else kv) else kvs++[(k,v)]
theorem Qep{p:κ×V}{r:List (κ×V)}{k:κ}(e:p.1=k):Qlu (p::r) k=some p.2:=by simp[Qlu,Qao,e]
theorem Qgd{p:κ×V}{r:List (κ×V)}{k:κ}(e:¬p.1=k):Qlu (p::r) k=Qlu r k:=by simp[Qlu,Qao,e]
theorem QiF(kvs:List (κ×V))(k:κ)(v:V):(Qoi kvs k v).length<=kvs.length+1:=by
 unfold Qoi;split
 ·rw[Qc];omega
 ·rw[Qj,Qu,Qwb];omega
theorem KV.val{kvs:List (κ×V)}{vs:List (κ×Value)}(r:KV kvs vs)(k:κ):RelO (Qlu kvs k) (valueAt vs k):=by
 unfold KV at r;induction r with
 |nil=>exact JF
 |@cons p q ps qs h t ih=>
  obtain⟨h1,h2⟩:=h;by_cases e:p.1=k
  ·have e':q.1=k:=h1.symm.trans e;have b:valueAt (q::qs) k=some q.2:=by simp[valueAt,Qao,e']
   rw[Qep e,b];exact h2
  ·have e':¬q.1=k:=λz=>e (h1.trans z)
   have b:valueAt (q::qs) k=valueAt qs k:=by simp[valueAt,Qao,e']
   rw[Qgd e,b];exact ih
theorem KV.any{kvs:List (κ×V)}{vs:List (κ×Value)}(r:KV kvs vs)(k:κ):(kvs.any λkv=>decide (kv.1=k))=vs.any λkv=>decide (kv.1=k):=by
 unfold KV at r;induction r with
 |nil=>rfl
 |cons h t ih=>rw[Qap,Qap,ih,h.1]
theorem KV.repl{kvs:List (κ×V)}{vs:List (κ×Value)}(r:KV kvs vs)(k:κ){y:V}{u:Value}(ry:RelV y u) :
  KV (kvs.map λkv=>if kv.1=k then(kv.1,y) else kv) (vs.map λkv=>if kv.1=k then(kv.1,u) else kv):=by
 unfold KV at r ⊢;induction r with
 |nil=>exact .nil
 |@cons p q ps qs h t ih=>
  rw[JB,JB];refine .cons ?_ ih
  obtain⟨h1,h2⟩:=h;by_cases e:p.1=k
  ·rw[if_pos e,if_pos (h1.symm.trans e)];exact⟨h1,ry⟩
  ·rw[if_neg e,if_neg (λz=>e (h1.trans z))];exact⟨h1,h2⟩
theorem KV.put{kvs:List (κ×V)}{vs:List (κ×Value)}(r:KV kvs vs)(k:κ){y:V}{u:Value}(ry:RelV y u):KV (Qoi kvs k y) (stored vs k u):=by
 unfold Qoi stored;rw[r.any k];by_cases e:(vs.any λkv=>decide (kv.1=k))=true
 ·rw[if_pos e,if_pos e];exact r.repl k ry
 ·rw[if_neg e,if_neg e];exact Paired.snoc r ⟨rfl,ry⟩
end
theorem Qvo{P:Qm}{w:QZ}{k:Key}{u:Value}(r:RelV (kV k) u):(mixKind P w).is k u=true:=by
 cases k with
 |inl i=>obtain⟨t,e⟩:=(show ∃t,u=Qag i t from r);subst e;exact QiE P w i t
 |inr x=>obtain⟨t,e⟩:=(show ∃t,u=Qf3 x t from r);subst e;exact QaZ P w x t
theorem QhK{P:Qm}{w:QZ}:∀{ks:List Key}{us:List Value},Vals (ks.map kV) us->ItemsAre (mixKind P w) ks us
 |[],_,r=>by rw[Qfu] at r;cases r;exact .nil
 |k::ks,_,r=>by
  rw[JB] at r;cases r with
  |cons h t=>exact .cons (Qvo h) (QhK t)
abbrev KT (H:Hp):List (List Key×V)->List (List Key×Addr×Value)->Prop:=Zw λp q=>p.1=q.1/\H q.2.1=some (.tup (p.1.map kV))/\RelV p.2 q.2.2
theorem KT.val{H:Hp}{kvs:List (List Key×V)}{xs:List (List Key×Addr×Value)}(r:KT H kvs xs)(k:List Key):RelO (Qlu kvs k) ((atKey xs k).map (·.2)):=by
 induction r with
 |nil=>exact JF
 |@cons p q ps qs h t ih=>
  obtain⟨h1,_,h2⟩:=h;by_cases e:p.1=k
  ·have e':q.1=k:=h1.symm.trans e;have b:atKey (q::qs) k=some q.2:=by simp[atKey,Qao,e']
   rw[Qep e,b];exact h2
  ·have e':¬q.1=k:=λz=>e (h1.trans z)
   have b:atKey (q::qs) k=atKey qs k:=by simp[atKey,Qao,e']
   rw[Qgd e,b];exact ih
section
variable{P:Qm}{w:QZ}{H:Hp}{h:JS}{a:Addr}
theorem Qxb{u:HO}(ok:HOk P w H h)(e:Rd H a u):ObjOk P w H h a u:=e.ok ok
theorem QvE{kvs:List (Key×V)}(ok:HOk P w H h)(e:Rd H a (.dK kvs)):kvs.length<=sizeLine/\(a == sysModules)=false/\∃vs,KV kvs vs/\h.DictOf (mixKind P w) a vs:=
 show ObjOk P w H h a (.dK kvs) from Qxb ok e
theorem QBf{kvs:List (Key×V)}(ok:HOk P w H h)(e:H a=some (.dK kvs)):kvs.length<=sizeLine/\(a == sysModules)=false/\∃vs,KV kvs vs/\h.DictOf (mixKind P w) a vs:=QvE ok (.inl e)
theorem Qns{ks:List Key}(ok:HOk P w H h)(e:H a=some (.tup (ks.map kV))):(tupleKind (mixKind P w)).is h ks a:=by
 obtain⟨_,its,r,o,h1,h2,_,n,h3⟩:=(show ObjOk P w H h a (.tup (ks.map kV)) from ok a _ e);exact⟨o,its.toArray,n,h1,h2,h3,by simpa using QhK r⟩
theorem QyE{kvs:List (List Key×V)}(ok:HOk P w H h)(e:Rd H a (.dT kvs)):kvs.length<=sizeLine/\(a == sysModules)=false /\
  ∃xs,KT H kvs xs/\h.DictOfH (tupleKind (mixKind P w)) a xs:=by
 obtain⟨z,y,xs,r,o,es,ep,h1,h2,h3,h4,h5⟩:=(show ObjOk P w H h a (.dT kvs) from Qxb ok e);refine⟨z,y,xs,r,o,es,ep,h1,h2,h3,h4,λx hx=>?_,h5⟩;have all:∀{l:List (List Key×V)}{m:List (List Key×Addr×Value)},KT H l m->∀x∈m,(tupleKind (mixKind P w)).is h x.1 x.2.1:=by
  intro l m q;induction q with
  |nil=>intro x hx;exact nomatch hx
  |@cons p q ps qs hq t ih=>
   intro x hx;rcases QM.mp hx with e | hx
   ·subst e;exact Qns ok (by rw[<- hq.1];exact hq.2.1)
   ·exact ih x hx
 exact all r x hx
end
def DGet(H:Hp)(a:Addr)(y:V)(r:Option V):Prop:=
 (∃kvs k,Rd H a (.dK kvs)/\y=kV k/\r=Qlu kvs k)∨∃kvs k b,Rd H a (.dT kvs)/\y=.ref b/\H b=some (.tup (k.map kV))/\r=Qlu kvs k
theorem DGet.k{H:Hp}{a:Addr}{kvs:List (Key×V)}{k:Key}(e:H a=some (.dK kvs)):DGet H a (kV k) (Qlu kvs k):=.inl ⟨kvs,k,.inl e,rfl,rfl⟩
section
variable{X:Cx}{pins:List (Addr×Obj)}{σ:St}{H:Hp}{s:Shared}{a:Addr}{y v:V}{u r:Value}{o:Option V}{A:Q1}{E:Value->Shared->Prop}
theorem Inv.big(I:Inv X pins σ H s):sysModules<s.heap.objs.size:=by
 have h:mainGlobals<s.heap.objs.size:=(I.mod.glob.keeps I.bk).lt;exact Nat.lt_trans (by decide) h
theorem QnE{Q:Value->Shared->Prop}(hu:A.units+1<cLine)(I:Inv X pins σ H s)(g:DGet H a y (some v))(ry:RelV y u)(h:∀w' s',Inv X pins σ H s'->RelV v w'->Q w' s') :
  wpAny (model X.prog X.w) A (getItem (.ref a) u) Q E s:=by
 rcases g with⟨kvs,k,e,ey,l⟩ | ⟨kvs,k,b,e,ey,eb,l⟩
 ·subst ey;obtain⟨z,hd,vs,rel,dd⟩:=QvE I.hok e;obtain⟨w',hw,rw'⟩:=RelO.some_of (v:=v) (o:=valueAt vs k) (by rw[l];exact rel.val k);exact wpAny_getItem_of (Qvo ry) dd.mapOf hw (h w' _ (I.tok _) rw')
 ·subst ey;cases(show u=Jj b from ry);obtain⟨z,hd,xs,rel,dd⟩:=QyE I.hok e;obtain⟨w',hw,rw'⟩:=RelO.some_of (v:=v) (o:=(atKey xs k).map (·.2)) (by rw[l];exact rel.val k);obtain⟨p,hp,hp2⟩:=JG.mp hw;refine wpAny_getItem_heap (tupleKind_room_in1 hu) (Qns I.hok eb) dd hp ?_
  rw[hp2];exact h w' _ (I.tok _) rw'
theorem QvH{h':JS}{t':Nat}{ob:HO}(I:Inv X pins σ H s)(mu:Mut (H a))(hs:QaN a s.heap h')(he:∃q,h'.get? a=some q)(new:ObjOk X.prog X.w (upd H a ob) h' a ob) :
  Inv X pins σ (upd H a ob) { s with heap:=h',toks:=t' }:=
 I.write (x:=a) (e:=a) mu (.inl rfl) (λb q hb z=>(hs.2 b hb).trans z) he new
theorem QyF{P:Qm}{w:QZ}{H':Hp}{h':JS}{kvs:List (Key×V)}{vs:List (Key×Value)}(z:kvs.length<=sizeLine)(hd:(a == sysModules)=false)(rel:KV kvs vs)(dd:h'.DictOf (mixKind P w) a vs) :
  ObjOk P w H' h' a (.dK kvs):=⟨z,hd,vs,rel,dd⟩
end
section
variable{X:Cx}{pins:List (Addr×Obj)}{σ:St}{H:Hp}{s:Shared}{a:Addr}{kvs:List (Key×V)}{k:Key}{u:Value}{A:Q1}{E:Value->Shared->Prop}
end
def QBz(i:QV):Prop:=∀ov iv,subscripted i false ov iv=operate [ov,iv] (getItem ov iv)
theorem QlK{prog:Qm}{w:QZ}{A:Q1}{E:Value->Shared->Prop}{s:Shared}{env:Env}{value slice:QV}{pos:Pos}{T id:String}{Q:Value->Shared->Prop}
  (hl:typeLookup (.type T) "__getitem__" = pure (some (.builtin id)))(hs:QBz slice)
  (h:wpAny (model prog w) A (eval value env) (λo s₁=>wpAny (model prog w) A (eval slice env) (λi s₂=>s₂.TypeIs o T/\wpAny (model prog w) A (getItem o i) Q E s₂) E s₁) E s) :
  wpAny (model prog w) A (eval (.Subscript value slice pos) env) Q E s:=by
 refine QzU (wpAny_mono h (λo s₁ h₁=>wpAny_mono h₁ (λi s₂ h₂=>?_) λ_ _ x=>x) λ_ _ x=>x);obtain⟨hT,h₂⟩:=h₂;unfold subscriptTail;refine wpAny_bind ?_
 rw[getitemInPython_of_ne hT.not_modules];refine wpAny_bind (wpAny_specialOf hT hl ?_);have fin:wpAny (model prog w) A (subscripted slice false o i) (λr s₃=>wpAny (model prog w) A (letTemporaryGo value o r >>= λ_=>pure r) Q E s₃) E s₂:=by
  rw[hs o i];exact wpAny_operating (wpAny_mono h₂ (λr s₃ h₃=>wpAny_bind (wpAny_letTemporaryGo (Qo h₃))) λ_ _ x=>x)
 first
  |exact Qo (wpAny_bind fin)
  |exact wpAny_bind (Qo (wpAny_bind fin))
  |exact wpAny_bind fin
theorem QiK{X:Cx}{pins:List (Addr×Obj)}{σ:St}{H:Hp}{s:Shared}{a:Addr}{y:V}{o:Option V}(I:Inv X pins σ H s)(g:DGet H a y o):s.TypeIs (.ref a) "dict" := by
 rcases g with⟨kvs,k,e,_,_⟩ | ⟨kvs,k,b,e,_,_,_⟩
 ·obtain⟨_,_,vs,_,dd⟩:=QvE I.hok e;exact dd.typeIs
 ·obtain⟨_,_,xs,_,dd⟩:=QyE I.hok e;exact dd.typeIs
def QwQ(td ty:TE):TE:=λσ H Q=>td σ H λx H1=>ty σ H1 λy H2=>∃a v,x=.ref a/\DGet H2 a y (some v)/\Q v H2
section
variable{X:Cx}{o i e value:QV}{pos pos' tpos:Pos}{td ty tv:TE}
theorem Qt4(hu:X.A.units+1<cLine)(ho:PE X o td)(hi:PE X i ty)(hs:QBz i):PE X (.Subscript o i pos) (QwQ td ty):=by
 intro pins s σ H Q I h;refine QlK PySem.F.slot_dict_getitem.lookup hs (thn (ho pins s σ H _ I h) λu s1 ⟨x,H1,I1,rx,q1⟩=>thn (hi pins s1 σ H1 _ I1 q1) λiv s2 ⟨y,H2,I2,ry,a,v,ex,g,q2⟩=>?_);subst ex;obtain rfl:u=Jj a:=rx;exact⟨QiK I2 g,QnE hu I2 g ry λw' s3 I3 rw'=>⟨v,H2,I3,rw',q2⟩⟩
end
theorem Qrk{P:Qm}{w:QZ}{H:Hp}(h:JS)(hb:sysModules<h.objs.size):ObjOk P w H (h.push { cls:=.type "dict",data:=.dict #[] }) h.objs.size (.dK []):=
 ⟨Jn _,beq_eq_false_iff_ne.mpr (Qb1 (Q2 hb)),[],.nil,Qkh h⟩
section
variable{X:Cx}{pos:Pos}
end
def QlF:List (TE×TE)->St->Hp->(List (V×V)->Hp->Prop)->Prop
 |[],_,H,Q=>Q [] H
 |(tk,tv)::r,σ,H,Q=>tk σ H λx H1=>tv σ H1 λy H2=>QlF r σ H2 λps H3=>Q ((x,y)::ps) H3
abbrev VV:List (V×V)->List (Value×Value)->Prop:=Zw λp q=>RelV p.1 q.1/\RelV p.2 q.2
def PPs(X:Cx)(pos:Pos)(keys:List (Option QV))(values:List QV)(trs:List (TE×TE)):Prop:=
 ∀(pins:List (Addr×Obj))(s:Shared)(σ:St)(H:Hp)(Q:List (V×V)->Hp->Prop),Inv X pins σ H s->QlF trs σ H Q ->
  wpAny (model X.prog X.w) X.A (evalPairs (pairTrees keys values X.env pos)) (λvs s'=>∃ps H',Inv X pins σ H' s'/\VV ps vs/\Q ps H') X.xe s
theorem QtY{X:Cx}{pos:Pos}:PPs X pos [] [] []:=λpins s σ H Q I h=>pairTrees_nil_walk ⟨[],H,I,.nil,h⟩
theorem QjA{X:Cx}{pos:Pos}{k v:QV}{ks:List (Option QV)}{vs:List QV}{tk tv:TE}{trs:List (TE×TE)}(hk:PE X k tk)(hv:PE X v tv)(hr:PPs X pos ks vs trs) :
  PPs X pos (some k::ks) (v::vs) ((tk,tv)::trs):=λpins s σ H Q I h=>
 pairTrees_cons_walk (thn (hk pins s σ H _ I h) λu s1 ⟨x,H1,I1,rx,q1⟩=>thn (hv pins s1 σ H1 _ I1 q1) λw2 s2 ⟨y,H2,I2,ry,q2⟩=>
  thn (hr pins s2 σ H2 _ I2 q2) λws s3 ⟨ps,H3,I3,rel,q3⟩=>⟨(x,y)::ps,H3,I3,.cons ⟨rx,ry⟩ rel,q3⟩)
def QfV(kvs more:List (Key×V)):List (Key×V):=more.foldl (λacc kv=>Qoi acc kv.1 kv.2) kvs
theorem KV.merge:∀{more:List (Key×V)}{rs:List (Key×Value)}{kvs:List (Key×V)}{vs:List (Key×Value)},KV more rs->KV kvs vs->KV (QfV kvs more) (merged vs rs):=by
 intro more rs kvs vs r;unfold KV at r;induction r generalizing kvs vs with
 |nil=>intro q;exact q
 |@cons p q ps qs h t ih=>
  intro r0;have e:KV (Qoi kvs p.1 p.2) (stored vs q.1 q.2):=by
   have:=r0.put p.1 h.2;rw[<- h.1];exact this
  exact ih e
theorem Qdn:∀(more kvs:List (Key×V)),(QfV kvs more).length<=kvs.length+more.length
 |[],kvs=>by show kvs.length<=kvs.length+0;omega
 |p::r,kvs=>by
  have h1:=Qdn r (Qoi kvs p.1 p.2);have h2:=QiF kvs p.1 p.2;show(QfV (Qoi kvs p.1 p.2) r).length<=_;rw[Qu];omega
theorem Qf1{P:Qm}{w:QZ}:∀{kvs:List (Key×V)}{ws:List (Value×Value)},VV (kvs.map λkv=>(kV kv.1,kv.2)) ws->∃rs,Carries (mixKind P w) ws rs/\KV kvs rs
 |[],_,r=>by rw[Qfu] at r;cases r;exact⟨[],JF,.nil⟩
 |p::kvs,_,r=>by
  rw[JB] at r;cases r with
  |@cons a b as bs h t=>
   obtain⟨rs,c,q⟩:=Qf1 (P:=P) (w:=w) t;obtain⟨b1,b2⟩:=b;exact⟨(p.1,b2)::rs,⟨Qvo h.1,rfl,c⟩,.cons ⟨rfl,h.2⟩ q⟩
def QwP(trs:List (TE×TE)):TE:=λσ H Q=>∀p,H p=none->QlF trs σ (upd H p (.dK [])) λps H2=>H2 p=some (.dK [])/\∃kvs:List (Key×V),ps=kvs.map (λkv=>(kV kv.1,kv.2))/\kvs.length<=15/\Q (.ref p) (upd H2 p (.dK (QfV [] kvs)))
theorem Qt3{X:Cx}{pos:Pos}{keys:List (Option QV)}{values:List QV}{trs:List (TE×TE)}(h:PPs X pos keys values trs)(hall:keys.all (·.isSome)=true)(hl:keys.length=values.length)(h0:keys≠[])
  (h15:keys.length<=15):PE X (.Dict keys values pos) (QwP trs):=by
 intro pins s σ H Q I q;have hn:=I.hok.fresh (Qf s.heap.objs.size);have I1:=I.laid (a:=s.heap.objs.size) (o:=.dK []) (h':=s.heap.push { cls:=.type "dict",data:=.dict #[] }) (t':=s.toks) (λ_ _ q=>Qh _ q) (Qf _) (Qrk s.heap I.big);refine wpAny_Dict_walk (knd:=mixKind X.prog X.w) hall hl h0 h15 (thn (h pins _ σ _ _ I1 (q _ hn)) λws s2 ⟨ps,H2,I2,rel,e,kvs,ep,lk,q2⟩=>?_);subst ep;obtain⟨rs,c,rk⟩:=Qf1 (P:=X.prog) (w:=X.w) rel;obtain⟨z,hd,vs0,r0,dd⟩:=QBf I2.hok e;cases r0;refine⟨rs,c,dd,λh' dd' hs=>⟨.ref s.heap.objs.size,_,?_,rfl,q2⟩⟩;have hz:(QfV [] kvs).length<=sizeLine:=by
  have h1:=Qdn kvs [];rw[Qwb] at h1;rw[Z7];omega
 have he:∃q,h'.get? s.heap.objs.size=some q:=let ⟨q,_,_,hq,_⟩:=dd';⟨q,hq⟩
 exact QvH I2 (by rw[e];exact JF) hs he (QyF hz hd (rk.merge .nil) dd')
section
variable{X:Cx}{pins:List (Addr×Obj)}{σ:St}{H:Hp}{s:Shared}{a:Addr}{y d:V}{u r:Value}{o:Option V}{A:Q1}{E:Value->Shared->Prop}
end
section
variable{X:Cx}{o e f:QV}{apos cpos:Pos}{td ty tx:TE}
end
section
variable{X:Cx}{pins:List (Addr×Obj)}{σ:St}{H:Hp}{s:Shared}{a:Addr}{kvs:List (Key×V)}{A:Q1}{E:Value->Shared->Prop}
end
section
variable{X:Cx}{pins:List (Addr×Obj)}{σ:St}{H:Hp}{s:Shared}{a:Addr}{y:V}{u:Value}{A:Q1}{E:Value->Shared->Prop}
end
end L2
namespace L2
open PySem.Calls
structure BD (P:Qm) (w:QZ) (K:PySem.W.Frag) (d:Addr) (vs:List (Key×Value)):Prop where
 dct:∀h:JS,K.In h->h.DictOf (mixKind P w) d vs
 nsys:(d == sysModules)=false
section
variable{X:Cx}
def QCF(P:Qm)(w:QZ)(K:PySem.W.Frag)(neg:Bool):R2:=λx y H Q=>∃z d vs,x=.str z/\y=.ref d/\BD P w K d vs/\Q (.bl (if neg then !(valueAt vs (Js z)).isSome else(valueAt vs (Js z)).isSome)) H
theorem Qsq:OpR X (compareOp .In) (QCF X.prog X.w X.K false):=by
 intro pins s σ H x y v u Q I rx ry h;obtain⟨z,d,vs,rfl,rfl,b,q⟩:=h;obtain⟨t,rfl⟩:=rx;cases(show u=Jj d from ry);exact wpAny_in_of (QaZ X.prog X.w z t) b.nsys (b.dct _ I.kIn).mapOf ⟨.bl _,H,I.tok _,rfl,q⟩
def QAn(P:Qm)(w:QZ)(K:PySem.W.Frag)(td ty:TE):TE:=λσ H Q=>td σ H λx H1=>ty σ H1 λy H2=>∃d z vs f,x=.ref d/\y=.str z/\BD P w K d vs/\valueAt vs (Js z)=some (.ref f)/\Q (.ref f) H2
theorem Qmu{o i:QV}{pos:Pos}{td ty:TE}(ho:PE X o td)(hi:PE X i ty)(hs:QBz i):PE X (.Subscript o i pos) (QAn X.prog X.w X.K td ty):=by
 intro pins s σ H Q I h;refine QlK PySem.F.slot_dict_getitem.lookup hs (thn (ho pins s σ H _ I h) λu s1 ⟨x,H1,I1,rx,q1⟩=>thn (hi pins s1 σ H1 _ I1 q1) λiv s2 ⟨y,H2,I2,ry,d,z,vs,f,ex,ey,b,hf,q2⟩=>?_);subst ex;subst ey;obtain rfl:u=Jj d:=rx;obtain⟨t,rfl⟩:=ry;exact⟨(b.dct _ I2.kIn).typeIs,wpAny_getItem_of (QaZ X.prog X.w z t) (b.dct _ I2.kIn).mapOf hf ⟨.ref f,H2,I2.tok _,rfl,q2⟩⟩
def QCW(X:Cx)(f:Addr)(sp:Sp):Prop:=∃k fd ps,FnOk X.prog X.w X.K X.mg X.base (Rx.CXE X.prog X.w) k f fd ps sp/\Room k X.A/\PySem.W.keepIn X.K (.ref f)=true/\Binds X.K fd ps []
def QwR(M:Addr->Sp->Prop)(i:Nat)(E:XK)(t:TA):TE:=λσ H Q=>∃f sp,σ[i]? = some (some (.ref f))/\M f sp/\t σ H λvs H1=>sp vs H1 Q E
theorem QjE{M:Addr->Sp->Prop}{i:Nat}{E:XK}{x:Str}{p pos:Pos}{e:QV}{es:List QV}{t:TA}(hM:∀f sp,M f sp->QCW X f sp)(hv:PE X (.Name x p) (Qbq i))(hx:Y8 (Rx.CXE X.prog X.w) X E)(ha:PA X (e::es) t)
  (he:starEach (e::es) X.env=(false,eval e X.env)::starEach es X.env:=by rfl)(hpl:(backTo pos (starEach es X.env)).any (·.1)=false:=by rfl):PE X (.Call (.Name x p) (e::es) [] pos) (QwR M i E t):=by
 intro pins s σ H Q I h;obtain⟨f,sp,hi,mf,h⟩:=h;obtain⟨k,fd,ps,F,hr,hk,hb⟩:=hM f sp mf;refine Z1 (thn (hv pins s σ H (λv H1=>v=.ref f/\t σ H1 λvs H1=>sp vs H1 Q E) I ⟨_,hi,rfl,h⟩) λv s1 ⟨y,H1,I1,r1,ey,q1⟩=>?_);subst ey;cases(show v=Jj f from r1);refine PySem.W.callWith_K (h₀:=X.base) I.ok.mod.kin hk (thn (ha pos pins s1 σ H1 _ I1 q1) λus s2 ⟨vs,H2,I2,r,q⟩=>⟨I2.kIn,?_⟩) he hpl;exact Qjs F hr hb .nil hx I2 r (by rw[Zn];exact q)
theorem Qbl:CallR X (.type "int") (λxs H Q=>∃z n,xs=[.str z]/\PySem.intText? z=some n/\z.length<=640/\Q (.int n) H):=by
 intro pins s σ H xs us Q I r h;obtain⟨z,n,rfl,hz,hl,q⟩:=h;obtain⟨u,rfl,t,rfl⟩:=vals1 r;exact PySem.W.KIN.call_text hz hl ⟨.int n,H,I.tok _,⟨_,rfl⟩,q⟩
def tF2(c:Str)(ta tb:TE):TE:=λσ H Q=>ta σ H λx H1=>∃i:Int,x=.int i/\i.natAbs.log2<1920/\(Qe (toString i)).length+c.length<=1000/\tb σ H1 λy H2=>∃k:Int,y=.int k/\k.natAbs.log2<1920/\(Qe (toString k)).length<=1000/\Q (.str (Qc2++Qe (toString i)++c++Qe (toString k))) H2
theorem QAC{a b:QV}{ta tb:TE}{c:Str}{j}{p1 pc p2 pos:Pos}(ha:PE X a ta)(hb:PE X b tb):PE X (.JoinedStr [.FormattedValue a (-1) none p1,.Constant (.str c) j pc,.FormattedValue b (-1) none p2] pos) (tF2 c ta tb):=by
 intro pins s σ H Q I h;refine JoinedStr_many (Qlc (Qwd (thn (ha pins s σ H _ I h) λu s1 ⟨x,H1,I1,rx,i,ex,hi,hli,q1⟩=>?_)));subst ex;obtain⟨t,rfl⟩:=rx;refine Qs7 hi ?_
 have I2:=I1.tok (s1.toks+1+1);have z0:Qc2.length=0:=rfl;have ll:∀x y:Str,(x++y).length=x.length+y.length:=λx y=>by
  show(x++y).cps.size=_;rw[QdW,Qoy];rfl
 refine⟨by rw[ll,z0];exact Ji (Rk.Qbn (by omega)),Qlc (Qoh ⟨?_,Qlc (Qwd (thn (hb pins _ σ H1 _ (I2.tok _) q1) λu s2 ⟨y,H2,I3,ry,k,ey,hk,hl,q2⟩=>?_))⟩)⟩
 ·rw[ll,ll,z0];exact Ji (Rk.Qbn (by omega))
 subst ey;obtain⟨t',rfl⟩:=ry;refine Qs7 hk ⟨?_,joinParts_nil ⟨.str _,H2,(I3.tok _).tok _,⟨_,rfl⟩,q2⟩ ?_⟩
 all_goals (rw[ll,ll,ll,z0];exact Ji (Rk.Qbn (by omega)))
end
def Qwj(P:Params):List (Str×Tok×Addr)->List Qki
 |[]=>[]
 |p::r=>⟨PyData.keyHash P p.1,.str p.1 p.2.1,.ref p.2.2⟩::Qwj P r
def QzD(zs:List (Str×Tok×Addr)):List (Key×Value):=zs.map λp=>(Js p.1,.ref p.2.2)
theorem QjW{P:Qm}{w:QZ}:∀(zs:List (Str×Tok×Addr))(e:Qki),e∈Qwj w.params zs->∃k,(mixKind P w).is k e.key=true/\e.hash=(mixKind P w).hash k
 |[],_,h=>nomatch h
 |p::r,e,h=>by
  rcases QM.mp h with rfl | h
  ·exact⟨Js p.1,QaZ P w p.1 p.2.1,rfl⟩
  ·exact QjW r e h
theorem QfY{P:Qm}{w:QZ}:∀zs:List (Str×Tok×Addr),Pairs (mixKind P w) (Qwj w.params zs) (QzD zs)
 |[]=>.nil
 |p::r=>.cons (QaZ P w p.1 p.2.1) rfl (QfY r)
theorem Qy7{P:Qm}{w:QZ}{K:PySem.W.Frag}{d:Addr}{n:Nat}(zs:List (Str×Tok×Addr))(h:K.lookup d=some ⟨.type "dict",none,.dict (Qwj w.params zs).toArray n,#[]⟩)(nd:(zs.map (·.1)).Nodup)(ns:(d == sysModules)=false):BD P w K d (QzD zs):=
 ⟨λhp X=>⟨_,_,_,X _ _ h,⟨rfl,rfl,rfl⟩,rfl,λe he=>QjW zs e (ZO.mp he),QfY zs,by
  have e:(QzD zs).map (·.1)=(zs.map (·.1)).map Js:=by
   unfold QzD;rw[Q8,Q8];rfl
  rw[e];exact Qg3 _ (λa b h z=>h (Qj9 z)) nd⟩,ns⟩
end L2
namespace Rx
open PySem.Calls L2
def QwK(ta:TE)(tb:TX):TX:=λσ H Q Ex=>ta σ H λx H1=>tb σ H1 (λy H2=>∀t H',Same H2 H'->H2 t=none->H' t=some (.tup [x,y])->Q (.ref t) H') Ex
theorem Qo1{X:Cx}{a b:QV}{x1}{pos:Pos}{ta:TE}{tb:TX}(ha:PE X.nox a ta)(hb:PEX X b tb)(h1:starEach [a,b] X.env=(false,eval a X.env)::starEach [b] X.env:=by rfl)(h2:starEach [b] X.env=(false,eval b X.env)::starEach [] X.env:=by rfl) :
  PEX X (.Tuple [a,b] x1 pos) (QwK ta tb):=by
 intro pins s σ H Q Ex I h;refine Qwn ?_
 rw[h1];show wpAny _ _ (spliced ((false,eval a X.env)::backTo pos (starEach [b] X.env))) _ _ s;refine QbI (wpAny_mono (ha pins s σ H _ (I.wish _) h) (λu s1 ⟨x,H1,J1,r1,q1⟩=>?_) λ_ _ z=>Jr z);have I1:Inv X pins σ H1 s1:=J1.unwish;rw[h2];show wpAny _ _ (spliced ((false,eval b X.env)::backTo pos (starEach [] X.env))) _ _ s1;refine QbI (wpAny_mono (hb pins s1 σ H1 _ _ I1 q1) (λv s2 ⟨y,H2,I2,r2,q2⟩=>?_) λ_ _ z=>z);refine QeB ⟨?_,?_⟩
 ·show 2<=sizeLine;rw[Z7];decide
 have hf:H2 s2.heap.objs.size=none:=I2.hok.fresh (Qf _);refine⟨.ref s2.heap.objs.size,upd H2 s2.heap.objs.size (.tup [x,y]),I2.laid (t':=s2.toks) (λb u e=>Qh _ e) (Qf _) ?_,rfl,q2 _ _ (JK hf) hf upd_same⟩;exact⟨by show 2<=sizeLine;rw[Z7];decide,[u,v],.cons r1 (.cons r2 .nil),⟨_,QD _ rfl,rfl,rfl,_,rfl⟩⟩
end Rx
namespace Dz
section
variable{prog:Qm}{w:QZ}{A:Q1}{E:Value->Shared->Prop}{s:Shared}
structure Raw (h:JS) (d:Addr) (es:Array Qki) (ep:Nat):Prop where
 at_:∃o,h.get? d=some o/\o.ExactDict/\o.data=.dict es ep
theorem Raw.ty{d:Addr}{es:Array Qki}{ep:Nat}(x:Raw s.heap d es ep):s.TypeIs (.ref d) "dict" := by
 obtain⟨o,e,c,_⟩:=x.at_;exact⟨o,e,c.1⟩
end
end Dz
namespace L2
open Dz
section
variable{X:Cx}
end
end L2
namespace Dz
section
variable{prog:Qm}{w:QZ}{A:Q1}{E:Value->Shared->Prop}{s:Shared}
end
end Dz
namespace L2
open Dz
section
variable{X:Cx}
end
end L2
namespace Rk
end Rk
namespace Rt
section
variable{c:Qbz->Qbz->Bool}
end
structure SB (κ:Qcg) (a₀:Array Qbz) (st:SortSt):Prop where
 perm:(arrOf st).Perm a₀
 kind:kindOf st=κ
 failed:failedOf st=none
theorem SB.size{κ:Qcg}{a₀:Array Qbz}{st:SortSt}(h:SB κ a₀ st):(arrOf st).size=a₀.size:=h.perm.size_eq
section
variable{prog:Qm}{w:QZ}{A:Q1}{E:Value->Shared->Prop}{s:Shared}{a₀:Array Qbz}{κ:Qcg}{c:Qbz->Qbz->Bool}
end
section
variable{c:Qbz->Qbz->Bool}
variable{a b r:Array Qbz}{i j k:Nat}
end
structure Sm (st st':SortSt):Prop where
 kind:kindOf st'=kindOf st
 arr:arrOf st'=arrOf st
 pend:pendingOf st'=pendingOf st
 failed:failedOf st'=failedOf st
section
variable{prog:Qm}{w:QZ}{A:Q1}{E:Value->Shared->Prop}{s:Shared}{a₀:Array Qbz}{κ:Qcg}{c:Qbz->Qbz->Bool}
end
section
variable{c:Qbz->Qbz->Bool}
variable{a b r:Array Qbz}{i j t:Nat}
end
section
variable{prog:Qm}{w:QZ}{A:Q1}{E:Value->Shared->Prop}{s:Shared}{a₀:Array Qbz}{κ:Qcg}{c:Qbz->Qbz->Bool}
end
section
variable{c:Qbz->Qbz->Bool}
end
section
variable{prog:Qm}{w:QZ}{A:Q1}{E:Value->Shared->Prop}{s:Shared}{a₀:Array Qbz}{κ:Qcg}{c:Qbz->Qbz->Bool}
def Qzm:List (Nat×Nat)->Nat->Nat->Prop
 |[],s,e=>s=e
 |(s',n)::r,s,e=>s'=s/\1<=n/\Qzm r (s+n) e
end
end Rt
namespace Dl
open L2 _root_.Rd Rk
structure GOk (wg:DG):Prop where h:∀d δ Q,wg d δ Q->wg d δ λδ'=>(∀(j:Nat) x,δ'[j]? = some x->(∃e,x=.v e)∨δ[j]? = some x)/\Q δ'
theorem Qp9(i:Nat):GOk (gN i):=⟨λd δ Q h=>⟨λj x e=>by
 by_cases z:j=i
 ·subst z;exact .inl ⟨d,set_eq e⟩
 ·rw[QaG z] at e;exact .inr e,h⟩⟩
theorem Qnq{cap:List (Option Nat)}{ix:List Nat}(hf:QcN cap ix=true){i:Nat}(hi:i∈ix):cap[i]? = some none:=by
 have:=JA.mp hf i hi;split at this
 ·assumption
 ·cases this
theorem Qew{cap:List (Option Nat)}{ix:List Nat}(hf:QcN cap ix=true){δ:Sts}{i:Nat}{x:Sl}(h:(Qex cap δ)[i]? = some x)(hx:x≠.no):i∉ix:=λz=>by
 rcases QgP h with⟨_,e⟩ | ⟨j,hj,_⟩
 ·exact hx e
 ·rw[Qnq hf z] at hj;cases hj
section
variable{K:PySem.W.Frag}{σ σ4:L2.St}{δ δ4:Sts}{cap:List (Option Nat)}{ix:List Nat}{A1:Addr->Prop}{H3 H5 H6:Hp}
theorem QsH(hP:∀a,Yh σ δ a->A1 a)(hf:QcN cap ix=true)(j4:∀j,j∉ix->σ4[j]? = (QdU cap σ)[j]?)(gk:∀(j:Nat) x,δ4[j]? = some x->(∃e,x=.v e)∨(Qex cap δ)[j]? = some x){a:Addr}(h:Av (inF A1 cap σ δ H3) σ4 δ4 a):A1 a:=by
 rcases h with z | ⟨i,h1,h2⟩
 ·exact z
 ·refine(QjS (cap:=cap) (H:=H3) hP).mp ?_
  rcases h2 with h2 | ⟨ds,h2⟩
  ·rcases gk i _ h2 with⟨e,z⟩ | z
   ·cases z
   ·exact .inr ⟨i,by rw[<- j4 i (Qew hf z (λz=>by cases z))];exact h1,.inl z⟩
  ·rcases gk i _ h2 with⟨e,z⟩ | z
   ·cases z
   ·exact .inr ⟨i,by rw[<- j4 i (Qew hf z (λz=>by cases z))];exact h1,.inr ⟨ds,z⟩⟩
theorem Qvs(hP:∀a,Yh σ δ a->A1 a)(hf:QcN cap ix=true)(j4:∀j,j∉ix->σ4[j]? = (QdU cap σ)[j]?)(gk:∀(j:Nat) x,δ4[j]? = some x->(∃e,x=.v e)∨(Qex cap δ)[j]? = some x)
  (ri:Rel K (inF A1 cap σ δ H6) (QdU cap σ) H6 (Qex cap δ))(r5:Rel K (inF A1 cap σ δ H3) σ4 H5 δ4)(kk:∀a o,¬A1 a->H5 a=some o->H6 a=some o):Rel K (inF A1 cap σ δ H6) σ4 H6 δ4 where
 len:=r5.len
 dom:=ri.dom
 dom0:=ri.dom0
 pt0:=ri.pt0
 kx:=ri.kx
 sl:=λi o x h1 h2=>by
  have iv:∀{a:Addr},Av (inF A1 cap σ δ H6) σ4 δ4 a->A1 a:=λ{a} z=>QsH hP hf j4 gk z
  rcases gk i x h2 with⟨d,rfl⟩ | hx
  ·obtain⟨v,e,q⟩:=r5.sl i o _ h1 h2;exact⟨v,e,q.mv (λa o n e=>kk a o (λz=>n (.inl z)) e) λa z=>.inl (.inl (iv z))⟩
  ·by_cases hn:x=.no
   ·subst hn;trivial
   ·have h1':(QdU cap σ)[i]? = some o:=by rw[<- j4 i (Qew hf hx hn)];exact h1
    have h:=ri.sl i o x h1' hx;cases x with
    |no=>trivial
    |v d=>obtain⟨v',e,q'⟩:=h;exact⟨v',e,q'.mv (λ_ _ _ e=>e) λa z=>.inl (.inl (iv z))⟩
    |own ds=>obtain⟨l,xs,e,e2,q',f⟩:=h;exact⟨l,xs,e,e2,q'.mv (λ_ _ _ e=>e) λa z=>.inl (.inl (iv z)),f⟩
    |pk ds=>obtain⟨l,xs,e,e2,q',f⟩:=h;exact⟨l,xs,e,e2,q'.mv (λ_ _ _ e=>e) λa z=>.inl (.inl (iv z)),f⟩
    |pot=>exact h
    |scr=>exact h
 inj:=λi j a ds h1 h2 _=>by
  rcases gk i _ h1 with⟨e,z⟩ | z
  ·cases z
  ·rcases QgP z with⟨_,e⟩ | ⟨j,hj,e⟩
   ·cases e
   ·exfalso
    cases e2:δ[j]? with
    |none=>rw[e2] at e;cases e
    |some y=>rw[e2] at e;cases y<;>cases e
end
theorem QoD{K:PySem.W.Frag}{F:Fm}{σ:L2.St}{δ:Sts}{H1 H3:Hp}{cap:List (Option Nat)}{ix:List Nat}{wg:DG}{wt:DT}{A1:Addr->Prop}{x:V}{d:Qb}{inner:L2.St->Hp->(Hp->Prop)->Prop}{kk:Hp->Prop}{T:Sts->Prop}{N:Prop}(gok:GOk wg)
  (hf:QcN cap ix=true)(rel:Rel K F σ H1 δ)(hA:∀a,Av F σ δ a->A1 a)(hN:∀a,A1 a->Av F σ δ a∨H1 a=none)(dm:∀a,A1 a->∃xs,H3 a=some (.lst xs))(kp:Kp σ δ H1 H3)(dx:DA A1 H3 x d)
  (h:wg d (Qex cap δ) λδ4=>wt δ4 (λb=>if b=true then T δ4 else N) XF)
  (hT:∀σ4 δ4 H5,T δ4->Rel K (inF A1 cap σ δ H3) σ4 H5 δ4->Kp σ δ H3 H5->(∀j,j∉ix->σ4[j]? = (QdU cap σ)[j]?)->σ4.length=(QdU cap σ).length->(∀(j:Nat) x,δ4[j]? = some x->(∃e,x=.v e)∨(Qex cap δ)[j]? = some x)->inner σ4 H5 kk)(hF:N->∀H5,Kp σ δ H3 H5->kk H5) :
  bOf (QdU cap σ) (tG ix K wg) (tT K E0 wt) inner x H3 kk:=by
 have ri:=Qnj (cap:=cap) rel hA hN dm kp;have iv:∀{a:Addr},Av (inF A1 cap σ δ H3) (QdU cap σ) (Qex cap δ) a->A1 a:=λ{a}=>(QjS λa z=>hA a (Qaf z)).mp
 refine⟨inF A1 cap σ δ H3,Qex cap δ,d,_,ri,dx.mv (λ_ _ _ e=>e) λa z=>.inl (iv z),gok.h _ _ _ h,λδ4 ⟨g4,h4⟩ σ4 r4 st4 l4 j4=>⟨QsY hf l4 j4,inF A1 cap σ δ H3,δ4,_,XF,r4,h4,λb hb H5 r5 kp5=>?_,Quw⟩⟩;have pots:∀{b:Addr},Yh σ4 δ4 b->Yh σ δ b:=λz=>QiJ r4 (λb o _ e1 e2=>by rw[e2] at e1;cases e1) z
 have K5:Kp σ δ H3 H5:=by
  refine⟨λb o n e=>kp5.1 b o (λz=>n (pots z)) e,λb hb=>?_⟩;by_cases z:Yh σ4 δ4 b
  ·exact kp5.2 b z
  ·obtain⟨n,e⟩:=kp.2 b hb;exact⟨n,kp5.1 _ _ z e⟩
 exact QcC hb (λz=>hT σ4 δ4 H5 z r5 K5 j4 l4 g4) λz=>hF z H5 K5
theorem QvB{K:PySem.W.Frag}{σ σ4:L2.St}{δ δ4:Sts}{H1 H3 H5:Hp}{cap:List (Option Nat)}{we:DE}{A1:Addr->Prop}{p:Addr}{acc:List Qb}{kk:Hp->Prop}{G:Qb->Prop}
  (hpA:A1 p)(hP:∀a,Yh σ δ a->A1 a)(hp1:H1 p=none)(hpn:¬Yh σ δ p)(lp:Lp σ δ A1 p H1 H5 acc)(hl:acc.length<sizeLine)(r5:Rel K (inF A1 cap σ δ H3) σ4 H5 δ4)(pots:∀b,Yh σ4 δ4 b->Yh σ δ b)
  (h:we δ4 G XF)(hk:∀e,G e->∀H',Lp σ δ A1 p H1 H' (acc++[e])->(∀b o,¬A1 b->H5 b=some o->H' b=some o)->kk H'):Qwl p (tX .D K E0 we) σ4 H5 kk:=by
 refine⟨inF A1 cap σ δ H3,δ4,G,XF,r5,h,λe he v H6 r6 kp6 dv=>?_,Quw⟩;have k56:Kp σ δ H5 H6:=by
  refine⟨λb o n e=>kp6.1 b o (λz=>n (pots b z)) e,λb hb=>?_⟩;by_cases z:Yh σ4 δ4 b
  ·exact kp6.2 b z
  ·obtain⟨n,e⟩:=lp.kp.2 b hb;exact⟨n,kp6.1 _ _ z e⟩
 obtain⟨k6,ys,e6,q6⟩:=lp.step hP hpn k56;have up:∀{b:Addr}{o:HO},¬A1 b->H6 b=some o->upd H6 p (.lst (ys++[v])) b=some o:=λ{b o} n e=>by rw[QK (λz=>n (by rw[z];exact hpA))];exact e
 refine⟨ys,e6,by rw[q6.length];exact hl,hk e he _ ⟨⟨λb o n e=>?_,λb hb=>?_⟩,ys++[v],upd_same,DAs.app (q6.mv (λ_ _=>up) λa z=>.inl z) (.cons (DA.mv dv (λa o n e=>up (λz=>n (.inl z)) e) λa z=>.inl (.inl z)) .nil)⟩ λb o n e=>up n (kp6.1 b o (λz=>n (hP b (pots b z))) e)⟩
 ·rw[QK (λz=>by rw[z,hp1] at e;cases e)];exact k6.1 b o n e
 ·rw[QK (λz=>hpn (by rw[<- z];exact hb))];exact k6.2 b hb
def Qvi:Nat:=1000000
@[irreducible] def InR(items2:List Qb)(wg2:DG)(wt2:DT)(we:DE)(δ4:Sts)(acc:List Qb)(N:List Qb->Prop):Prop:=∃Jv:Nat->List Qb->Prop,Jv 0 acc /\
 (∀(j:Nat) acc2 d2,items2[j]? = some d2->Jv j acc2->acc2.length<Qvi/\wg2 d2 δ4 λδ5=>wt2 δ5 (λb=>if b=true then we δ5 (λe=>Jv (j+1) (acc2++[e])) XF else Jv (j+1) acc2) XF)/\∀acc2,Jv items2.length acc2->N acc2
@[irreducible] def Qj7(items:List Qb)(wg:DG)(wt:DT)(wi2:DI)(wg2:DG)(wt2:DT)(we:DE)(δ:Sts)(Q:Qb->Prop):Prop:=∃Iv:Nat->List Qb->Prop,Iv 0 [] /\
 (∀(i:Nat) acc d,items[i]? = some d->Iv i acc->wg d δ λδ4=>wt δ4 (λb=>if b=true then wi2 δ4 (λitems2=>InR items2 wg2 wt2 we δ4 acc (Iv (i+1))) XF else Iv (i+1) acc) XF)/\∀acc,Iv items.length acc->Q (.list acc)
def QsX(cap:List (Option Nat))(wi:DI)(wg:DG)(wt:DT)(wi2:DI)(wg2:DG)(wt2:DT)(we:DE):DE:=λδ Q EX=>wi δ (λitems=>Qj7 items wg wt wi2 wg2 wt2 we (Qex cap δ) Q) EX
section
variable{X:Cx}{E:XK}
theorem Qp0:Qvi<=sizeLine:=Qt (by decide) QhJ
end
theorem QA0{items2:List Qb}{wg2:DG}{wt2:DT}{we:DE}{δ4:Sts}{acc:List Qb}{N:List Qb->Prop}(G:Qb->Option Qb)(hl:acc.length+items2.length<Qvi)
  (h:∀d∈items2,∀(k1:Prop)(k2:Qb->Prop),(G d=none->k1)->(∀e,G d=some e->k2 e)->wg2 d δ4 λδ5=>wt2 δ5 (λb=>if b=true then we δ5 k2 XF else k1) XF)(q:N (acc++items2.filterMap G)) :
  InR items2 wg2 wt2 we δ4 acc N:=by
 unfold InR;refine⟨λi acc2=>acc2=acc++(items2.take i).filterMap G,by simp,λi acc2 d hd e=>?_,λacc2 e=>by rw[e,YW];exact q⟩;have e:acc2=acc++(items2.take i).filterMap G:=e;have hs:(items2.take (i+1)).filterMap G=(items2.take i).filterMap G++(G d).toList:=by
  rw[QaF,hd,QcW];cases e2:G d<;>simp[e2]
 refine⟨?_,h d (J4 hd) _ _ (λe2=>?_) λe' e2=>?_⟩
 ·have:=Qii G (items2.take i);have h2:(items2.take i).length<=items2.length:=by rw[YY];exact Qf7 _ _
  rw[e,Qj];omega
 ·show acc2=acc++(items2.take (i+1)).filterMap G;rw[hs,e2,e];simp
 ·show acc2++[e']=acc++(items2.take (i+1)).filterMap G;rw[hs,e2,e];simp
section
open Rs PySem.W PySem.Calls
variable{X:Cx}
end
end Dl
namespace PySem
namespace AutoSeq1
open PyProof
end AutoSeq1
end PySem
namespace L2
end L2
namespace Dl
open L2 _root_.Rd Rk
section
variable{X:Cx}{E:XK}
theorem QnI{K:PySem.W.Frag}{E:XK}{cap:List (Option Nat)}{ix:List Nat}{wi:DI}{wg:DG}{wt:DT}{we:DE}(hf:QcN cap ix=true)(σ:L2.St)(H:Hp)(Q:VK)(h:tX .F K E (dComp cap wi wg wt we) σ H Q) :
  tComp cap (tI .P K E wi) (tG ix K wg) (tT K E0 wt) (tX .D K E0 we) σ H Q:=by
 obtain⟨F,δ,R,EX,rel,hw,k,o⟩:=h;refine⟨F,δ,_,EX,rel,hw,λitems hC J H1 rel1 kp1 ⟨ln,it⟩ p hp=>?_,o⟩;unfold QiY at hC;obtain⟨Iv,i0,step,fin⟩:=hC;have hpn:¬Yh σ δ p:=λz=>by obtain⟨xs,e⟩:=rel1.isl (Qaf (F:=F) z);rw[hp] at e;cases e
 let A1:Addr->Prop:=λa=>Av F σ δ a∨a=p
 have hP:∀a,Yh σ δ a->A1 a:=λa z=>.inl (Qaf z)
 have hN:∀a,A1 a->Av F σ δ a∨H1 a=none:=λa z=>z.elim .inl λz=>.inr (by rw[z];exact hp)
 have dmK:∀{H2:Hp},Kp σ δ H1 H2->(∃ys,H2 p=some (.lst ys))->∀a,A1 a->∃xs,H2 a=some (.lst xs):=λ{H2} k2 e2 a z=>by
  rcases z with z | z
  ·exact(rel1.kp k2).isl z
  ·rw[z];exact e2
 refine QeY items.length (λi H2=>i<=items.length/\∃acc,Iv i acc/\acc.length<=i/\Lp σ δ A1 p H1 H2 acc) ⟨Jn _,[],i0,Qf _,Kp.same rel1 (JK hp),[],upd_same,.nil⟩ (λi H2 hi ⟨_,acc,iv,hl,lp⟩=>?_) λH2 ⟨_,acc,iv,hl,lp⟩=>?_
 ·obtain⟨k2,ys,e2,q2⟩:=lp;obtain⟨go,_⟩:=it H2 A1 (λb o n e=>k2.1 b o n e) hN (dmK k2 ⟨ys,e2⟩);have hd:items[i]? = some items[i]:=Qd hi;obtain⟨g1,g2⟩:=go i _ hd;refine⟨g1,λx H3 y kk hk=>?_⟩;obtain⟨s3,dx⟩:=g2 x H3 y;have k23:=Kp.same (rel1.kp k2) s3;have lp3:Lp σ δ A1 p H1 H3 acc:=Lp.step hP hpn ⟨k2,ys,e2,q2⟩ k23;refine Qlx hf rel1 (λa z=>.inl z) hN (dmK lp3.kp ⟨ys,s3 _ _ e2⟩) lp3.kp dx (step i acc _ hd iv) (λσ4 δ4 H5 h5 r5 k5 pots=>?_) λh5 H5 k5=>hk _ ⟨hi,acc,h5,by omega,lp3.step hP hpn k5⟩
  exact QsN (.inr rfl) hP hp hpn (lp3.step hP hpn k5) (by omega) r5 pots h5 λe he H' lp'=>hk _ ⟨hi,acc++[e],he,by rw[Qj];show _+1<=_;omega,lp'⟩
 ·obtain⟨k2,ys,e2,q2⟩:=lp;obtain⟨_,st⟩:=it H2 A1 (λb o n e=>k2.1 b o n e) hN (dmK k2 ⟨ys,e2⟩);refine⟨st,k _ (fin acc iv) (.ref p) H2 (rel1.kp k2) (kp1.trans k2) ⟨.lst (λz=>?_) e2 (q2.mv (λ_ _ _ e=>e) λa z=>.inl (.inl z)),λl e1 _=>?_⟩⟩
  ·obtain⟨xs,e⟩:=rel1.isl z;rw[hp] at e;cases e
  ·cases e1;exact QcL kp1 hp
theorem QB2{K:PySem.W.Frag}{E:XK}{w:DE}(σ:L2.St)(H:Hp)(Q:VK)(h:tX .D K E w σ H Q):tX .F K E w σ H Q:=by
 obtain⟨F,δ,R,EX,rel,hw,k,o⟩:=h;exact⟨F,δ,R,EX,rel,hw,λd hd v H' r kp vk=>k d hd v H' r kp vk.1,o⟩
theorem QtQ(M:List Str)(cap:List (Option Nat))(i:Nat){elt tg iter:QV}{ifs:List QV}{scope:Qai}{pos py spos:Pos}{y:Str}{ix:List Nat}{wi:DI}{wg:DG}{wt:DT}{we:DE}(hN:X.N.Nodup)(hi:QI .P X E tg iter wi)(hb:∀cl ex s3 H3 C,QG ix (blk X M scope cl ex s3 H3 C) tg wg/\QTs (blk X M scope cl ex s3 H3 C) E0 ifs wt/\QE .D (blk X M scope cl ex s3 H3 C) E0 elt we)(hiy:X.N[i]? = some y:=by rfl)(hly:X.env.scope.names.lookup y=some .local:=by rfl)(hc:X.calm=true:=by rfl)(ok:QgO X.N X.env.scope M scope cap=true:=by rfl)(hf:QcN cap ix=true:=by rfl)(hs:∀x,foldedSetIterable iter X.env x=pure x:=by intro _;rfl)(hsw:swapsWith (.ListComp elt [⟨tg,iter,ifs,0⟩] scope pos) (some (.Name y py)) spos.line X.env=pure true:=by rfl):QS X E (.Assign [.Name y py] (.ListComp elt [⟨tg,iter,ifs,0⟩] scope pos) spos) (QzE i (dComp cap wi wg wt we)):=
 ⟨Qiw (PS.imp (PS.imp (Qjy hN hiy hly hc ok hi.h (λcl ex s3 H3 C=>⟨(hb cl ex s3 H3 C).1.h,(hb cl ex s3 H3 C).2.1.h,(hb cl ex s3 H3 C).2.2.h⟩) hs hsw) λD σ H q=>QnI (E:=E) hf σ H _ q) λD σ H q=>QB2 σ H _ q)⟩
theorem QkU{K:PySem.W.Frag}{E:XK}{cap:List (Option Nat)}{ix ix2:List Nat}{wi wi2:DI}{wg wg2:DG}{wt wt2:DT}{we:DE}(gok:GOk wg)(hf:QcN cap ix=true)(hf2:QcN cap ix2=true)(hd:ix2.all (λi => !ix.contains i)=true)(σ:L2.St)(H:Hp)(Q:VK)(h:tX .F K E (QsX cap wi wg wt wi2 wg2 wt2 we) σ H Q) :
  QrT cap (tI .P K E wi) (tG ix K wg) (tT K E0 wt) (tI .D K E0 wi2) (tG ix2 K wg2) (tT K E0 wt2) (tX .D K E0 we) σ H Q:=by
 obtain⟨F,δ,R,EX,rel,hw,k,o⟩:=h;refine⟨F,δ,_,EX,rel,hw,λitems hC J H1 rel1 kp1 ⟨ln,it⟩ p hp=>?_,o⟩;unfold Qj7 at hC;obtain⟨Iv,i0,step,fin⟩:=hC;have hpn:¬Yh σ δ p:=λz=>by obtain⟨xs,e⟩:=rel1.isl (Qaf (F:=F) z);rw[hp] at e;cases e
 let A1:Addr->Prop:=λa=>Av F σ δ a∨a=p
 have hP:∀a,Yh σ δ a->A1 a:=λa z=>.inl (Qaf z)
 have hN:∀a,A1 a->Av F σ δ a∨H1 a=none:=λa z=>z.elim .inl λz=>.inr (by rw[z];exact hp)
 have dmK:∀{H2:Hp},Kp σ δ H1 H2->(∃ys,H2 p=some (.lst ys))->∀a,A1 a->∃xs,H2 a=some (.lst xs):=λ{H2} k2 e2 a z=>by
  rcases z with z | z
  ·exact(rel1.kp k2).isl z
  ·rw[z];exact e2
 refine QeY items.length (λi H2=>i<=items.length/\∃acc,Iv i acc/\Lp σ δ A1 p H1 H2 acc) ⟨Jn _,[],i0,Kp.same rel1 (JK hp),[],upd_same,.nil⟩ (λi H2 hi ⟨_,acc,iv,lp⟩=>?_) λH2 ⟨_,acc,iv,lp⟩=>?_
 ·obtain⟨k2,ys,e2,q2⟩:=lp;obtain⟨go,_⟩:=it H2 A1 (λb o n e=>k2.1 b o n e) hN (dmK k2 ⟨ys,e2⟩);have hd':items[i]? = some items[i]:=Qd hi;obtain⟨g1,g2⟩:=go i _ hd';refine⟨g1,λx H3 y kk hk=>?_⟩;obtain⟨s3,dx⟩:=g2 x H3 y;have k23:=Kp.same (rel1.kp k2) s3;have lp3:Lp σ δ A1 p H1 H3 acc:=Lp.step hP hpn ⟨k2,ys,e2,q2⟩ k23;refine QoD gok hf rel1 (λa z=>.inl z) hN (dmK lp3.kp ⟨ys,s3 _ _ e2⟩) lp3.kp dx (step i acc _ hd' iv) (λσ4 δ4 H5 h5 r5 k5 j4 l4 g4=>?_) λh5 H5 k5=>hk _ ⟨hi,acc,h5,lp3.step hP hpn k5⟩
  have av4:∀{H:Hp}{a:Addr},Av (inF A1 cap σ δ H) σ4 δ4 a->A1 a:=λ{H a} z=>QsH hP hf j4 g4 z
  refine⟨inF A1 cap σ δ H3,δ4,_,XF,r5,h5,λitems2 hJ J2 H7 rel7 kp7 ⟨ln2,it2⟩=>?_,Quw⟩;unfold InR at hJ;obtain⟨Jv,z0,step2,fin2⟩:=hJ;have pots4:∀{b:Addr},Yh σ4 δ4 b->Yh σ δ b:=λ{b} z=>by
   obtain⟨j,z1,z2⟩:=z;rcases g4 j _ z2 with⟨e,z⟩ | z
   ·cases z
   ·exact QcP ⟨j,by rw[<- j4 j (Qew hf z (λz=>by cases z))];exact z1,z⟩
  have k57:Kp σ δ H5 H7:=by
   refine⟨λb o n e=>kp7.1 b o (λz=>n (pots4 z)) e,λb hb=>?_⟩;by_cases z:Yh σ4 δ4 b
   ·exact kp7.2 b z
   ·obtain⟨n,e⟩:=k5.2 b hb;exact⟨n,kp7.1 _ _ z e⟩
  refine QeY items2.length (λj H8=>j<=items2.length/\∃acc2,Jv j acc2/\Lp σ δ A1 p H1 H8 acc2/\∀b o,¬A1 b->H7 b=some o->H8 b=some o) ⟨Jn _,acc,z0,(lp3.step hP hpn k5).step hP hpn k57,λ_ _ _ e=>e⟩ (λj H8 hj ⟨_,acc2,jv,lp8,s78⟩=>?_) λH8 ⟨_,acc2,jv,lp8,s78⟩=>?_
  ·obtain⟨ys8,e8,q8⟩:=lp8.at_;obtain⟨go2,_⟩:=it2 H8 A1 (λb o n e=>s78 b o (λz=>n (.inl z)) e) (λb z=>.inl (.inl z)) (dmK lp8.kp ⟨ys8,e8⟩);have hd2:items2[j]? = some items2[j]:=Qd hj;obtain⟨g3,g5⟩:=go2 j _ hd2;refine⟨g3,λx2 H9 y2 kk2 hk2=>?_⟩;obtain⟨s9,dx2⟩:=g5 x2 H9 y2;have k89:=Kp.same (rel1.kp lp8.kp) s9;have lp9:Lp σ δ A1 p H1 H9 acc2:=lp8.step hP hpn k89;have ri:=Qnj (cap:=cap) rel1 (λa z=>.inl z) hN (dmK lp9.kp ⟨ys8,s9 _ _ e8⟩) lp9.kp;have r9:=Qvs hP hf j4 g4 ri r5 λa o n e=>s9 _ _ (s78 a o n (k57.1 a o (λz=>n (hP a z)) e))
   obtain⟨hl2,hw2⟩:=step2 j acc2 _ hd2 jv;refine⟨inF A1 cap σ δ H9,δ4,_,_,r9,dx2.mv (λ_ _ _ e=>e) λa z=>.inl (av4 z),hw2,λδ5 h6 σ5 r10 st5 l5 j5=>⟨QoA l5 λi v e=>?_,inF A1 cap σ δ H9,δ5,_,XF,r10,h6,λb hb H10 r11 kp11=>?_,Quw⟩⟩
   ·by_cases z:i∈ix2
    ·have n1:i∉ix:=λz2=>by
      have:=JA.mp hd i z;simp[z2] at this
     rw[j4 i n1] at e;rcases QgN e with⟨_,e2⟩ | ⟨j,hj2,_⟩
     ·cases e2
     ·rw[Qnq hf2 z] at hj2;cases hj2
    ·rw[j5 i z];exact e
   ·have pots:∀{b:Addr},Yh σ5 δ5 b->Yh σ δ b:=λz=>QiJ r10 (λb o _ e1 e2=>by rw[e2] at e1;cases e1) z
    have K10:Kp σ δ H9 H10:=by
     refine⟨λb o n e=>kp11.1 b o (λz=>n (pots z)) e,λb hb=>?_⟩;by_cases z:Yh σ5 δ5 b
     ·exact kp11.2 b z
     ·obtain⟨n,e⟩:=lp9.kp.2 b hb;exact⟨n,kp11.1 _ _ z e⟩
    have s710:∀b o,¬A1 b->H7 b=some o->H10 b=some o:=λb o n e=>K10.1 b o (λz=>n (hP b z)) (s9 _ _ (s78 b o n e))
    refine QcC hb (λz=>?_) λz=>hk2 _ ⟨hj,acc2,z,lp9.step hP hpn K10,s710⟩
    exact QvB (.inr rfl) hP hp hpn (lp9.step hP hpn K10) (QR hl2 Qp0) r11 (λb=>pots) z λe he H' lp' kk'=>hk2 _ ⟨hj,acc2++[e],he,lp',λb o n e=>kk' b o n (s710 b o n e)⟩
  ·obtain⟨ys8,e8,q8⟩:=lp8.at_;obtain⟨_,st2⟩:=it2 H8 A1 (λb o n e=>s78 b o (λz=>n (.inl z)) e) (λb z=>.inl (.inl z)) (dmK lp8.kp ⟨ys8,e8⟩);exact⟨st2,hk _ ⟨hi,acc2,fin2 acc2 jv,lp8⟩⟩
 ·obtain⟨k2,ys,e2,q2⟩:=lp;obtain⟨_,st⟩:=it H2 A1 (λb o n e=>k2.1 b o n e) hN (dmK k2 ⟨ys,e2⟩);refine⟨st,k _ (fin acc iv) (.ref p) H2 (rel1.kp k2) (kp1.trans k2) ⟨.lst (λz=>?_) e2 (q2.mv (λ_ _ _ e=>e) λa z=>.inl (.inl z)),λl e1 _=>?_⟩⟩
  ·obtain⟨xs,e⟩:=rel1.isl z;rw[hp] at e;cases e
  ·cases e1;exact QcL kp1 hp
theorem QoV(M:List Str)(cap:List (Option Nat))(i:Nat){elt tg iter tg2 iter2:QV}{ifs ifs2:List QV}{scope:Qai}{pos py spos:Pos}{y:Str}{ix ix2:List Nat}{wi wi2:DI}{wg wg2:DG}{wt wt2:DT}{we:DE}(hN:X.N.Nodup)(gok:GOk wg)(hi:QI .P X E tg iter wi)(hb:∀cl ex s3 H3 C,QG ix (blk X M scope cl ex s3 H3 C) tg wg/\QTs (blk X M scope cl ex s3 H3 C) E0 ifs wt/\QI .D (blk X M scope cl ex s3 H3 C) E0 tg2 iter2 wi2/\QG ix2 (blk X M scope cl ex s3 H3 C) tg2 wg2/\QTs (blk X M scope cl ex s3 H3 C) E0 ifs2 wt2/\QE .D (blk X M scope cl ex s3 H3 C) E0 elt we)(hiy:X.N[i]? = some y:=by rfl)(hly:X.env.scope.names.lookup y=some .local:=by rfl)(hc:X.calm=true:=by rfl)(ok:QgO X.N X.env.scope M scope cap=true:=by rfl)(hf:QcN cap ix=true:=by rfl)(hf2:QcN cap ix2=true:=by rfl)(hd:ix2.all (λi => !ix.contains i)=true:=by rfl)(hs:∀x,foldedSetIterable iter X.env x=pure x:=by intro _;rfl)(hs2:∀env x,foldedSetIterable iter2 env x=pure x:=by intro _ _;rfl)(hsw:swapsWith (.ListComp elt [⟨tg,iter,ifs,0⟩,⟨tg2,iter2,ifs2,0⟩] scope pos) (some (.Name y py)) spos.line X.env=pure true:=by rfl):QS X E (.Assign [.Name y py] (.ListComp elt [⟨tg,iter,ifs,0⟩,⟨tg2,iter2,ifs2,0⟩] scope pos) spos) (QzE i (QsX cap wi wg wt wi2 wg2 wt2 we)):=
 ⟨Qiw (PS.imp (PS.imp (Qmp hN hiy hly hc ok hi.h (λcl ex s3 H3 C=>⟨(hb cl ex s3 H3 C).1.h,(hb cl ex s3 H3 C).2.1.h,(hb cl ex s3 H3 C).2.2.1.h,(hb cl ex s3 H3 C).2.2.2.1.h,(hb cl ex s3 H3 C).2.2.2.2.1.h,(hb cl ex s3 H3 C).2.2.2.2.2.h⟩) hs hs2 hsw) λD σ H q=>QkU (E:=E) gok hf hf2 hd σ H _ q) λD σ H q=>QB2 σ H _ q)⟩
end
theorem Qhz{A:Addr->Prop}{H:Hp}(dm:∀a,A a->∃xs,H a=some (.lst xs)):∀(M:List (Int×Int))(ys:List V),Dats H ys (M.map Rk.pairD)->DAs A H ys (M.map Rk.pairD)
 |[],ys,h=>by cases h;exact .nil
 |m::M,ys,h=>by
  cases h with
  |@cons x xs _ _ h1 h2=>
   refine .cons ?_ (Qhz dm M xs h2)
   cases h1 with
   |@tup a zs _ e q=>
    refine .tup (λz=>?_) e ?_
    ·obtain⟨xs,e'⟩:=dm a z;rw[e] at e';cases e'
    ·cases q with
     |cons a b=>
      cases a;cases b with
      |cons a b=>cases a;cases b;exact .cons (.int _) (.cons (.int _) .nil)
theorem ZK(L:List (Int×Int)):nds (L.map Rk.pairD)=true:=Qm0.mpr λd hd=>by
 obtain⟨i,_,rfl⟩:=Qw.mp hd;rfl
@[irreducible] def sortPD:List Qb->(Qb->Prop)->Prop
 |[.list ds],Q=>∃L:List (Int×Int),ds=L.map Rk.pairD/\L.Nodup/\L.length<64/\(∀ij∈L,0<=ij.2/\ij.2<64)/\∀M:List (Int×Int),M.Perm L->M.Pairwise (λa b=>Rs.code a<Rs.code b)->Q (.list (M.map Rk.pairD))
 |_,_=>False
theorem cd_sortP:Qcv Qma sortPD:=λA P H vs ds R Q ln dm q h k=>by
 unfold sortPD at h;split at h
 ·obtain⟨v,rfl,hv⟩:=pd1 q;obtain⟨L,rfl,nd',h64,hb,hR⟩:=h;obtain⟨l,xs,rfl,e,qq⟩:=hv.list;refine⟨l,xs,L,rfl,e,QaL _ _ (ZK L) qq,nd',h64,hb,λt ys M H2 s n e2 dts pm pw=>?_⟩;have dm2:∀a,A a->∃xs,H2 a=some (.lst xs):=λa z=>by obtain⟨xs,e⟩:=dm a z;exact⟨xs,s _ _ e⟩
  refine k _ (hR M pm pw) _ H2 s (.lst (λz=>?_) e2 (Qhz dm2 M ys dts)) (QbO n);obtain⟨xs,e⟩:=dm t z;rw[n] at e;cases e
 ·exact h.elim
theorem sortP_of{L:List (Int×Int)}{Q:Qb->Prop}(h1:L.Nodup)(h2:L.length<64)(h3:∀ij∈L,0<=ij.2/\ij.2<64)(k:∀M:List (Int×Int),M.Perm L->M.Pairwise (λa b=>Rs.code a<Rs.code b)->Q (.list (M.map Rk.pairD))):sortPD [.list (L.map Rk.pairD)] Q:=by
 unfold sortPD;exact⟨L,rfl,h1,h2,h3,k⟩
def rkD:Qb->Nat
 |.int _=>0
 |.tuple _=>1
 |_=>2
def QCT(i j:Int):Ordering:=if i<j then .lt else if i=j then .eq else .gt
def QCS(i j:Nat):Ordering:=if i<j then .lt else if i=j then .eq else .gt
def thn(o:Ordering)(p:Ordering):Ordering:=match o with
 |.eq=>p
 |o=>o
mutual
def QCe:Qb->Qb->Ordering
 |.int i,.int j=>QCT i j
 |.tuple a,.tuple b=>QyZ a b
 |x,y=>QCS (rkD x) (rkD y)
def QyZ:List Qb->List Qb->Ordering
 |[],[]=>.eq
 |[],_::_=>.lt
 |_::_,[]=>.gt
 |x::xs,y::ys=>thn (QCe x y) (QyZ xs ys)
end
def isL:Ordering->Bool
 |.lt=>true
 |_=>false
def ltD(x y:Qb):Bool:=isL (QCe x y)
end Dl
namespace Rt
open PySem.Calls Dl
section
open PySem.SeqAt
open PySem.AutoSeq1 (wpAny_loadPart')
open PySem.MeetsSeq PySem.MeetsSeq2 PySem.MeetsSeq3
end
end Rt
namespace Rt
open PySem.Calls PySem.W Dl
section
variable{prog:Qm}{w:QZ}{A:Q1}{E:Value->Shared->Prop}{s:Shared}
end
section
variable{M:Qlm}{A:Q1}{E:Value->Shared->Prop}{s:Shared}
end
section
variable{prog:Qm}{w:QZ}{A:Q1}{E:Value->Shared->Prop}{s:Shared}
end
end Rt
namespace Rt
open PySem.Calls PySem.W Dl Rs
section
variable{prog:Qm}{w:QZ}{A:Q1}{E:Value->Shared->Prop}{s:Shared}
end
end Rt
namespace L2
open PySem.Calls _root_.Rd _root_.Rk _root_.Rs Rt Dl
section
variable{X:Cx}
end
end L2
namespace Dl
open L2 _root_.Rd Rk Rt
end Dl
namespace L2
open PySem.Calls _root_.Rd _root_.Rk Rt
section
variable{X:Cx}
theorem Ql5(bs:List Bool):((QN bs.length).any λi=>(bs[i]?).getD false)=bs.any id:=by
 rw[JD,Qa1,Qa1];constructor
 ·rintro⟨i,hi,h⟩;have hl:=JM.mp hi;rw[Qd hl] at h;exact⟨bs[i],Jz hl,h⟩
 ·rintro⟨b,hb,h⟩;obtain⟨i,hi⟩:=Zm.mp hb;exact⟨i,JM.mpr (Q6.mp hi).1,by rw[hi];exact h⟩
theorem Qru:CallR X (.builtin "any") (λxs H Q=>∃(p:Addr)(bs:List Bool),xs=[.ref p]/\SqL X.K H p (bs.map V.bl)/\X.calm=true/\Q (.bl (bs.any id)) H):=by
 intro pins s σ H xs us Q I r h;obtain⟨p,bs,rfl,hp,hc,q⟩:=h;obtain⟨u,rfl,ru⟩:=vals1 r;cases ru;obtain⟨its,rv,pl,hz⟩:=I.list hp;have hl:=pl.isList;have hb:=Qj4 rv;have hlt:p<s.heap.objs.size:=by obtain⟨_,e,_⟩:=hl;exact Qs e
 refine call_any_walk (QgX hl ?_);refine⟨s.heap.objs.size,[s.heap.objs.size,p],[s.heap.objs.size],its.toArray.size,_,_,λi=>(bs[i]?).getD false,rfl,Walks.list (A:=X.A.in1) (I.ok.hd hc) _ p (Q2 hlt) its.toArray,
  ⟨⟨_,QD _ rfl,rfl,rfl⟩,hl.push _⟩,λi v s' Q' E' hP hQ=>?_,λh' tk hk=>?_⟩
 ·obtain⟨b,e,rfl⟩:=hb.get i v (by simpa using hP);simp only[e,Qot] at hQ;exact Zp hQ
 ·have e:((QN its.toArray.size).any λi=>(bs[i]?).getD false)=bs.any id:=by
   rw[Ql,hb.length];exact Ql5 bs
  rw[e];exact⟨.bl _,H,I.kept (Qz8 hk),rfl,q⟩
end
end L2
namespace Dl
open L2 _root_.Rd Rk Rt
theorem bt_any:bootBuiltins "any" = some (.builtin "any"):=PyProof.Rows.boot_any
@[irreducible] def QzG:List Qb->(Qb->Prop)->Prop
 |[.list ds],Q=>∃bs,QcQ ds=some bs/\Q (.bool (bs.any id))
 |_,_=>False
theorem Qy1{K:PySem.W.Frag}{cm:Bool}(hc:cm=true):Qcv (λxs H Q=>∃(p:Addr)(bs:List Bool),xs=[.ref p]/\SqL K H p (bs.map V.bl)/\cm=true/\Q (.bl (bs.any id)) H) QzG:=λA P H vs ds R Q ln dm q h k=>by
 unfold QzG at h;split at h
 ·obtain⟨v,rfl,hv⟩:=pd1 q;obtain⟨bs,hb,hR⟩:=h;rw[bools_eq hb] at hv;obtain⟨l,xs,rfl,e,qq⟩:=hv.list;rw[QhQ qq] at e;exact⟨l,bs,rfl,SqL.of e,hc,k _ hR _ H (Same.refl H) (.bl _) Qa0⟩
 ·exact h.elim
theorem any_map{α:Type}(l:List α)(g:α->Bool):(l.map g).any id=l.any g:=by rw[QcY];rfl
theorem QvW{ds:List Qb}{Q:Qb->Prop}{g:Qb->Bool}{items:List Qb}(h:ds=[.list (items.map λd=>.bool (g d))])(q:Q (.bool (items.any g))):QzG ds Q:=by
 subst h;unfold QzG;refine⟨items.map g,?_,by rw[any_map];exact q⟩;rw[show items.map (λd=>Qaz (g d))=(items.map g).map Qaz by rw[Q8];rfl,QnU]
section
variable{X:Cx}{E:XK}
end
end Dl
namespace Rk
open L2 _root_.Rd Dl Rt
def QAv:List Qb->Bool
 |x::y::r=>ltD x y&&QAv (y::r)
 |_=>true
def ltP2:Qb->Bool
 |.tuple [a,b]=>ltD a b
 |_=>false
def QjR(h w:Int):Qb->Bool
 |.tuple [a,b]=>inW a 0 (h - 1)&&inW b 0 (w - 1)
 |_=>false
theorem Qyv{h w:Int}{d:Qb}(q:QjR h w d=true):∃p:Int×Int,d=pairD p/\0<=p.1/\p.1<h/\0<=p.2/\p.2<w:=by
 cases d<;>first | (cases q;done) | skip
 rename_i ds
 match ds,q with
 |[a,b],q=>
  have q:=QP.mp (show(inW a 0 (h - 1)&&inW b 0 (w - 1))=true from q);obtain⟨i,rfl,i1,i2⟩:=Qyx q.1;obtain⟨j,rfl,j1,j2⟩:=Qyx q.2;exact⟨(i,j),rfl,i1,by show i<h;omega,j1,by show j<w;omega⟩
 |[],q=>cases q
 |[_],q=>cases q
 |_::_::_::_,q=>cases q
theorem Qyu{h w:Int}{p:Int×Int}(h1:0<=p.1)(h2:p.1<h)(h3:0<=p.2)(h4:p.2<w):QjR h w (pairD p)=true:=by
 show(inW (.int p.1) 0 (h - 1)&&inW (.int p.2) 0 (w - 1))=true;rw[Qp6 h1 (by omega),Qp6 h3 (by omega)];rfl
def toP:Qb->Int×Int
 |.tuple [.int a,.int b]=>(a,b)
 |_=>(0,0)
def stT(L:List (Int×Int)):Qb:=.tuple (L.map pairD)
def plt(p q:Int×Int):Prop:=p.1<q.1∨(p.1=q.1/\p.2<q.2)
theorem Qds(p q:Int×Int):QY (pairD p) (pairD q)=decide (p=q):=by
 show((p.1 == q.1)&&((p.2 == q.2)&&true))=_;obtain⟨a,b⟩:=p;obtain⟨c,d⟩:=q;by_cases h1:a=c
 ·by_cases h2:b=d
  ·subst h1 h2;simp
  ·simp[h1,h2]
 ·simp[h1]
theorem YE(cs:List (Int×Int))(p:Int×Int):((cs.map pairD).any λc=>QY c (pairD p))=decide (p∈cs):=by
 rw[QcY,JD,Qa1,decide_eq_true_iff];constructor
 ·rintro⟨c,hc,h⟩;have:c=p:=of_decide_eq_true (by rw[<- Qds];exact h);rw[<- this];exact hc
 ·intro h;refine⟨p,h,?_⟩;show QY (pairD p) (pairD p)=true;rw[Qds];simp
def bdD(h w:Int)(cs:List (Int×Int)):Qb:=.tuple [.int h,.int w,.tuple (cs.map pairD)]
def Qsj:DF:=λargs R _=>∃(h w:Int)(d:Qb),args=[.v (.int h),.v (.int w),.v d]/\R (.bool (QjR h w d))
def inL(n:Int):Qb->Bool
 |.int i=>decide (0<=i)&&decide (i<n)
 |_=>false
theorem Qnk(n:Int)(d:Qb):inL n d=inW d 0 (n - 1):=by
 cases d<;>first | rfl | skip
 rename_i i
 show(decide (0<=i)&&decide (i<n))=(decide (0<=i)&&decide (i<=n - 1));rw[show decide (i<n)=decide (i<=n - 1) from decide_eq_decide.mpr (by omega)]
def QfA(r n:Nat)(f:Nat->Nat->Bool):List (Int×Int):=((QN n).filter (f r)).map λ(c:Nat)=>((r:Int),(c:Int))
def Qv(h w:Nat)(f:Nat->Nat->Bool):List (Int×Int):=(QN h).flatMap λr=>QfA r w f
def Qwf(f:Nat->Nat->Bool)(i j:Nat)(b:Bool):Nat->Nat->Bool:=λr c=>if r=i/\c=j then b else f r c
theorem QbP(h w:Nat)(f:Nat->Nat->Bool):Qv (h+1) w f=Qv h w f++QfA h w f:=by
 unfold Qv;rw[QgU,QdZ];simp
theorem Qdj{r n:Nat}{f:Nat->Nat->Bool}{p:Int×Int}:p∈QfA r n f↔∃c:Nat,c<n/\f r c=true/\p=((r:Int),(c:Int)):=by
 unfold QfA;rw[Qw];constructor
 ·rintro⟨c,hc,rfl⟩;have hc:=Ju.mp hc;exact⟨c,JM.mp hc.1,hc.2,rfl⟩
 ·rintro⟨c,hc,hf,rfl⟩;exact⟨c,Ju.mpr ⟨JM.mpr hc,hf⟩,rfl⟩
theorem JX{h w:Nat}{f:Nat->Nat->Bool}{p:Int×Int}:p∈Qv h w f↔∃r c:Nat,r<h/\c<w/\f r c=true/\p=((r:Int),(c:Int)):=by
 unfold Qv;rw[YX];constructor
 ·rintro⟨r,hr,hp⟩;obtain⟨c,hc,hf,rfl⟩:=Qdj.mp hp;exact⟨r,c,JM.mp hr,hc,hf,rfl⟩
 ·rintro⟨r,c,hr,hc,hf,rfl⟩;exact⟨r,JM.mpr hr,Qdj.mpr ⟨c,hc,hf,rfl⟩⟩
theorem YD{h w:Nat}{f:Nat->Nat->Bool}{p:Int×Int}(q:p∈Qv h w f):0<=p.1/\p.1<h/\0<=p.2/\p.2<w:=by
 obtain⟨r,c,hr,hc,_,rfl⟩:=JX.mp q;exact⟨QrI _,by show(r:Int)<h;omega,QrI _,by show(c:Int)<w;omega⟩
theorem Qgo(r n:Nat)(f:Nat->Nat->Bool):(QfA r n f).length<=n:=by
 unfold QfA;rw[Qc];exact Qt (Yx _ _) (by rw[Q5];exact Qf _)
theorem Z9(w:Nat)(f:Nat->Nat->Bool):∀h,(Qv h w f).length<=h*w
 |0=>Jn _
 |h+1=>by
  have:=Z9 w f h;have:=Qgo h w f;rw[QbP,Qj,QfG];omega
theorem Qe5(r n:Nat)(f:Nat->Nat->Bool):(QfA r n f).filter (λp=>decide (p.1=(r:Int)))=QfA r n f:=List.filter_eq_self.mpr λp hp=>by
 obtain⟨c,_,_,rfl⟩:=Qdj.mp hp;exact decide_eq_true rfl
theorem Qe6{r k n:Nat}(h:r≠k)(f:Nat->Nat->Bool):(QfA r n f).filter (λp=>decide (p.1=(k:Int)))=[]:=Qcx.mpr λp hp=>by
 obtain⟨c,_,_,rfl⟩:=Qdj.mp hp;show ¬decide ((r:Int)=(k:Int))=true;rw[decide_eq_false (by omega)];exact Qp
theorem Qf0(w k:Nat)(f:Nat->Nat->Bool):∀h,(Qv h w f).filter (λp=>decide (p.1=(k:Int)))=if k<h then QfA k w f else[]
 |0=>rfl
 |h+1=>by
  rw[QbP,List.filter_append,Qf0 w k f h];by_cases z:k=h
  ·subst z;rw[if_neg (by omega),Qe5,if_pos (by omega)];rfl
  ·rw[Qe6 (λe=>z e.symm),Zn];by_cases z2:k<h
   ·rw[if_pos z2,if_pos (by omega)]
   ·rw[if_neg z2,if_neg (by omega)]
theorem QtU(r n:Nat)(f:Nat->Nat->Bool):(QfA r n f).Pairwise plt:=by
 unfold QfA;refine Qg3 (R:=λa b=>a<b) _ (λa b hab=>.inr ⟨rfl,by show(a:Int)<b;omega⟩) ?_
 exact QfJ _ List.pairwise_lt_range
theorem pw_cellsF(w:Nat)(f:Nat->Nat->Bool):∀h,(Qv h w f).Pairwise plt
 |0=>.nil
 |h+1=>by
  rw[QbP];refine Qa4.mpr ⟨pw_cellsF w f h,QtU h w f,λp hp q hq=>?_⟩;obtain⟨r,c,hr,_,_,rfl⟩:=JX.mp hp;obtain⟨c',_,_,rfl⟩:=Qdj.mp hq;exact .inl (by show(r:Int)<h;omega)
theorem Qd8{p q:Int×Int}(h:plt p q):p≠q:=λe=>by subst e;rcases h with z | z<;>omega
def Qm6:DF:=λargs R _=>∃(d:Qb)(h w:Int),args=[.v d,.v (.int h),.v (.int w)]/\R (.bool (QjR h w d))
def Qia(cs:List (Int×Int))(r:Int):List (Int×Int):=cs.filter λp=>decide (p.1=r)
def Qok(cells L:List (Int×Int)):List (List (Int×Int)):=(cells.filter λc => !decide (c.2∈L.map (·.2))).map λc=>L++[c]
def Qfp(cs:List (Int×Int)):Nat->List (List (Int×Int))
 |0=>[[]]
 |i+1=>Qfp cs i++(Qfp cs i).flatMap (Qok (Qia cs i))
theorem Qrg(cells L:List (Int×Int)):(Qok cells L).length<=cells.length:=by
 unfold Qok;rw[Qc];exact Yx _ _
theorem QjU{α β:Type}{f:α->List β}{k:Nat}:∀{xs:List α},(∀x∈xs,(f x).length<=k)->(xs.flatMap f).length<=xs.length*k
 |[],_=>Jn _
 |x::xs,h=>by
  have h1:=h x (.head _);have h2:=QjU (xs:=xs) λy hy=>h y (.tail _ hy)
  rw[Qb2,Qj,Qu,QfG];omega
theorem Qji{cs:List (Int×Int)}{k:Nat}(h:∀r,(Qia cs r).length<=k):∀i,(Qfp cs i).length<=(k+1)^i
 |0=>Qf _
 |i+1=>by
  have h1:=Qji h i;have h2:=QjU (xs:=Qfp cs i) (k:=k) λL _=>Qt (Qrg (Qia cs i) L) (h i)
  show(Qfp cs i++(Qfp cs i).flatMap (Qok (Qia cs i))).length<=_;rw[Qj,Nat.pow_succ,Nat.mul_add,Nat.mul_one];have h3:(Qfp cs i).length*k<=(k+1)^i*k:=Qoe k h1;omega
theorem Qdk{cells L M:List (Int×Int)}:M∈Qok cells L↔∃c∈cells,c.2∉L.map (·.2)/\M=L++[c]:=by
 unfold Qok;rw[Qw];constructor
 ·rintro⟨c,hc,rfl⟩;have hc:=Ju.mp hc;exact⟨c,hc.1,by simpa using hc.2,rfl⟩
 ·rintro⟨c,hc,hn,rfl⟩;exact⟨c,Ju.mpr ⟨hc,by simpa using hn⟩,rfl⟩
theorem QeH{cs:List (Int×Int)}:∀i,∀L∈Qfp cs i,L.length<=i
 |0,L,h=>by rw[Qy.mp h];exact Qf _
 |i+1,L,h=>by
  rcases QC.mp (show L∈Qfp cs i++(Qfp cs i).flatMap (Qok (Qia cs i)) from h) with z | z
  ·exact Qtf (QeH i L z)
  ·obtain⟨M,hM,hL⟩:=YX.mp z;obtain⟨c,_,_,rfl⟩:=Qdk.mp hL;have:=QeH i M hM;rw[Qj];exact Qv6 this
theorem QlM(cs:List (Int×Int)):∀i,[]∈Qfp cs i
 |0=>.head _
 |i+1=>QC.mpr (.inl (QlM cs i))
theorem QvV(ns:List Int)(i:Int):((ns.map QJ).any λe=>QY e (.int i))=decide (i∈ns):=by
 rw[QcY,JD,Qa1,decide_eq_true_iff];constructor
 ·rintro⟨c,hc,h⟩;have:c=i:=by simpa [QY] using h
  rw[<- this];exact hc
 ·intro h;refine⟨i,h,?_⟩;show(i == i)=true;simp
theorem Qis(w h:Nat)(f:Nat->Nat->Bool)(r:Int):(Qia (Qv h w f) r).length<=w:=by
 by_cases z:0<=r
 ·obtain⟨k,rfl⟩:∃k:Nat,r=k:=⟨r.toNat,by omega⟩
  unfold Qia;rw[Qf0];split
  ·exact Qgo _ _ _
  ·exact Jn _
 ·have:Qia (Qv h w f) r=[]:=Qcx.mpr λp hp e=>by
   have:=YD hp;have:=of_decide_eq_true e;omega
  rw[this];exact Jn _
def sH(ns:List Int):Nat:=(max (ns.getLastD 0) 1).toNat
theorem QkQ{α β:Type}{g:α->Option β}{p:α->Bool}{k:α->β}:∀{xs:List α},(∀x∈xs,g x=if p x=true then some (k x) else none)->xs.filterMap g=(xs.filter p).map k
 |[],_=>rfl
 |x::xs,h=>by
  have ih:=QkQ (xs:=xs) λy hy=>h y (.tail _ hy)
  by_cases z:p x=true
  ·rw[List.filterMap_cons_some (by rw[h x (.head _),if_pos z]),ih,Qi4 z];rfl
  ·rw[List.filterMap_cons_none (by rw[h x (.head _),if_neg z]),ih,Qci z]
@[irreducible] def QpW:List Qb->(Qb->Prop)->Prop:=Qve
theorem Qrt:Qcv (λxs H Q=>∃i j,xs=[.int i,.int j]/\Q (.int (if j<i then j else i)) H) QpW:=by unfold QpW;exact QvP
theorem Qvd{i j k:Int}{Q:Qb->Prop}(e:(if j<i then j else i)=k)(h:Q (.int k)):QpW [.int i,.int j] Q:=by
 unfold QpW;show Q (.int (if j<i then j else i));rw[e];exact h
theorem Qdr(g:Int×Int->Bool)(cs:List (Int×Int)):(cs.map pairD).filterMap (λd=>if g (toP d)=true then some d else none)=(cs.filter g).map pairD:=by
 rw[ZP];exact QkQ (p:=g) (k:=pairD) λp _=>rfl
theorem QvA(L:List (Int×Int)):(L.map pairD).isEmpty=L.isEmpty:=by cases L<;>rfl
theorem QvN{items:List Qb}{wg wg2:DG}{wt wt2:DT}{wi2:DI}{we:DE}{δ:Sts}{Q:Qb->Prop}(G:Qb->List Qb)(k:Nat)(hl:(items.flatMap G).length<=k)
  (h:∀d∈items,∀(acc:List Qb)(N:List Qb->Prop),acc.length+(G d).length<=k->N (acc++G d)->wg d δ λδ4=>wt δ4 (λb=>if b=true then wi2 δ4 (λitems2=>InR items2 wg2 wt2 we δ4 acc N) XF else N acc) XF)(q:Q (.list (items.flatMap G))) :
  Qj7 items wg wt wi2 wg2 wt2 we δ Q:=by
 unfold Qj7;refine⟨λi acc=>acc=(items.take i).flatMap G,by simp,λi acc d hd e=>?_,λacc e=>by rw[e,YW];exact q⟩;have e:acc=(items.take i).flatMap G:=e;have hs:(items.take (i+1)).flatMap G=(items.take i).flatMap G++G d:=by
  rw[QaF,hd,QdZ];simp
 refine h d (J4 hd) acc _ ?_ (by show acc++G d=_;rw[hs,e])
 have h1:(items.flatMap G).length=((items.take (i+1)).flatMap G).length+((items.drop (i+1)).flatMap G).length:=by
  rw[<- Qj,<- QdZ,List.take_append_drop]
 rw[hs,<- e,Qj] at h1;omega
end Rk
namespace Rv
theorem QwT:isSubtype (.type "range_iterator") (.type "reversed")=pure false:=by rw[isSubtype_type];kernel_rfl
section
variable{prog:Qm}{w:QZ}{A:Q1}{E:Value->Shared->Prop}{s:Shared}
def Qho(a b:Int):Obj:={ cls:=.type "range_iterator",data:=.fields #[rawInt (a+(Zl a b 1 - 1)*1),rawInt (Zl a b 1),rawInt (-1)] }
theorem QkX{r:Addr}{j:Int}{t u v:Tok}{Q:Value->Shared->Prop}(hr:IsRange s.heap r 0 j 1 t u v)(h0 : -1000<=j)(h1:j<=1000)
  (h:Q (.ref s.heap.objs.size) { s with heap:=s.heap.push (Qho 0 j) }):wpAny (model prog w) A (call (.builtin "range.__reversed__") [.ref r]) Q E s:=by
 refine Qdy QdB ⟨_,hr,rfl⟩ F.entry_range_reversed ?_ (F.args_range_reversed_1 _)
 unfold Qfx.«range.__reversed__»;refine wpAny_bind (Qar (a:=Jj r) rfl ?_);refine wpAny_bind ?_
 unfold QAf;refine wpAny_bind (Qc0 hr rfl (x:=.int 0 t) rfl ?_);refine wpAny_bind (Qar (a:=some 0) rfl ?_);refine wpAny_bind (Qc0 hr rfl (x:=.int j u) rfl ?_);refine wpAny_bind (Qar (a:=some j) rfl ?_);refine wpAny_bind (Qc0 hr rfl (x:=.int 1 v) rfl ?_);refine wpAny_bind (Qar (a:=some 1) rfl ?_);refine Qo ?_
 dsimp only
 have hz:Zl 0 j 1=if 0<j then j else 0:=by rw[Qon];split<;>omega
 have fit:∀x:Int,-2000<=x->x<=2000->JE x=true:=λx a b=>by
  unfold JE;simp only[JY,decide_eq_true_eq];omega
 have hs:(JE 0&&JE j&&JE 1&&JE (-1)&&JE (0 - 1)&&JE (Zl 0 j 1))=true:=by
  rw[fit 0 (by decide) (by decide),fit j (by omega) (by omega),fit 1 (by decide) (by decide),fit (-1) (by decide) (by decide),fit (0 - 1) (by decide) (by decide),fit _ (by rw[hz];split<;>omega) (by rw[hz];split<;>omega)];rfl
 rw[hs,if_neg (by decide),if_pos rfl];exact wpAny_bind (Zq (Qo ⟨_,rfl,h⟩))
theorem Qrw{r:Addr}{j:Int}{t u v:Tok}{Q:Value->Shared->Prop}(hr:IsRange s.heap r 0 j 1 t u v)(h0 : -1000<=j)(h1:j<=1000)
  (h:Q (.ref s.heap.objs.size) { s with heap:=s.heap.push (Qho 0 j) }):codeAny (model prog w) A (.call (.builtin "reversed.__new__") ⟨[.type "reversed",.ref r],[]⟩) (wants Q E) s:=by
 have hT:s.TypeIs (.ref r) "range" := ⟨_,hr,rfl⟩;refine codeAny_of_tree ?_
 show wpAny _ A.in1 (do checkBuiltinCall "reversed.__new__" ⟨[.type "reversed",.ref r],[]⟩;again (.builtin "reversed.__new__" ⟨[.type "reversed",.ref r],[]⟩)) _ _ s;refine wpAny_bind (Qar (F.newCall_reversed_1 _) (Qo ⟨plainId_quiet QrK _,codeAny_builtin F.entry_reversed_new ?_⟩));rw[Around.under_plainId QrK _];unfold Qfx.«reversed.__new__»;refine wpAny_bind (Qar (newClass_reversed _) ?_)
 dsimp only
 refine wpAny_bind (Qar (a:=()) (by first | rfl | kernel_rfl) ?_);refine wpAny_bind (Qar (a:=()) (by first | rfl | kernel_rfl) ?_)
 try dsimp only
 refine wpAny_bind (wpAny_specialOf hT QdB.lookup ?_)
 try dsimp only
 refine wpAny_bind (Qar (QdB.bind _) ?_)
 try dsimp only
 first
 |rw[if_neg (show ¬((Qah "range.__reversed__" == J6)=true) from Qp)]
 |(show wpAny _ _ (if(Qah "range.__reversed__" == J6)=true then _ else _) _ _ _;rw[if_neg (show ¬((Qah "range.__reversed__" == J6)=true) from Qp)])
 refine wpAny_bind (wpAny_rule ?_);refine wpAny_bind (m:=runValue (.call (.builtin "range.__reversed__") ⟨[.ref r],[]⟩)) (show wpAny _ _ (call (.builtin "range.__reversed__") [.ref r]) _ _ _ from QkX hr h0 h1 ?_)
 first
 |exact Qo h
 |exact wpAny_bind (Qo (Qo h))
theorem QnR{r:Addr}{j:Int}{t u v:Tok}{Q:Value->Shared->Prop}(hr:IsRange s.heap r 0 j 1 t u v)(h0 : -1000<=j)(h1:j<=1000)
  (h:Q (.ref s.heap.objs.size) { s with heap:=s.heap.push (Qho 0 j) }):wpAny (model prog w) A (call (.type "reversed") [.ref r]) Q E s:=by
 refine callType_other (U := "range_iterator") (Q₁:=λobj s₁=>obj=.ref s.heap.objs.size/\s₁={ s with heap:=s.heap.push (Qho 0 j) }) (by decide) F.create_reversed ⟨_,_,F.mro_reversed⟩ F.made_reversed QwT (F.typeCall_reversed_1 _) (Qrw hr h0 h1 ⟨rfl,rfl⟩) ?_
 rintro obj s₁ ⟨rfl,rfl⟩;exact⟨⟨_,QD _ rfl,rfl⟩,h⟩
end
end Rv
namespace L2
def Itv(n:Nat):It:=⟨λi _=>i<n,λi H x H'=>H'=H/\x=.int ((n:Int) - 1 - i),λi _=>n<=i⟩
theorem Qlz{P:Qm}{w:QZ}{K:PySem.W.Frag}{tg:QV}(it:Addr)(n:Nat):Turn P w K tg (Itv n) [it] it (λi h=>Qkf h it ((n:Int) - 1+(i:Nat)*(-1)) ((n:Int) - (i:Nat)) (-1)) where
 mem:=by simp
 obj:=λi h st b hb=>by
  have e:b=it:=by simpa using hb
  subst e;exact⟨_,st,λv z=>by
   have z':Data.fields _=Data.cell v:=z;cases z'⟩
 keep:=λi h h' st k=>k it (by simp) _ st
 item:=by
  intro X hP hw hK hc i pins s σ H E I hf st hg;subst hP hw hK;obtain⟨f0,f1,f2,f3,f4,f5⟩:=hf it (by simp);have W:=QzQ (prog:=X.prog) (w:=X.w) (I.ok.hd hc) it ((n:Int) - 1) (-1) n;refine W.item i s _ _ hg st λv h' tk hv st' kk=>?_
  obtain⟨t,rfl⟩:=hv;have I1:Inv X pins σ H { s with heap:=h',toks:=tk }:=I.turned (λb o hb e=>kk b o (by simpa using hb) e) f0 f1 f3 f4 f5;refine⟨_,rfl,Qnp (s:={ s with heap:=h',toks:=tk }) (n := "range_iterator") st' rfl rfl (by decide) ⟨.int ((n:Int) - 1 - i),H,I1,⟨t,?_⟩,⟨rfl,rfl⟩,st',λb hb=>(hf b hb).1⟩⟩;rw[show(n:Int) - 1+(i:Int)*(-1)=(n:Int) - 1 - i by omega]
 done:=by
  intro X hP hw hK hc i pins s σ H E I hf st hg;subst hP hw hK;obtain⟨f0,f1,f2,f3,f4,f5⟩:=hf it (by simp);exact QrB (I.ok.hd hc) st (by have:n<=i:=hg;omega) λh' eb=>⟨rfl,I.turned (t':=s.toks) (λb o hb e=>eb b o hb e) f0 f1 f3 f4 f5⟩
 self:=λ_ _ _ _ _ st h=>Qdz st h
def QA5(ta:TA):TI:=λσ H R=>ta σ H λvs H1=>∃(r:Addr)(j:Int),vs=[.ref r]/\H1 r=some (.rng 0 j) /\ -1000<=j/\j<=1000/\R (Itv j.toNat) H1
section
variable{X:Cx}{tg:QV}
theorem Qt0{a:QV}{ta:TA}{p pos:Pos}(hg:Gl X "reversed")(hm:X.mg "reversed" = none)(ha:PA X [a] ta)(hs:starEach [a] X.env=[(false,eval a X.env)]:=by rfl):PI X tg (.Call (.Name "reversed" p) [a] [] pos) (QA5 ta):=by
 intro pins s σ H R I h;refine Call_ (Qe0 I hg hm boot_reversed (Zv (thn (ha pos pins s σ H _ I h) λus s1 ⟨vs,H1,I1,r1,q1⟩=>?_) hs rfl));obtain⟨r,j,e,hr,q1,q2,q⟩:=q1;subst e;obtain⟨u,rfl,ru⟩:=vals1 r1;cases(show u=Jj r from ru);obtain⟨t1,t2,t3,e⟩:=I1.hok r _ hr;refine Rv.QnR (show IsRange s1.heap r 0 j 1 t1 t2 t3 from e) q1 q2 ?_
 have hz:Zl 0 j 1=((j.toNat:Nat):Int):=by rw[Qon];split<;>omega
 have it0:Qkf (s1.heap.push (Rv.Qho 0 j)) s1.heap.objs.size (((j.toNat:Nat):Int) - 1+((0:Nat):Int)*(-1)) (((j.toNat:Nat):Int) - ((0:Nat):Int)) (-1):=by
  have:=QD (h:=s1.heap) (o:=Rv.Qho 0 j) rfl;unfold Rv.Qho at this;rw[hz,show(0:Int)+(((j.toNat:Nat):Int) - 1)*1=((j.toNat:Nat):Int) - 1+((0:Nat):Int)*(-1) by omega] at this;rw[show((j.toNat:Nat):Int) - ((0:Nat):Int)=((j.toNat:Nat):Int) by omega];unfold Rv.Qho;rw[hz,show(0:Int)+(((j.toNat:Nat):Int) - 1)*1=((j.toNat:Nat):Int) - 1+((0:Nat):Int)*(-1) by omega];exact this
 refine Qdz it0 ?_
 refine⟨s1.heap.objs.size,[s1.heap.objs.size],_,_,H1,rfl,I1.kept (t':=s1.toks) λb o e=>Qh _ e,Qlz _ j.toNat,it0,λb hb=>?_,q⟩;have e:b=s1.heap.objs.size:=by simpa using hb
 subst e;exact I1.fpOk (Qf _) (I1.hok.fresh (Qf _))
end
section
variable{X:Cx}
def Qju:V->List V->Hp->VK->Prop:=λx vs H Q=>∃l xs y,x=.ref l/\vs=[.int 0,y]/\H l=some (.lst xs)/\xs.length<sizeLine/\Q .non (upd H l (.lst (y::xs)))
theorem QkF:MtM X "list.insert" Qju:=by
 intro pins s σ H x vs v us Q I rx rv h;obtain⟨l,xs,y,rfl,rfl,hH,hz,q⟩:=h;cases rx;cases rv with
 |cons r0 rv=>
  obtain⟨u,rfl,ru⟩:=Vals.one rv;obtain⟨t,rfl⟩:=r0;obtain⟨z,its,n,r,hl,e⟩:=I.lstM hH;refine YT F.slot_list_insert ⟨_,e,rfl⟩ F.entry_list_insert (F.args_list_insert_3 _ _ _) (AutoSeq1.list_insert_list_int_val_1 l its.toArray n 0 t u (by decide) (by rw[Ql];omega)) ⟨e,?_⟩;refine⟨.non,_,I.lset (its':=u::its) hH e (by simp) (.cons ru r) ?_,rfl,q⟩;rw[Qu];omega
end
end L2
namespace Dl
open L2 _root_.Rd Rk
section
variable{X:Cx}{E:XK}{st:J7}{i:Nat}{we:DE}
def QtG(n:Nat):List Qb:=(QN n).map λ(i:Nat)=>.int ((n:Int) - 1 - i)
theorem Qes(n:Nat):(QtG n).length=n:=by unfold QtG;rw[Qc,Q5]
theorem Qgq{n i:Nat}{d:Qb}(h:(QtG n)[i]? = some d):i<n/\d=.int ((n:Int) - 1 - i):=by
 unfold QtG at h;rw[Qz] at h;by_cases z:i<n
 ·rw[Zb z] at h;exact⟨z,(QH h).symm⟩
 ·rw[JC (by rw[Q5];omega)] at h;cases h
def QBj(w:DE):DI:=λδ Q EX=>w δ (λd=>match d with
 |.int j=>(-1000<=j/\j<=1000)/\Q (QtG j.toNat)
 |_=>False) EX
theorem QAZ{A S:Addr->Prop}{n:Nat}{H1:Hp}(h:n<=sizeLine):ItD A S (Itv n) (QtG n) H1:=by
 refine⟨by rw[Qes];exact h,λH2 A' _ _ _=>⟨λi d hd=>?_,?_⟩⟩
 ·obtain⟨hi,rfl⟩:=Qgq hd;refine⟨hi,λx H3 hy=>?_⟩;obtain⟨rfl,rfl⟩:=hy;exact⟨Same.refl _,.int _⟩
 ·show n<=(QtG n).length;rw[Qes];exact Qf _
theorem Qmh{m:Md}{tg e:QV}{w:DE}{p p2 pos pos2:Pos}(hg:Gl X "reversed")(hm:X.mg "reversed" = none)(hg2:Gl X "range")(hm2:X.mg "range" = none)(h:QE .P X E e w)(hs:notStar e=true:=by rfl):QI m X E tg (.Call (.Name "reversed" p) [.Call (.Name "range" p2) [e] [] pos2] [] pos) (QBj w):=⟨by
 refine PI.imp (Qt0 hg hm (Zo (Qo3 hg2 hm2 (Zo h.h Qq hs) (by rw[Qbr hs];rfl)) Qq)) λσ H R _ ⟨F,δ,R',EX,rel,hw,k,o⟩=>?_
 refine⟨F,δ,_,EX,rel,hw,λd hd v H' rel' kp vk=>?_,o⟩;cases d<;>first | exact(show False from hd).elim | skip
 obtain⟨⟨h1,h2⟩,hR⟩:=hd;rw[DP.int vk];exact⟨_,rfl,λr H2 s2 n2 e2=>⟨r,_,rfl,e2,h1,h2,k _ hR _ H2 (rel'.same s2) (kp.trans (Kp.same rel' s2)) (QAZ (Ji (Rk.ZB (by omega))))⟩⟩⟩
def QBh(i:Nat)(we:DE):DS:=λD δ=>match δ[i]? with
 |some (.own ds)=>we δ (λd=>ds.length<1000000/\D.nx (δ.set i (.own (d::ds)))) D.ex
 |_=>False
theorem Quh(h:PS X st (QlH (tBM X.K "list" Qju (Qbq i) (Qae (tX .D X.K E (dC (.int 0))) (Qae (tX .D X.K E we) Qej))))):PS X st (tS X.K E (QBh i we)):=by
 refine PS.imp h λD σ H ⟨F,δ,DD,rel,hw,en⟩=>?_
 unfold QBh at hw;split at hw
 ·rename_i ds hd
  obtain⟨x,hx⟩:=rel.lt hd;obtain⟨l,xs,rfl,e,q,f⟩:=rel.sl i _ _ hx hd;have np:=rel.own_pot hd hx;refine⟨.ref l,hx,.inl ⟨rfl,_,SqL.of e⟩,F,δ,(λd=>d=.int 0),DD.ex,rel,rfl,λd hd0 v0 H0 rel0 kp0 vk0=>?_,en.ex⟩;subst hd0;cases vk0;refine⟨F,δ,_,DD.ex,rel0,hw,λd ⟨hl,hn⟩ v H' rel' kp vk=>?_,en.ex⟩;have kk:=kp0.trans kp;have q':=kk.das q;refine⟨l,xs,v,rfl,rfl,kk.1 _ _ np e,QR (by rw[q.length];exact hl) QhJ,?_⟩;obtain⟨r2,st⟩:=rel'.mut hd hx (.cons vk q');exact en.nx.go _ hn _ _ r2 ((Stp.kp kk).trans st)
 ·exact hw.elim
theorem Qxp{y:Str}{e e0:QV}{we:DE}{apos cpos pos npos:Pos}(i:Nat)(h0:QE .D X E e0 (dC (.int 0)))(he:QE .D X E e we)(hN:X.N[i]? = some y:=by rfl)(hv:Vis X.env.scope y:=by first | exact Qx rfl | exact QL (Qx rfl) | exact QL (QL rfl))(hd:(y == ("__debug__" : Str))=false:=by decide)(hcd:(y == ("__classdict__" : Str))=false:=by decide)(hs0:notStar e0=true:=by rfl)(hst:notStar e=true:=by rfl)(hbase:attributeBase (.Name y npos) "insert" X.env (eval (.Name y npos) X.env)=eval (.Name y npos) X.env:=by rfl)(hfew:((backTo cpos (starEach [e0,e] X.env)).all (λx => !x.1)&&(backToKw cpos (keywordEach [] X.env)).all (λx=>x.1.isSome)&&decide ([e0,e].length+([]:List Qfv).length+(if([]:List Qfv).isEmpty then 0 else 1)<30))=true:=by rfl)(hline:(apos.endLine == cpos.line)=true:=by rfl)(hsw:swapsWith (.Call (.Attribute (.Name y npos) "insert" apos) [e0,e] [] cpos) none pos.line X.env=pure false:=by rfl):QS X E (.Expr (.Call (.Attribute (.Name y npos) "insert" apos) [e0,e] [] cpos) pos) (QBh i we):=⟨Quh (Zf (Qbb PySem.F.plainAttrs_list PySem.F.slot_list_insert PySem.F.type_list_insert QkF (pv i hN hv hd hcd) (Zo h0.h (Zo he.h Qq hst) hs0) hbase hfew hline (Qbr hs0) (by rw[Qbr hst];rfl)) hsw)⟩
end
end Dl
namespace Rk
open L2 _root_.Rd Dl Rt
def Qip(B:Nat->Nat->Int)(t:Nat):List Nat->Nat->Int
 |[],_=>0
 |c::cs,k=>(if t.testBit c=true then 0 else B (t ||| 2^c) k)+Qip B t cs k
theorem QeG(B:Nat->Nat->Int)(t c k:Nat):∀cs:List Nat,Qip B t (cs++[c]) k=Qip B t cs k+(if t.testBit c=true then 0 else B (t ||| 2^c) k)
 |[]=>by show _+0=0+_;omega
 |d::cs=>by
  show _+Qip B t (cs++[c]) k=_+Qip B t cs k+_;rw[QeG B t c k cs];omega
def Qer(h:Nat)(F:Nat->Int):List Qb:=(QN (h+1)).map λ(k:Nat)=>.int (F k)
def Qio(h w:Nat)(B:Nat->Nat->Int):List Qb:=(QN (2^w)).map λ(t:Nat)=>.list (Qer h (B t))
def Qgh(B:Nat->Nat->Int)(cols:List Nat)(t k:Nat):Int:=B t k+if k=0 then 0 else Qip B t cols (k - 1)
def QkV(cs:List (Int×Int))(r:Nat):List Nat:=(Qia cs r).map λp=>p.2.toNat
def Wc(cs:List (Int×Int))(h:Nat):Nat->Nat->Nat->Int
 |0,_,k=>if k=0 then 1 else 0
 |i+1,t,k=>Qgh (Wc cs h i) (QkV cs (h - 1 - i)) t k
def Qje(cs:List (Int×Int))(h w:Nat):Nat->List Qb
 |0=>[.list (Qio h w (Wc cs h 0))]
 |i+1=>.list (Qio h w (Wc cs h (i+1)))::Qje cs h w i
def Qvq(ns:List Nat):List Qb:=ns.map λ(c:Nat)=>.int (c:Int)
def Qj1(cs:List (Int×Int))(h w:Nat):List Qb:=(QN (min h w+1)).map λ(k:Nat)=>.int (Wc cs h h 0 k)
def Qvc:DF:=λargs R _=>∃(h w:Nat)(cs:List (Int×Int)),args=[.v (bdD h w cs)]/\R (.int ((min h w:Nat):Int))
def QwA:DF:=λargs R _=>∃(h w:Nat)(B:Nat->Nat->Int)(cols:List Nat)(t:Nat),args=[.v (.list (Qio h w B)),.v (.list (Qvq cols)),.v (.int t)]/\t<2^w/\(∀c∈cols,c<w)/\h<=6/\w<=6/\R (.list (Qer h (Qgh B cols t)))
def Qtn:DF:=λargs R _=>∃(h w:Nat)(cs:List (Int×Int)),args=[.v (bdD h w cs)]/\h<=6/\w<=6/\(∀p∈cs,0<=p.2/\p.2<w)/\R (.list (Qje cs h w h))
def QiM:DF:=λargs R _=>∃(h w:Nat)(cs:List (Int×Int)),args=[.v (bdD h w cs)]/\h<=6/\w<=6/\(∀p∈cs,0<=p.2/\p.2<w)/\R (.list (Qj1 cs h w))
theorem Qb7{h k:Nat}{F:Nat->Int}(hk:k<=h):(Qer h F)[k]? = some (.int (F k)):=by
 unfold Qer;rw[Qz,Zb (by omega)];rfl
theorem Qcl(h:Nat)(F:Nat->Int):(Qer h F).length=h+1:=by unfold Qer;rw[Qc,Q5]
theorem QeF{h w t:Nat}{B:Nat->Nat->Int}(ht:t<2^w):(Qio h w B)[t]? = some (.list (Qer h (B t))):=by
 unfold Qio;rw[Qz,Zb ht];rfl
theorem QbB{h:Nat}{F G:Nat->Int}(e:∀k,k<=h->F k=G k):Qer h F=Qer h G:=by
 unfold Qer;refine QdY λk hk=>?_
 rw[e k (by have:=JM.mp hk;omega)]
theorem QoQ{h j:Nat}{F:Nat->Int}{v:Int}(hj:j<=h):(Qer h F).set j (.int v)=Qer h (λk=>if k=j then v else F k):=by
 apply Qb3
 intro k;rw[Qfn];by_cases z:j=k
 ·subst z;rw[if_pos rfl,if_pos (by rw[Qcl];omega),Qb7 hj,if_pos rfl]
 ·rw[if_neg z];by_cases z2:k<=h
  ·rw[Qb7 z2,Qb7 z2,if_neg (λe=>z e.symm)]
  ·rw[JC (by rw[Qcl];omega),JC (by rw[Qcl];omega)]
theorem cut_last(xs:List Qb):Dl.cutD xs none (some (-1))=xs.take (xs.length - 1):=by
 unfold Dl.cutD;rw[HT.Qjr,Qwv,Nat.sub_zero]
 congr 1
 have e:HT.sIx xs.length xs.length (some (-1))=((-1:Int)+(xs.length:Int)).toNat:=by unfold HT.sIx;dsimp only;rw[if_pos (by decide)]
 rw[e];omega
theorem QvT:∀t:Fin 64,∀c:Fin 6,QcZ ((t:Nat):Int) (1*2^((c:Nat):Int).toNat)=if(t:Nat).testBit c=true then 2^(c:Nat) else 0:=by decide
theorem Qy6:∀t:Fin 64,∀c:Fin 6,QdC ((t:Nat):Int) (1*2^((c:Nat):Int).toNat)=(((t:Nat) ||| 2^(c:Nat):Nat):Int):=by decide
theorem QxX{t c w:Nat}(ht:t<2^w)(hc:c<w):t ||| 2^c<2^w:=Nat.or_lt_two_pow ht (Nat.pow_lt_pow_right (by decide) hc)
theorem QoS(h:Nat)(F:Nat->Int):Dl.cutD (Qer h F) none (some (-1))=(QN h).map λ(k:Nat)=>QJ (F k):=by
 rw[cut_last,Qcl];unfold Qer;rw[<- Qi1,QeA,Qv9,Qwu (Nat.le_succ h)]
theorem QvY{t c w:Nat}(ht:t<2^w)(hc:c<w)(w6:w<=6):QcZ (t:Int) (1*2^((c:Nat):Int).toNat)=if t.testBit c=true then 2^c else 0:=by
 have h64:2^w<=2^6:=Z5 (by decide) w6;exact QvT ⟨t,by have e:2^6=64:=rfl;omega⟩ ⟨c,by omega⟩
theorem QxY{t c w:Nat}(ht:t<2^w)(hc:c<w)(w6:w<=6):QdC (t:Int) (1*2^((c:Nat):Int).toNat)=((t ||| 2^c:Nat):Int):=by
 have h64:2^w<=2^6:=Z5 (by decide) w6;exact Qy6 ⟨t,by have e:2^6=64:=rfl;omega⟩ ⟨c,by omega⟩
theorem Qgv(w:Nat):(1*2^((w:Nat):Int).toNat:Int)=((2^w:Nat):Int):=by
 rw[Int.one_mul,QB];simp
theorem QyY(cs:List (Int×Int))(r:Nat)(hb:∀p∈cs,0<=p.2):(cs.map pairD).filterMap (λd=>if(toP d).1=(r:Int) then some (.int (toP d).2) else none)=Qvq (QkV cs r):=by
 unfold Qvq QkV Qia;rw[ZP,Q8];refine QkQ (p:=λp:Int×Int=>decide (p.1=(r:Int))) λp hp=>?_
 show(if p.1=(r:Int) then some (QJ p.2) else none)=if decide (p.1=(r:Int))=true then some (QJ ((p.2.toNat:Nat):Int)) else none
 rw[show((p.2.toNat:Nat):Int)=p.2 by have:=hb p hp;omega];by_cases z:p.1=(r:Int)
 ·rw[if_pos z,if_pos (decide_eq_true z)]
 ·rw[if_neg z,if_neg (by simpa using z)]
theorem QvL{cs:List (Int×Int)}{w r c:Nat}(hb:∀p∈cs,0<=p.2/\p.2<w)(h:c∈QkV cs r):c<w:=by
 unfold QkV Qia at h;obtain⟨p,hp,rfl⟩:=Qw.mp h;have:=hb p (Ju.mp hp).1;omega
theorem Qjc(cs:List (Int×Int))(h w:Nat):∀i,(Qje cs h w i).length=i+1
 |0=>rfl
 |i+1=>by show(Qje cs h w i).length+1=_;rw[Qjc cs h w i]
theorem Qin(cs:List (Int×Int))(h w:Nat):∀i,(Qje cs h w i)[0]? = some (.list (Qio h w (Wc cs h i)))
 |0=>rfl
 |_+1=>rfl
theorem QoR(cs:List (Int×Int))(h t:Nat):Qer h (Wc cs h 0 t)=QJ 1::Jc h (.int 0):=by
 apply Qb3
 intro k;cases k with
 |zero=>rw[Qb7 (Jn _)];rfl
 |succ k=>
  by_cases z:k+1<=h
  ·rw[Qb7 z,Qan,Qam,if_pos (by omega)];rfl
  ·rw[JC (by rw[Qcl];omega),Qan,Qam,if_neg (by omega)]
theorem QtI(h:Nat):(Jc h [QJ 0]).flatten=Jc h (.int 0):=by
 induction h with
 |zero=>rfl
 |succ h ih=>rw[Zk,Z6,ih];rfl
theorem Qsi{w:Nat}(h:w<=6) : -1000000<=(1*2^((w:Nat):Int).toNat:Int)/\(1*2^((w:Nat):Int).toNat:Int)<=1000000:=by
 have p64:2^w<=64:=Z5 (n:=2) (by decide) h;rw[Qgv];generalize 2^w=x at p64;omega
def sumZ{α:Type}(f:α->Int):List α->Int
 |[]=>0
 |x::xs=>f x+sumZ f xs
theorem QdD{α:Type}{f g:α->Int}:∀{a:List α},(∀x∈a,f x=g x)->sumZ f a=sumZ g a
 |[],_=>rfl
 |x::a,h=>by show f x+_=g x+_;rw[h x (.head _),QdD λy hy=>h y (.tail _ hy)]
theorem Qjh{α:Type}(f g:α->Int):∀a:List α,sumZ (λx=>f x+g x) a=sumZ f a+sumZ g a
 |[]=>rfl
 |x::a=>by show(f x+g x)+sumZ _ a=f x+sumZ f a+(g x+sumZ g a);rw[Qjh f g a];omega
theorem QaS{α:Type}(f:α->Int)(p:α->Bool):∀a:List α,sumZ f (a.filter p)=sumZ (λx=>if p x=true then f x else 0) a
 |[]=>rfl
 |x::a=>by
  by_cases z:p x=true
  ·rw[Qi4 z];show f x+_=(if p x=true then f x else 0)+_;rw[if_pos z,QaS f p a]
  ·rw[Qci z];show _=(if p x=true then f x else 0)+_;rw[if_neg z,QaS f p a,QaP]
theorem Qhh{α:Type}(B:Nat->Nat->Int)(t k:Nat)(g:α->Nat):∀a:List α,Qip B t (a.map g) k=sumZ (λx=>if t.testBit (g x)=true then 0 else B (t ||| 2^g x) k) a
 |[]=>rfl
 |x::a=>by show _+Qip B t (a.map g) k=_+_;rw[Qhh B t k g a]
def mkL(L:List (Int×Int)):Nat:=L.foldl (λt p=>t ||| 2^p.2.toNat) 0
theorem Qgz(L:List (Int×Int))(p:Int×Int):mkL (L++[p])=mkL L ||| 2^p.2.toNat:=by
 unfold mkL;rw[List.foldl_append];rfl
theorem Qj5(c:Nat):∀(L:List (Int×Int))(t:Nat),(L.foldl (λt p=>t ||| 2^p.2.toNat) t).testBit c=(t.testBit c||decide (c∈L.map λp=>p.2.toNat))
 |[],t=>by simp
 |p::L,t=>by
  rw[Qwc,Qj5 c L,Nat.testBit_or,Nat.testBit_two_pow,Bool.or_assoc]
  congr 1
  rw[JB,JD];simp only[Qwe,decide_eq_true_eq,QM];constructor
  ·rintro(z | z)
   ·exact .inl z.symm
   ·exact .inr z
  ·rintro(z | z)
   ·exact .inl z.symm
   ·exact .inr z
theorem QiT(L:List (Int×Int))(c:Nat):(mkL L).testBit c=decide (c∈L.map λp=>p.2.toNat):=by
 unfold mkL;rw[Qj5];simp
theorem Qgf{cs:List (Int×Int)}:∀i,∀L∈Qfp cs i,∀p∈L,p∈cs
 |0,L,h,p,hp=>by rw[Qy.mp h] at hp;cases hp
 |i+1,L,h,p,hp=>by
  rcases QC.mp (show L∈Qfp cs i++(Qfp cs i).flatMap (Qok (Qia cs i)) from h) with z | z
  ·exact Qgf i L z p hp
  ·obtain⟨M,hM,hL⟩:=YX.mp z;obtain⟨c,hc,_,rfl⟩:=Qdk.mp hL;rcases QC.mp hp with y | y
   ·exact Qgf i M hM p y
   ·rw[Qy.mp y];exact(Ju.mp hc).1
theorem Qm5{L:List (Int×Int)}{c:Int×Int}(hL:∀p∈L,0<=p.2)(hc:0<=c.2):(c.2.toNat∈L.map λp=>p.2.toNat)↔c.2∈L.map (·.2):=by
 rw[Qw,Qw];constructor
 ·rintro⟨p,hp,e⟩;refine⟨p,hp,?_⟩;have:=hL p hp;have e:p.2.toNat=c.2.toNat:=e;show p.2=c.2;omega
 ·rintro⟨p,hp,e⟩;exact⟨p,hp,by show p.2.toNat=c.2.toNat;rw[show p.2=c.2 from e]⟩
theorem Qgx:∀(w:Nat)(l:List Nat),l.Nodup->(∀x∈l,x<w)->l.length<=w
 |0,l,_,h=>by
  cases l with
  |nil=>exact Qf _
  |cons a l=>exact absurd (h a (.head _)) (Qg1 _)
 |w+1,l,nd,h=>by
  by_cases z:w∈l
  ·have h1:=Qgx w (l.erase w) (nd.erase w) λx hx=>by
    have:=h x (List.mem_of_mem_erase hx);have hne:x≠w:=λe=>by subst e;exact(List.Nodup.not_mem_erase nd) hx
    omega
   have h2:=List.length_erase_of_mem z;omega
  ·have h1:=Qgx w l nd λx hx=>by
    have:=h x hx;have hne:x≠w:=λe=>by subst e;exact z hx
    omega
   omega
theorem Qiq{cs:List (Int×Int)}:∀i,∀L∈Qfp cs i,(L.map (·.2)).Nodup
 |0,L,h=>by rw[Qy.mp h];exact .nil
 |i+1,L,h=>by
  rcases QC.mp (show L∈Qfp cs i++(Qfp cs i).flatMap (Qok (Qia cs i)) from h) with z | z
  ·exact Qiq i L z
  ·obtain⟨M,hM,hL⟩:=YX.mp z;obtain⟨c,_,hn,rfl⟩:=Qdk.mp hL;rw[Je];refine YF.mpr ⟨Qiq i M hM,by simp,λa h1 b h2 e=>?_⟩;have h2:b=c.2:=by simpa using h2
   rw[e,h2] at h1;exact hn h1
theorem QlL{cs:List (Int×Int)}{w i:Nat}(hb:∀p∈cs,0<=p.2/\p.2<w){L:List (Int×Int)}(h:L∈Qfp cs i):L.length<=w:=by
 have nd:=Qiq i L h;have hs:=Qgf i L h;have h1:=Qgx w (L.map λp=>p.2.toNat) ?_ λx hx=>?_
 ·rwa [Qc] at h1
 ·have e:(L.map λp=>p.2.toNat)=(L.map (·.2)).map Int.toNat:=by rw[Q8];rfl
  rw[e];refine Qfm.mpr (Qa7 (λ{a b} ha hb' hne hz=>hne ?_) nd);obtain⟨p,hp,rfl⟩:=Qw.mp ha;obtain⟨q,hq,rfl⟩:=Qw.mp hb';have:=hb p (hs p hp);have:=hb q (hs q hq);show p.2=q.2;have hz:p.2.toNat=q.2.toNat:=hz;omega
 ·obtain⟨p,hp,rfl⟩:=Qw.mp hx;have:=hb p (hs p hp);omega
theorem Qrr{cs:List (Int×Int)}{h w:Nat}{d:Qb}(hd:d∈Qj1 cs h w):∃i,d=.int i:=by
 unfold Qj1 at hd;obtain⟨k,_,rfl⟩:=Qw.mp hd;exact⟨_,rfl⟩
theorem Qrq(cs:List (Int×Int))(h w:Nat):(Qj1 cs h w).length=min h w+1:=by unfold Qj1;rw[Qc,Q5]
end Rk
namespace L2
section
variable{X:Cx}
def Qxi(K:PySem.W.Frag):List V->Hp->VK->Prop:=λxs H Q=>∃(p:Addr)(ns:List Int),xs=[.ref p]/\SqL K H p (ns.map V.int)/\0<ns.length/\∀m,m∈ns->(∀y∈ns,y<=m)->Q (.int m) H
theorem QnP(hc:X.calm=true):CallR X (.builtin "max") (Qxi X.K):=by
 intro pins s σ H xs us Q I r h;obtain⟨p,ns,rfl,hp,hn,q⟩:=h;obtain⟨u,rfl,ru⟩:=vals1 r;cases ru;obtain⟨its,rv,pl,hz⟩:=I.list hp;have hi:Qg4 its ns:=intsAre_of rv;obtain⟨ys,hx⟩:=hi.allInts.items;have hl':s.heap.IsList p (intItems ys):=hx ▸ pl.isList;have hsz:ys.size=ns.length:=by
  have h1:its.toArray.size=(intItems ys).size:=by rw[hx]
  rw[Ql,hi.length] at h1;simp[intItems] at h1;omega
 have num:∀j m,ns[j]? = some m->numAt ys j=m:=λj m e=>by
  obtain⟨w,hw,rw'⟩:=rv.get (i:=j) (x:=V.int m) (by rw[Qz,e];rfl);have h2:(intItems ys)[j]? = some w:=by rw[<- hx,Qk5];exact hw
  unfold intItems at h2;rw[Array.getElem?_map] at h2;obtain⟨y,hy,ey⟩:=JG.mp h2;unfold numAt;rw[hy];subst ey;obtain⟨t,et⟩:=rw';cases et;rfl
 refine max_intList (I.ok.hd hc) hl' (by omega) λv h' tk hv hk=>?_
 rw[<- hx] at hv;rw[Qk5] at hv;have ab:=argBest_gt (numAt ys) (ys.size - 1);generalize argBest (λi j=>decide (numAt ys i > numAt ys j)) (ys.size - 1)=b at *;obtain⟨x,hx2,rx⟩:∃x,(ns.map V.int)[b]? = some x/\RelV x v:=by
  have hlen:=rv.length;have hlt:=(Q6.mp hv).1;cases e:(ns.map V.int)[b]? with
  |none=>
   have:=List.getElem?_eq_none_iff.mp e
   omega
  |some x=>
   obtain⟨w,hw,rw'⟩:=rv.get e;rw[hw] at hv;cases hv;exact⟨x,rfl,rw'⟩
 rw[Qz] at hx2;obtain⟨m,hm,rfl⟩:=JG.mp hx2;refine⟨.int m,H,I.kept hk,rx,q m (J4 hm) λy hy=>?_⟩;obtain⟨j,hj⟩:=Zm.mp hy;have hjl:=(Q6.mp hj).1;have:=ab.2 j (by omega);rw[num b m hm,num j y hj] at this;exact this
end
end L2
namespace Dl
open L2 _root_.Rd Rk
@[irreducible] def QpX:List Qb->(Qb->Prop)->Prop
 |[.list ds],Q=>∃ns,Qed ds=some ns/\0<ns.length/\∀m,m∈ns->(∀y∈ns,y<=m)->Q (.int m)
 |_,_=>False
theorem QvQ{K:PySem.W.Frag}:Qcv (Qxi K) QpX:=λA P H vs ds R Q ln dm q h k=>by
 unfold QpX at h;split at h
 ·obtain⟨v,rfl,hv⟩:=pd1 q;obtain⟨bs,hb,h0,hR⟩:=h;rw[QiI hb] at hv;obtain⟨l,xs,rfl,e,qq⟩:=hv.list;rw[QgK qq] at e;exact⟨l,bs,rfl,SqL.of e,h0,λm h1 h2=>k _ (hR m h1 h2) _ H (Same.refl H) (.int _) QaD⟩
 ·exact h.elim
theorem Qvf{ns:List Int}{Q:Qb->Prop}(h:0<ns.length)(k:∀m,m∈ns->(∀y∈ns,y<=m)->Q (.int m)):QpX [.list (ns.map QJ)] Q:=by
 unfold QpX;exact⟨ns,ints_map ns,h,k⟩
end Dl
namespace Rk
open L2 _root_.Rd Dl Rt
def wo(cs:List (Int×Int))(c:Int×Int):List (Int×Int):=cs.filter λp => !decide (p=c)
def Bds(h w:Nat)(cs:List (Int×Int)):Prop:=h<=6/\w<=6/\∀p∈cs,0<=p.1/\p.1<h/\0<=p.2/\p.2<w
theorem Bds.wo{h w:Nat}{cs:List (Int×Int)}(b:Bds h w cs)(c:Int×Int):Bds h w (wo cs c):=⟨b.1,b.2.1,λp hp=>b.2.2 p (Ju.mp hp).1⟩
theorem Bds.col{h w:Nat}{cs:List (Int×Int)}(b:Bds h w cs):∀p∈cs,0<=p.2/\p.2<(w:Int):=λp hp=>(b.2.2 p hp).2.2
theorem Bds.nn{h w:Nat}{cs:List (Int×Int)}(b:Bds h w cs):∀p∈cs,0<=p.2:=λp hp=>(b.2.2 p hp).2.2.1
theorem Qs5(cs:List (Int×Int))(h:Nat):∀i t,Wc cs h i t 0=1
 |0,_=>rfl
 |i+1,t=>by
  show Wc cs h i t 0+(if 0=0 then 0 else _)=1;rw[if_pos rfl,Qs5 cs h i t];rfl
def QBY:List (Int×Int)->List (Int×Int)->Prop
 |[],[]=>False
 |[],_::_=>True
 |_::_,[]=>False
 |p::L,q::M=>plt p q∨(p=q/\QBY L M)
def rbI(S:List (Int×Int)):Int:=match S.getLast? with
 |some c=>c.1+1
 |none=>0
def fol(cs S:List (Int×Int)):List (Int×Int):=cs.filter λc=>decide (rbI S<=c.1) && !decide (c.2∈S.map (·.2))
structure Std (cs L:List (Int×Int)):Prop where
 sub:∀p∈L,p∈cs
 rows:L.Pairwise λp q=>p.1<q.1
 cols:(L.map (·.2)).Nodup
theorem Std.nil{cs:List (Int×Int)}:Std cs []:=⟨λp hp=>(nomatch hp),.nil,.nil⟩
theorem Std.init{cs S:List (Int×Int)}{c:Int×Int}(h:Std cs (S++[c])):Std cs S/\c∈cs/\(∀p∈S,p.1<c.1)/\c.2∉S.map (·.2):=by
 have r:=Qa4.mp h.rows;have k:=h.cols;rw[Je] at k;have k:=YF.mp k;refine⟨⟨λp hp=>h.sub p (Qa5 _ hp),r.1,k.1⟩,h.sub c (by simp),λp hp=>r.2.2 p hp c (by simp),λz=>?_⟩;exact k.2.2 c.2 z c.2 (by simp) rfl
theorem Std.snoc{cs S:List (Int×Int)}{c:Int×Int}(h:Std cs S)(h1:c∈cs)(h2:∀p∈S,p.1<c.1)(h3:c.2∉S.map (·.2)):Std cs (S++[c]):=by
 refine⟨λp hp=>?_,Qa4.mpr ⟨h.rows,by simp,λp hp q hq=>?_⟩,?_⟩
 ·rcases QC.mp hp with z | z
  ·exact h.sub p z
  ·rw[Qy.mp z];exact h1
 ·rw[Qy.mp hq];exact h2 p hp
 ·rw[Je];refine YF.mpr ⟨h.cols,by simp,λa ha b hb e=>?_⟩;have hb:b=c.2:=by simpa using hb
  rw[e,hb] at ha;exact h3 ha
theorem Qp2{S:List (Int×Int)}(h:S.Pairwise λp q=>p.1<q.1){c:Int×Int}:(∀p∈S,p.1<c.1)∨¬rbI S<=c.1∨(S=[] ):=by
 by_cases z:S=[]
 ·exact .inr (.inr z)
 ·by_cases y:rbI S<=c.1
  ·refine .inl λp hp=>?_
   obtain⟨T,d,rfl⟩:∃T d,S=T++[d]:=⟨S.dropLast,S.getLast z,(JP z).symm⟩
   have y:d.1+1<=c.1:=by unfold rbI at y;rw[Qlo] at y;simpa using y
   rcases QC.mp hp with q | q
   ·have:=(Qa4.mp h).2.2 p q d (by simp);omega
   ·rw[Qy.mp q];omega
  ·exact .inr (.inl y)
theorem QeV{cs:List (Int×Int)}(h0:∀p∈cs,0<=p.1):∀(i:Nat)(L:List (Int×Int)),L∈Qfp cs i↔Std cs L/\∀p∈L,p.1<(i:Int)
 |0,L=>by
  constructor
  ·intro h;rw[Qy.mp h];exact⟨.nil,λp hp=>(nomatch hp)⟩
  ·rintro⟨s,h⟩;cases L with
   |nil=>exact .head _
   |cons a b=>
    have h1:=h a (.head _);have h2:=h0 a (s.sub a (.head _));exact absurd h1 (by show ¬a.1<0;omega)
 |i+1,L=>by
  show L∈Qfp cs i++(Qfp cs i).flatMap (Qok (Qia cs i))↔_;rw[QC,YX];constructor
  ·rintro(h | ⟨S,hS,hL⟩)
   ·obtain⟨a,b⟩:=(QeV h0 i L).mp h;exact⟨a,λp hp=>by have:=b p hp;omega⟩
   ·obtain⟨c,hc,hn,rfl⟩:=Qdk.mp hL;obtain⟨a,b⟩:=(QeV h0 i S).mp hS;have hc:=Ju.mp hc;have hr:c.1=(i:Int):=of_decide_eq_true hc.2;refine⟨a.snoc hc.1 (λp hp=>by rw[hr];exact b p hp) hn,λp hp=>?_⟩;rcases QC.mp hp with z | z
    ·have:=b p z;omega
    ·rw[Qy.mp z,hr];omega
  ·rintro⟨s,h⟩;by_cases z:L=[]
   ·left
    rw[z];exact QlM cs i
   ·obtain⟨S,c,rfl⟩:∃T d,L=T++[d]:=⟨L.dropLast,L.getLast z,(JP z).symm⟩
    obtain⟨s1,s2,s3,s4⟩:=s.init;have hc:=h c (by simp);by_cases y:c.1=(i:Int)
    ·right
     exact⟨S,(QeV h0 i S).mpr ⟨s1,λp hp=>by have:=s3 p hp;omega⟩,Qdk.mpr ⟨c,Ju.mpr ⟨s2,decide_eq_true y⟩,s4,rfl⟩⟩
    ·left
     refine(QeV h0 i _).mpr ⟨s,λp hp=>?_⟩;rcases QC.mp hp with q | q
     ·have:=s3 p q;omega
     ·rw[Qy.mp q];omega
end Rk
namespace Dl
open L2 _root_.Rd Rk
section
variable{X:Cx}{E:XK}{st:J7}{we:DE}
end
end Dl
namespace Rk
open L2 _root_.Rd Dl Rt
structure GB (h w:Nat) (cs:List (Int×Int)):Prop where
 bds:Bds h w cs
 srt:cs.Pairwise plt
 few:(Qfp cs h).length<=200000
theorem GB.r0{h w:Nat}{cs:List (Int×Int)}(g:GB h w cs):∀p∈cs,0<=p.1:=λp hp=>(g.bds.2.2 p hp).1
theorem GB.rh{h w:Nat}{cs:List (Int×Int)}(g:GB h w cs):∀p∈cs,p.1<(h:Int):=λp hp=>(g.bds.2.2 p hp).2.1
def QtD:DF:=λargs R _=>∃S:List (Int×Int),args=[.v (stT S)]/\R (.int (rbI S))
def QB0:DF:=λargs R _=>∃(h w:Nat)(cs S:List (Int×Int)),args=[.v (bdD h w cs),.v (stT S)]/\R (.list ((fol cs S).map pairD))
theorem Qvk{S:List (Int×Int)}{c:Int×Int}(h:S.getLast? = some c):atI (S.map pairD) (-1)=some (pairD c):=by
 obtain⟨xs,rfl⟩:=List.getLast?_eq_some_iff.mp h
 rw[Je];exact Qdw _ _
end Rk
namespace L2
section
variable{X:Cx}
end
end L2
namespace Dl
open L2 _root_.Rd Rk Rt
end Dl
namespace Rk
open L2 _root_.Rd Dl Rt
end Rk
namespace L2
open _root_.Rd
section
variable{X:Cx}
end
end L2
namespace Dl
open L2 _root_.Rd Rk Rt
section
variable{X:Cx}{E:XK}
end
end Dl
namespace Rk
open L2 _root_.Rd Dl Rt
def xts(cs:List (Int×Int)):Nat->List (Int×Int)->List (List (Int×Int))
 |0,S=>[S]
 |m+1,S=>(fol cs S).flatMap λc=>xts cs m (S++[c])
theorem Qn9(cs:List (Int×Int))(h:Nat):∀(i t:Nat),Wc cs h i t 0=1
 |0,_=>rfl
 |i+1,t=>by
  show Wc cs h i t 0+0=1;rw[Qn9 cs h i t];rfl
theorem Qzj{h w:Nat}{cs:List (Int×Int)}(g:GB h w cs){T:List (Int×Int)}(hT:∀p∈T,p∈cs)(m:Nat):∀i,i<=h->Wc cs h i (mkL T) (m+1)=sumZ (λc=>Wc cs h (h - (c.1+1).toNat) (mkL (T++[c])) m) (cs.filter λc=>decide (((h - i:Nat):Int)<=c.1) && !decide (c.2∈T.map (·.2)))
 |0,_=>by
  have e:cs.filter (λc=>decide (((h - 0:Nat):Int)<=c.1) && !decide (c.2∈T.map (·.2)))=[]:=by
   rw[Qcx];intro c hc;have:=g.rh c hc;rw[decide_eq_false (by omega)];exact Qp
  rw[e];rfl
 |i+1,hi=>by
  show Wc cs h i (mkL T) (m+1)+(if m+1=0 then 0 else Qip (Wc cs h i) (mkL T) (QkV cs (h - 1 - i)) (m+1 - 1))=_;rw[if_neg (by omega),QeA,Qzj g hT m i (by omega),QaS,QaS];unfold QkV Qia;rw[Qhh,QaS,<- Qjh];refine QdD λc hc=>?_
  have h0:=g.r0 c hc;have hh:=g.rh c hc;have em:=Qm5 (L:=T) (c:=c) (λp hp=>g.bds.nn p (hT p hp)) (g.bds.nn c hc);by_cases y:c.2∈T.map (·.2)
  ·have bt:(mkL T).testBit c.2.toNat=true:=by rw[QiT];exact decide_eq_true (em.mpr y)
   rw[decide_eq_true y,bt];simp
  ·have bn:(mkL T).testBit c.2.toNat=false:=by rw[QiT];exact decide_eq_false λq=>y (em.mp q)
   rw[decide_eq_false y,bn];simp only[Bool.not_false,Bool.and_true,decide_eq_true_eq,Qaq,if_false];rw[Qgz];by_cases z:c.1=((h - 1 - i:Nat):Int)
   ·rw[if_neg (by omega),if_pos z,if_pos (by omega),show h - (c.1+1).toNat=i by omega];omega
   ·rw[if_neg z,QfK];by_cases z2:((h - i:Nat):Int)<=c.1
    ·rw[if_pos z2,if_pos (by omega)]
    ·rw[if_neg z2,if_neg (by omega)]
theorem QjO{α β:Type}(g:α->List β):∀xs:List α,((xs.flatMap g).length:Int)=sumZ (λx=>((g x).length:Int)) xs
 |[]=>rfl
 |x::xs=>by
  rw[Qb2,Qj];show _=((g x).length:Int)+sumZ _ xs;rw[<- QjO g xs];omega
theorem QtJ(S:List (Int×Int))(c:Int×Int):rbI (S++[c])=c.1+1:=by
 unfold rbI;rw[Qlo];rfl
theorem Qxc{h w:Nat}{cs S:List (Int×Int)}(g:GB h w cs)(st:Std cs S):0<=rbI S/\rbI S<=h:=by
 unfold rbI;cases e:S.getLast? with
 |none=>exact⟨Qg5 _,by show(0:Int)<=h;omega⟩
 |some d=>
  have hd:=st.sub d (List.mem_of_getLast? e);have a:=g.r0 d hd;have b:=g.rh d hd;exact⟨by show 0<=d.1+1;omega,by show d.1+1<=h;omega⟩
theorem QgD{cs S:List (Int×Int)}{c:Int×Int}(st:Std cs S)(hc:c∈fol cs S):Std cs (S++[c]):=by
 have hc:=Ju.mp hc;have hc2:=QP.mp hc.2;refine st.snoc hc.1 ?_ (by simpa using hc2.2)
 rcases Qp2 st.rows (c:=c) with z | z | z
 ·exact z
 ·exact absurd (of_decide_eq_true hc2.1) z
 ·rw[z];exact λp hp=>(nomatch hp)
theorem Qij{h w:Nat}{cs:List (Int×Int)}(g:GB h w cs):∀(m:Nat)(S:List (Int×Int)),Std cs S->((xts cs m S).length:Int)=Wc cs h (h - (rbI S).toNat) (mkL S) m
 |0,S,_=>by rw[Qn9];rfl
 |m+1,S,st=>by
  have rb:=Qxc g st;show(((fol cs S).flatMap λc=>xts cs m (S++[c])).length:Int)=_;rw[QjO,Qzj g st.sub m _ (Nat.sub_le _ _)];have e:(((h - (h - (rbI S).toNat):Nat):Nat):Int)=rbI S:=by omega
  rw[e];refine QdD λc hc=>?_
  rw[Qij g m (S++[c]) (QgD st hc),QtJ]
theorem QCP{h w:Nat}(f:Nat->Nat->Bool)(h6:h<=6)(w6:w<=6):GB h w (Qv h w f):=by
 refine⟨⟨h6,w6,λp hp=>YD hp⟩,pw_cellsF w f h,Qt (Qji (λr=>Qis w h f r) h) ?_⟩;have c:(w+1)^h<=7^h:=Qov (by omega) _;have d:7^h<=7^6:=Z5 (by decide) h6;have e:(7:Nat)^6=117649:=rfl;omega
theorem Qtw{h w:Nat}{cs L:List (Int×Int)}(g:GB h w cs)(st:Std cs L):L.length<=min h w:=by
 have m:=(QeV g.r0 h L).mpr ⟨st,λp hp=>g.rh p (st.sub p hp)⟩;have a:=QeH h L m;have b:=QlL g.bds.col m;omega
theorem Qjd(cs:List (Int×Int))(h w:Nat):∀(i j:Nat),j<=i->(Qje cs h w i)[j]? = some (.list (Qio h w (Wc cs h (i - j))))
 |0,0,_=>rfl
 |i+1,0,_=>rfl
 |i+1,j+1,hj=>by
  show(Qje cs h w i)[j]? = _;rw[Qjd cs h w i j (by omega),show i+1 - (j+1)=i - j by omega]
theorem QxZ:∀t:Fin 64,∀c:Fin 6,(t:Nat).testBit c=false->(t:Nat) ||| 2^(c:Nat)=t+2^(c:Nat):=by decide
theorem Qsx{w:Nat}(w6:w<=6):∀{T S:List (Int×Int)},(∀p∈T++S,0<=p.2/\p.2<w)->((T++S).map (·.2)).Nodup->mkL T<2^w->((mkL T:Nat):Int)+(S.map λp=>(1*2^p.2.toNat:Int)).sum=((mkL (T++S):Nat):Int)/\mkL (T++S)<2^w
 |T,[],_,_,h=>by rw[Zn];exact⟨by show _+0=_;omega,h⟩
 |T,c::S,hb,nd,h=>by
  have hc:=hb c (by simp);have p64:2^w<=2^6:=Z5 (by decide) w6;have e64:(2:Nat)^6=64:=rfl;have nt:(mkL T).testBit c.2.toNat=false:=by
   rw[QiT];refine decide_eq_false λq=>?_
   have:=(Qm5 (L:=T) (c:=c) (λp hp=>(hb p (Qa5 _ hp)).1) hc.1).mp q;rw[Je,JB] at nd;exact(YF.mp nd).2.2 _ this c.2 (.head _) rfl
  have eo:mkL T ||| 2^c.2.toNat=mkL T+2^c.2.toNat:=QxZ ⟨mkL T,by omega⟩ ⟨c.2.toNat,by omega⟩ nt;have lt:mkL (T++[c])<2^w:=by rw[Qgz];exact QxX h (by omega)
  have e1:T++c::S=(T++[c])++S:=by simp
  have ih:=Qsx w6 (T:=T++[c]) (S:=S) (by rw[<- e1];exact hb) (by rw[<- e1];exact nd) lt;rw[e1];refine⟨?_,ih.2⟩;rw[<- ih.1,JB,Qi0,Qgz,eo];have:((2^c.2.toNat:Nat):Int)=(2:Int)^c.2.toNat:=by simp
  rw[Int.one_mul,<- this];omega
def QwC:DF:=λargs R _=>∃(h w:Nat)(cs S:List (Int×Int))(k:Nat),args=[.v (.list (Qje cs h w h)),.v (stT S),.v (.int k)]/\GB h w cs/\Std cs S/\k<=h/\R (.int ((xts cs k S).length:Nat))
def QhF(f:Nat->Nat->Bool):Nat->Nat->Bool:=λr c => !f r c
abbrev Tb:=List (List Int×Int)
section
variable(K:PySem.W.Frag)(P:Qm)(W:QZ)(u:Nat)
end
def cIw(f:Nat->Nat->Bool)(h w:Nat):List Int:=(QN (min h w+1)).map λk=>Wc (Qv h w f) h h 0 k
end Rk
namespace Dl
open L2 _root_.Rd Rk
section
variable{X:Cx}{E:XK}{we:DE}{i:Nat}
def QfZ(we:DE)(i:Nat):DS:=λD δ=>match δ[i]? with
 |some (.own ds)=>we δ (λd=>D.rt (.tuple [d,.list ds])) D.ex
 |_=>False
theorem Qmy{e f:QV}{x1}{tpos pos:Pos}(he:PE X e (tX .D X.K E we))(hf:PE X f (Qbq i))(h1:notStar e=true)(h2:notStar f=true):PS X (.Return (some (.Tuple [e,f] x1 tpos)) pos) (tS X.K E (QfZ we i)):=by
 refine PS.imp (JI (Ym (Zo he (Zo hf Qq h2) h1))) λD σ H ⟨F,δ,DD,rel,hw,en⟩=>?_
 unfold QfZ at hw;split at hw
 ·rename_i ds hd
  obtain⟨x,hx⟩:=rel.lt hd;refine⟨F,δ,_,DD.ex,rel,hw,λd hd' v H1 rel1 kp vk=>?_,en.ex⟩;obtain⟨l,xs,rfl,e,q,f⟩:=rel1.sl i _ _ hx hd;refine⟨_,hx,by show 2<=1000;decide,λa H2 s2 n2 e2=>?_⟩;have rel2:=rel1.same s2;refine en.rt _ hd' _ H2 rel2.ke (.tup (λz=>?_) e2 (.cons (Qrm (DA.same vk s2)) (.cons (.lst (λz=>?_) (s2 _ _ e) ((q.same s2).mv (λ_ _ _ e=>e) λa z=>.inl (.inl z))) .nil)))
  ·obtain⟨ys,e'⟩:=rel1.dom a z;rw[n2] at e';cases e'
  ·obtain⟨ys,e'⟩:=rel.dom0 l z;rw[f] at e';cases e'
 ·exact hw.elim
theorem Qjw(i:Nat){e:QV}{x:Str}{x1}{npos tpos pos:Pos}{we:DE}(he:QE .D X E e we)(hN:X.N[i]? = some x:=by rfl)(hv:Vis X.env.scope x:=by first | exact Qx rfl | exact QL (Qx rfl) | exact QL (QL rfl))(hd:(x == ("__debug__" : Str))=false:=by decide)(hcd:(x == ("__classdict__" : Str))=false:=by decide)(h1:notStar e=true:=by rfl) :
  QS X E (.Return (some (.Tuple [e,.Name x npos] x1 tpos)) pos) (QfZ we i):=⟨Qmy he.h (pv i hN hv hd hcd) h1 rfl⟩
def Qwg(k1 k2:Str)(p q r s:Qb)(x:Str)(y:Bool):Option Qb:=if x=k1 then some (if y then q else p) else if x=k2 then some (if y then s else r) else none
def QBg(k1 k2:Str)(p q r s:Qb)(i j:Nat):DE:=λδ Q _=>match δ[i]?,δ[j]? with
 |some (.v (.str x)),some (.v (.bool y))=>match Qwg k1 k2 p q r s x y with
  |some d=>Q d
  |none=>False
 |_,_=>False
theorem QxI{e:QV}{k1 k2:Str}{p q r s:V}{dp dq dr ds:Qb}{j:Nat}(hp:∀A H,DA A H p dp)(hq:∀A H,DA A H q dq)(hr:∀A H,DA A H r dr)(hs:∀A H,DA A H s ds)(hk:k1≠k2)
  (h:PE X e (tOp (Qwh X.K) (QwQ (QwP [(tC (.str k1),Qtt (Qae (tC p) (Qae (tC q) Qej))),(tC (.str k2),Qtt (Qae (tC r) (Qae (tC s) Qej)))]) (Qbq i)) (tCB QtM (Qae (Qbq j) Qej)))):PE X e (tX .D X.K E (QBg k1 k2 dp dq dr ds i j)):=by
 refine PE.imp h λσ H Q ⟨F,δ,R,EX,rel,hw,k,o⟩=>?_
 unfold QBg at hw;split at hw
 ·rename_i x y hx hy
  split at hw
  ·rename_i d hd
   obtain⟨vx,hvx⟩:=rel.lt hx;obtain⟨vy,hvy⟩:=rel.lt hy;obtain⟨vx',rfl,qx⟩:=rel.sl i _ _ hvx hx;obtain⟨vy',rfl,qy⟩:=rel.sl j _ _ hvy hy;cases qx;cases qy;intro a na;refine⟨by show 2<=1000;decide,λl1 H1 s1 n1 e1=>⟨by show 2<=1000;decide,λl2 H2 s2 n2 e2=>?_⟩⟩;have s12:=s1.trans s2;have s0:Same H (upd H a (.dK [])):=λb u hb=>by rw[QK (Q7 hb na)];exact hb
   have ea:=s12 _ _ (show upd H a (.dK []) a=some (.dK []) from upd_same);have kx:∀u,Same H (upd H2 a u):=λu b v hb=>by rw[QK (Q7 hb na)];exact s12 _ _ (s0 _ _ hb)
   have a1:l1≠a:=QaY (s2 _ _ e1) ea (λz=>nomatch z);have a2:l2≠a:=QaY e2 ea (λz=>nomatch z);have em:QfV [] [(Js k1,.ref l1),(Js k2,.ref l2)]=[((Js k1:Key),V.ref l1),(Js k2,V.ref l2)]:=by
    show Qoi (Qoi [] (Js k1:Key) (V.ref l1)) (Js k2) (V.ref l2)=_;show(if([((Js k1:Key),V.ref l1)].any λkv=>decide (kv.1=Js k2))=true then _ else _)=_;rw[if_neg (by simp[hk])];rfl
   refine⟨ea,[(Js k1,.ref l1),(Js k2,.ref l2)],rfl,by show 2<=15;decide,_,hvx,a,?_⟩;rw[em];have g:=DGet.k (k:=Js x) (upd_same:upd H2 a (.dK [((Js k1:Key),V.ref l1),(Js k2,V.ref l2)]) a=_);have fin:∀(l:Addr)(u v:V)(du dv:Qb),l≠a->H2 l=some (.lst [u,v])->(∀A H,DA A H u du)->(∀A H,DA A H v dv)->d=(if y=true then dv else du)->Qlu [((Js k1:Key),V.ref l1),(Js k2,V.ref l2)] (Js x)=some (.ref l) ->
     ∃w,V.ref a=.ref a/\DGet (upd H2 a (.dK [((Js k1:Key),V.ref l1),(Js k2,V.ref l2)])) a (.str x) (some w)/\tCB QtM (Qae (Qbq j) Qej) σ (upd H2 a (.dK [((Js k1:Key),V.ref l1),(Js k2,V.ref l2)])) λz H3=>Qwh X.K w z H3 Q:=by
    intro l u v du dv nl el hu hv ed ev;refine⟨.ref l,rfl,by rw[<- ev];exact g,_,hvy,.inr ⟨y,rfl,?_⟩⟩;have el':(upd H2 a (.dK [((Js k1:Key),V.ref l1),(Js k2,V.ref l2)])) l=some (.lst [u,v]):=by rw[QK nl];exact el
    cases y with
    |true=>exact⟨l,_,_,v,rfl,rfl,SqL.of el',Q3 (j:=1) rfl,k d hw v _ (rel.same (kx _)) (Kp.same rel (kx _)) (by rw[ed];exact hv _ _)⟩
    |false=>exact⟨l,_,_,u,rfl,rfl,SqL.of el',Q3 (j:=0) rfl,k d hw u _ (rel.same (kx _)) (Kp.same rel (kx _)) (by rw[ed];exact hu _ _)⟩
   unfold Qwg at hd;split at hd
   ·rename_i z
    cases hd;refine fin l1 p q dp dq a1 (s2 _ _ e1) hp hq rfl ?_
    exact Qep (by show(Js k1:Key)=Js x;rw[z])
   ·rename_i z
    split at hd
    ·rename_i z2
     cases hd;refine fin l2 r s dr ds a2 e2 hr hs rfl ?_
     rw[Qgd (λy=>z (Qj9 (show(Js k1:Key)=Js x from y)).symm)];exact Qep (by show(Js k2:Key)=Js x;rw[z2])
    ·cases hd
  ·exact hw.elim
 ·exact hw.elim
theorem Qxs(i j:Nat){x y k1 k2:Str}{a1 a2 b1 b2:QV}{c1 c2}{p1 p2 p3 p4 p5 p6 p7 p8 p9 q1 q2:Pos}{p q r s:V}{dp dq dr ds:Qb}(hg:Gl X "int")(hm:X.mg "int" = none)(hp:∀A H,DA A H p dp)(hq:∀A H,DA A H q dq)(hr:∀A H,DA A H r dr)(hs:∀A H,DA A H s ds)(hk:k1≠k2)(hu:X.A.units+1<cLine)
  (ha1:PE X a1 (tC p))(ha2:PE X a2 (tC q))(hb1:PE X b1 (tC r))(hb2:PE X b2 (tC s))(n1:notStar a1=true:=by rfl)(n2:notStar a2=true:=by rfl)(n3:notStar b1=true:=by rfl)(n4:notStar b2=true:=by rfl)
  (hN:X.N[i]? = some x:=by rfl)(hv:Vis X.env.scope x:=by first | exact Qx rfl | exact QL (Qx rfl) | exact QL (QL rfl))(hd:(x == ("__debug__" : Str))=false:=by decide)(hcd:(x == ("__classdict__" : Str))=false:=by decide)
  (hN':X.N[j]? = some y:=by rfl) (hv':Vis X.env.scope y:=by first | exact Qx rfl | exact QL (Qx rfl) | exact QL (QL rfl)) (hd':(y == ("__debug__" : Str))=false:=by decide) (hcd':(y == ("__classdict__" : Str))=false:=by decide) :
  QE .D X E (.Subscript (.Subscript (.Dict [some (.Constant (.str k1) c1 p1),some (.Constant (.str k2) c2 p2)] [.List [a1,a2] q1,.List [b1,b2] q2] p3) (.Name x p4) p5) (.Call (.Name "int" p6) [.Name y p7] [] p8) p9) (QBg k1 k2 dp dq dr ds i j):=
 ⟨QxI hp hq hr hs hk (Yo Zu (Qt4 hu (Qt3 (QjA Jb (Za (Zo ha1 (Zo ha2 Qq n2) n1)) (QjA Jb (Za (Zo hb1 (Zo hb2 Qq n4) n3)) QtY)) rfl rfl (by simp) (by show 2<=15;decide)) (pv i hN hv hd hcd) (λ_ _=>rfl)) (ZT Qfe hg hm Qdv (Qk (pv j hN' hv' hd' hcd') Qq)) (λ_ _=>rfl))⟩
end
def N0:Addr->Prop:=λ_=>False
def SlV(H:Hp)(o:Option V):Sl->Prop
 |.no=>True
 |.v d=>∃v,o=some v/\DA N0 H v d
 |_=>False
theorem QfQ{α β:Type}{F:α->β->Prop}:∀{l₁:List α}{l₂:List β},Zw F l₁ l₂->∀(i:Nat) a b,l₁[i]? = some a->l₂[i]? = some b->F a b
 |_,_,.nil,i,a,b,e,_=>by simp at e
 |_,_,.cons r t,0,a,b,e1,e2=>by simp at e1 e2;subst e1;subst e2;exact r
 |_,_,.cons r t,i+1,a,b,e1,e2=>QfQ t i a b (by simpa using e1) (by simpa using e2)
theorem Qsh{α β:Type}{F:α->β->Prop}:∀{l₁:List α}{l₂:List β},Zw F l₁ l₂->l₁.length=l₂.length
 |_,_,.nil=>rfl
 |_,_,.cons _ t=>by rw[Qu,Qu,Qsh t]
theorem Qiu{σ:L2.St}{δ:Sts}{H:Hp}(p:Zw (SlV H) σ δ){i:Nat}{a:Addr}(h:QBx σ δ i a):False:=by
 obtain⟨h1,h2⟩:=h;rcases h2 with h2 | ⟨ds,h2⟩
 ·exact QfQ p i _ _ h1 h2
 ·exact QfQ p i _ _ h1 h2
theorem Qsb{K:PySem.W.Frag}{σ:L2.St}{δ:Sts}{H:Hp}(p:Zw (SlV H) σ δ):Rel K ⟨H,N0,N0⟩ σ H δ where
 len:=Qsh p
 dom:=λ_ z=>z.elim
 dom0:=λ_ z=>z.elim
 pt0:=λ_ z=>z.elim
 kx:=λ_ _ _ e=>e
 sl:=λi o x e1 e2=>by
  have h:=QfQ p i o x e1 e2;cases x with
  |no=>exact JF
  |v d=>
   obtain⟨v,rfl,q⟩:=h;exact⟨v,rfl,q.mv (λ_ _ _ e=>e) λa z=>z.elim (λz=>.inl z) λ⟨i,z⟩=>(Qiu p z).elim⟩
  |own ds=>exact h.elim
  |pk ds=>exact h.elim
  |pot=>exact h.elim
  |scr=>exact h.elim
 inj:=λi j a ds _ _ h=>(Qiu p h).elim
theorem Qnb{σ:L2.St}{δ:Sts}{H H0 H':Hp}(p:Zw (SlV H0) σ δ)(k:Kp σ δ H H'):Same H H':=λb o e=>k.1 b o (λ⟨i,h1,h2⟩=>Qiu p ⟨h1,.inl h2⟩) e
theorem hyT{K:PySem.W.Frag}{E:XK}{w:DT}{σ:L2.St}{H:Hp}{Q:Bool->Hp->Prop}(δ:Sts)(p:Zw (SlV H) σ δ)(hw:w δ (λb=>∀H',Same H H'->Q b H') XF):tT K E w σ H Q:=
 ⟨⟨H,N0,N0⟩,δ,_,XF,Qsb p,hw,λb hb H' _ kp=>hb H' (Qnb p kp),λ_ z=>z.elim⟩
theorem hyF{K:PySem.W.Frag}{E:XK}{w:DE}{σ:L2.St}{H:Hp}{Q:VK}(δ:Sts)(p:Zw (SlV H) σ δ)(hw:w δ (λd=>∀v H',Same H H'->DA N0 H' v d->Q v H') XF):tX .F K E w σ H Q:=
 ⟨⟨H,N0,N0⟩,δ,_,XF,Qsb p,hw,λd hd v H' _ kp vk=>hd v H' (Qnb p kp) (DA.mv vk.1 (λ_ _ _ e=>e) λa z=>z.elim),λ_ z=>z.elim⟩
theorem spD{fr:Bool}{f:DF}{vs:List V}{H:Hp}{Q:VK}{Ex:XK}{args:List Sl}(R:Qb->Prop)(EX:XP)(q:Zw (QiZ N0 N0 H) vs args)(h:f args R EX)(k:∀d,R d->∀v H',Same H H'->DA N0 H' v d->(fr=true->FrV H H' v)->Q v H')(kx:∀C,EX C->∀H',Same H H'->Ex (.ref C) none H'):ZN fr f vs H Q Ex:=
 ⟨N0,N0,args,R,EX,λ_ z=>z.elim,λ_ z=>z.elim,q,h,λd hd v H' kq=>k d hd v H' λb o e=>kq.1 b o (λz=>z.elim) e,λC hC H' kq=>kx C hC H' λb o e=>kq.1 b o (λz=>z.elim) e⟩
mutual
def flT:Qb->Bool
 |.none=>true
 |.bool _=>true
 |.int _=>true
 |.str _=>true
 |.tuple ds=>Qrf ds
 |_=>false
def Qrf:List Qb->Bool
 |[]=>true
 |d::ds=>flT d&&Qrf ds
end
mutual
theorem QvG{A A':Addr->Prop}{H H':Hp}(k:∀a xs,H a=some (.tup xs)->H' a=some (.tup xs))(m:∀a,A' a->∃xs,H' a=some (.lst xs)):∀(d:Qb)(x:V),flT d=true->DA A H x d->DA A' H' x d
 |.none,_,_,.non=>.non
 |.bool _,_,_,.bl _=>.bl _
 |.int _,_,_,.int _=>.int _
 |.str _,_,_,.str _ c=>.str _ c
 |.tuple ds,_,f,.tup (xs:=xs) n e q=>.tup (λz=>by obtain⟨ys,e'⟩:=m _ z;rw[k _ _ e] at e';cases e') (k _ _ e) (QnB k m ds xs f q)
theorem QnB{A A':Addr->Prop}{H H':Hp}(k:∀a xs,H a=some (.tup xs)->H' a=some (.tup xs))(m:∀a,A' a->∃xs,H' a=some (.lst xs)):∀(ds:List Qb)(xs:List V),Qrf ds=true->DAs A H xs ds->DAs A' H' xs ds
 |[],_,_,.nil=>.nil
 |d::ds,_,f,.cons (x:=x) (xs:=xs) q qs=>by
  have f':=QP.mp (show(flT d&&Qrf ds)=true from f);exact .cons (QvG k m d x f'.1 q) (QnB k m ds xs f'.2 qs)
end
theorem QjV{ds:List Qb}(h:∀d∈ds,flT d=true):Qrf ds=true:=by
 induction ds with
 |nil=>rfl
 |cons d ds ih=>
  show(flT d&&Qrf ds)=true;rw[h d (.head _),ih λx hx=>h x (.tail _ hx)];rfl
theorem Qre(cs:List (Int×Int)):Qrf (cs.map Rk.pairD)=true:=QjV λd hd=>by
 obtain⟨p,_,rfl⟩:=Qw.mp hd;rfl
theorem QBc(h w:Int)(cs:List (Int×Int)):flT (bdD h w cs)=true:=by
 show(true&&(true&&(Qrf (cs.map Rk.pairD)&&true)))=true;rw[Qre];rfl
theorem QkW{A:Addr->Prop}{H:Hp}{v:V}{h w:Int}{cs:List (Int×Int)}(q:DA A H v (bdD h w cs)):∃a c ps,v=.ref a/\H a=some (.tup [.int h,.int w,.ref c])/\H c=some (.tup ps)/\DA A H (.ref c) (.tuple (cs.map Rk.pairD)):=by
 cases q with
 |tup n e q=>cases q with
  |cons q1 q=>cases q with
   |cons q2 q=>cases q with
    |cons q3 q=>
     cases q;cases q1;cases q2;cases q3 with
     |tup n2 e2 q2=>exact⟨_,_,_,rfl,e,e2,.tup n2 e2 q2⟩
end Dl
namespace L2
open PySem.Calls
section
variable(P:Qm)(w:QZ)(K:PySem.W.Frag)(mg:Str->Option Value)(base:JS)
structure Cal (CX:CXT) (k:Nat) (x:Str) (sp:Sp):Prop where
 ex:∃f fd ps,mg x=some (.ref f)/\FnOk P w K mg base CX k f fd ps sp/\Binds K fd ps []/\PySem.W.keepIn K (.ref f)=true
structure CalM (CX:CXT) (k:Nat) (C:Addr) (m:Str) (sp:Sp):Prop where
 ex:∃f fd ps,Meth K C m f/\FnOk P w K mg base CX k f fd ps sp/\Binds K fd ps []
structure CalI (k:Nat) (C:Addr) (x:Str) (sp:Sp):Prop where
 ex:∃f fd ps,Mk K C f/\FnOk P w K mg base CX0 k f fd ps sp/\Binds K fd ps []/\mg x=some (.ref C)
end
structure DefC (P:Qm) (w:QZ) (K:PySem.W.Frag) (mg:Str->Option Value) (base:JS) (x:Str) (st:J7):Prop where
 ex:∃f fd,mg x=some (.ref f)/\Fun K x x st f fd
structure MthC (P:Qm) (w:QZ) (K:PySem.W.Frag) (mg:Str->Option Value) (base:JS) (C:Addr) (m qual:Str) (st:J7):Prop where
 ex:∃f fd,Meth K C m f/\Fun K m qual st f fd
def Bnd(x qual:Str)(st:J7)(ps:List Str):Prop:=∀(kV doc pm:Value)(an:Option Addr)(cdv ct:Value)(us:List Value),us.length=ps.length->bindArgs (PySem.W.fnOf x qual (QcO st) (ZU st) (QU st) .none kV doc pm an cdv ct) ⟨us,[]⟩=pure (ps.zip us)
theorem us1{p:List Value->Prop}(h:∀a,p [a]):∀us,us.length=1->p us
 |[a],_=>h a
theorem us2{p:List Value->Prop}(h:∀a b,p [a,b]):∀us,us.length=2->p us
 |[a,b],_=>h a b
theorem us3{p:List Value->Prop}(h:∀a b c,p [a,b,c]):∀us,us.length=3->p us
 |[a,b,c],_=>h a b c
theorem us5{p:List Value->Prop}(h:∀a b c d e,p [a,b,c,d,e]):∀us,us.length=5->p us
 |[a,b,c,d,e],_=>h a b c d e
section
variable{P:Qm}{w:QZ}{K:PySem.W.Frag}{mg:Str->Option Value}{base:JS}{x:Str}{st:J7}{k:Nat}{sp:Sp}{C:Addr}{m qual:Str}
theorem okv(N:List Str)(n:Nat)(F:DefC P w K mg base x st)
  (hbody:∀{f:Addr}(cdv:Value)(A:Q1)(outer:List Env)(s:Shared)(H:Hp)(vs:List V)(Q:VK)(E:XK),N.Nodup->Room k (A.deeper (envOfC x (QU st) s.heap.objs.size f cdv))->sp vs H Q E ->
   ∃t,PSs (cxOf CX0 P w K mg base N x (QU st) f cdv A outer s H E).nox (ZU st) t/\t { nx:=λ_ H'=>Q .non H',rt:=Q } (start N vs) H)
  (S:Yb N (N.take n) (QU st):=by exact⟨rfl,rfl,rfl,by decide,rfl,by decide,by decide⟩)
  (len:∀vs H Q E,sp vs H Q E->vs.length=(N.take n).length:=by
   intro _ _ _ _ h
   first | (obtain⟨rfl,_⟩:=h;rfl) | (obtain⟨_,rfl,_⟩:=h;rfl) | (obtain⟨_,_,rfl,_⟩:=h;rfl) | (obtain⟨_,_,_,rfl,_⟩:=h;rfl) | (obtain⟨_,_,_,_,rfl,_⟩:=h;rfl) | (obtain⟨_,_,_,_,_,rfl,_⟩:=h;rfl) | (obtain⟨_,_,_,_,_,_,rfl,_⟩:=h;rfl) | (obtain⟨_,_,_,_,_,_,_,rfl,_⟩:=h;rfl) | (obtain⟨_,_,_,_,_,_,_,_,rfl,_⟩:=h;rfl))
  (b:Bnd x x st (N.take n):=by exact λ_ _ _ _ _ _=>by first | exact us1 λ_=>rfl | exact us2 λ_ _=>rfl | exact us3 λ_ _ _=>rfl):Cal P w K mg base CX0 (k+1) x sp:=by
 obtain⟨f,fd,e,F⟩:=F.ex;exact⟨f,fd,_,e,F.ok S len λcdv A outer s H vs Q E hr h=>hbody cdv A outer s H vs Q E S.nd hr h,F.binds b,F.kp⟩
theorem okx(N:List Str)(n:Nat)(F:DefC P w K mg base x st)
  (hbody:∀{f:Addr}(cdv:Value)(A:Q1)(outer:List Env)(s:Shared)(H:Hp)(vs:List V)(Q:VK)(E:XK),N.Nodup->Room k (A.deeper (envOfC x (QU st) s.heap.objs.size f cdv))->sp vs H Q E ->
   ∃t,PSs (cxOf (Rx.CXE P w) P w K mg base N x (QU st) f cdv A outer s H E) (ZU st) t/\t { nx:=λ_ H'=>Q .non H',rt:=Q } (start N vs) H)
  (S:Yb N (N.take n) (QU st):=by exact⟨rfl,rfl,rfl,by decide,rfl,by decide,by decide⟩)
  (len:∀vs H Q E,sp vs H Q E->vs.length=(N.take n).length:=by
   intro _ _ _ _ h
   first | (obtain⟨_,_,_,_,rfl,_⟩:=h;rfl) | (obtain⟨_,_,_,_,_,_,_,_,rfl,_⟩:=h;rfl))
  (b:Bnd x x st (N.take n):=by exact λ_ _ _ _ _ _=>by first | exact us1 λ_=>rfl | exact us3 λ_ _ _=>rfl):Cal P w K mg base (Rx.CXE P w) (k+1) x sp:=by
 obtain⟨f,fd,e,F⟩:=F.ex;exact⟨f,fd,_,e,Rx.okE F S len λcdv A outer s H vs Q E hr h=>hbody cdv A outer s H vs Q E S.nd hr h,F.binds b,F.kp⟩
theorem okm(N:List Str)(n:Nat)(F:MthC P w K mg base C m qual st)
  (hbody:∀{f:Addr}(cdv:Value)(A:Q1)(outer:List Env)(s:Shared)(H:Hp)(vs:List V)(Q:VK)(E:XK),N.Nodup->Room k (A.deeper (envOfC qual (QU st) s.heap.objs.size f cdv))->sp vs H Q E ->
   ∃t,PSs (cxOf CX0 P w K mg base N qual (QU st) f cdv A outer s H E).nox (ZU st) t/\t { nx:=λ_ H'=>Q .non H',rt:=Q } (start N vs) H)
  (S:Yb N (N.take n) (QU st):=by exact⟨rfl,rfl,rfl,by decide,rfl,by decide,by decide⟩)
  (len:∀vs H Q E,sp vs H Q E->vs.length=(N.take n).length:=by
   intro _ _ _ _ h
   first | (obtain⟨_,_,rfl,_⟩:=h;rfl) | (obtain⟨_,_,_,_,rfl,_⟩:=h;rfl) | (obtain⟨_,_,_,_,_,_,rfl,_⟩:=h;rfl))
  (b:Bnd m qual st (N.take n):=by exact λ_ _ _ _ _ _=>by first | exact us1 λ_=>rfl | exact us2 λ_ _=>rfl):CalM P w K mg base CX0 (k+1) C m sp:=by
 obtain⟨f,fd,e,F⟩:=F.ex;exact⟨f,fd,_,e,F.ok S len λcdv A outer s H vs Q E hr h=>hbody cdv A outer s H vs Q E S.nd hr h,F.binds b⟩
theorem Qss(N:List Str)(n:Nat)(F:MthC P w K mg base C m qual st)
  (hbody:∀{f:Addr}(cdv:Value)(A:Q1)(outer:List Env)(s:Shared)(H:Hp)(vs:List V)(Q:VK)(E:XK),N.Nodup->Room k (A.deeper (envOfC qual (QU st) s.heap.objs.size f cdv))->sp vs H Q E ->
   ∃t,PSs (cxOf (Rx.CXE P w) P w K mg base N qual (QU st) f cdv A outer s H E) (ZU st) t/\t { nx:=λ_ H'=>Q .non H',rt:=Q } (start N vs) H)
  (S:Yb N (N.take n) (QU st):=by exact⟨rfl,rfl,rfl,by decide,rfl,by decide,by decide⟩)
  (len:∀vs H Q E,sp vs H Q E->vs.length=(N.take n).length:=by
   intro _ _ _ _ h
   first | (obtain⟨_,_,_,_,rfl,_⟩:=h;rfl) | (obtain⟨_,_,_,_,_,_,_,_,rfl,_⟩:=h;rfl))
  (b:Bnd m qual st (N.take n):=by exact λ_ _ _ _ _ _=>by first | exact us1 λ_=>rfl | exact us2 λ_ _=>rfl | exact us3 λ_ _ _=>rfl):CalM P w K mg base (Rx.CXE P w) (k+1) C m sp:=by
 obtain⟨f,fd,e,F⟩:=F.ex;exact⟨f,fd,_,e,Rx.okE F S len λcdv A outer s H vs Q E hr h=>hbody cdv A outer s H vs Q E S.nd hr h,F.binds b⟩
end
section
variable{X:Cx}{CX:CXT}{E:XK}{k j:Nat}{C:Addr}{x m:Str}{sp:Sp}{p pos apos:Pos}{e o:QV}{es:List QV}{t:TA}{ta:TE}{pl:Sem Bool}
theorem QdL(c:Cal X.prog X.w X.K X.mg X.base CX k x sp)(hr:Room j X.A)(hx:Y8 CX X E)(ha:PA X (e::es) t)(h:k<=j:=by decide)(hg:Gl X x:=by rfl)(hdb:(x == ("__debug__" : Str))=false:=by decide)(he:starEach (e::es) X.env=(false,eval e X.env)::starEach es X.env:=by rfl)(hpl:(backTo pos (starEach es X.env)).any (·.1)=false:=by rfl) :
  PE X (.Call (.Name x p) (e::es) [] pos) (Qkr sp [] E t):=by
 obtain⟨f,fd,ps,hm,F,hb,hk⟩:=c.ex;exact Qiv F (hr.mono h) hg hm hk hb .nil hx ha hdb he hpl
theorem Zj(c:Cal X.prog X.w X.K X.mg X.base CX0 k x sp)(hr:Room j X.A)(ha:PA X (e::es) t)(h:k<=j:=by decide)(hg:Gl X x:=by rfl)(hdb:(x == ("__debug__" : Str))=false:=by decide)(he:starEach (e::es) X.env=(false,eval e X.env)::starEach es X.env:=by rfl)(hpl:(backTo pos (starEach es X.env)).any (·.1)=false:=by rfl) :
  PE X (.Call (.Name x p) (e::es) [] pos) (Qkr sp [] E0 t):=QdL c hr Qdf ha h hg hdb he hpl
theorem QaK(he:PE X o ta)(cl:Cls X.K C)(c:CalM X.prog X.w X.K X.mg X.base CX k C m sp)(hr:Room j X.A)(hx:Y8 CX X E)(ha:PA X (e::es) t)(h:k<=j:=by decide)
  (hst:starEach (e::es) X.env=(false,eval e X.env)::starEach es X.env:=by rfl)(hpl:(backTo pos (starEach es X.env)).any (·.1)=false:=by rfl)
  (ht:eval (.Call (.Attribute o m apos) (e::es) [] pos) X.env=(do
   let ov <- eval o X.env
   standAt apos.atName
   let (f,first) <- holding [ov] (getMethod ov m pl)
   callWith pos f first (backTo pos (starEach (e::es) X.env)) (backToKw pos (keywordEach [] X.env))):=by rfl) :
  PE X (.Call (.Attribute o m apos) (e::es) [] pos) (QoF C m sp [] E ta t):=by
 obtain⟨f,fd,ps,hm,F,hb⟩:=c.ex;exact Qt1 he cl hm F (hr.mono h) hb .nil hx ha hst hpl ht
theorem Yn(he:PE X o ta)(cl:Cls X.K C)(c:CalM X.prog X.w X.K X.mg X.base CX k C m sp)(hr:Room j X.A)(hx:Y8 CX X E)(h:k<=j:=by decide)
  (ht:eval (.Call (.Attribute o m apos) [] [] pos) X.env=(do
   let ov <- eval o X.env
   standAt apos.atName
   let (f,first) <- holding [ov] (getMethod ov m pl)
   callWith pos f first (backTo pos (starEach [] X.env)) (backToKw pos (keywordEach [] X.env))):=by rfl) :
  PE X (.Call (.Attribute o m apos) [] [] pos) (QoF C m sp [] E ta Qej):=by
 obtain⟨f,fd,ps,hm,F,hb⟩:=c.ex;exact Qo4 he cl hm F (hr.mono h) hb .nil hx ht
theorem Qba(i:Nat){pos':Pos}{te:TE}(hN:X.N.Nodup)(he:PE X e te)(hi:X.N[i]? = some x:=by rfl)(hx:Loc X.env.scope x:=by first | exact Qx rfl | exact QL rfl)(hs:swapsWith e (some (.Name x pos')) pos.line X.env=pure false:=by rfl)(hf:X.fn x=true∨X.env.scope.names.lookup x=some .local:=by first | exact .inl rfl | exact .inr rfl | assumption) :
  PS X (.Assign [.Name x pos'] e pos) (QoG te (Qbc i)):=Yk hN hi hx he hs hf
theorem Qcu(i:Nat)(hN:X.N.Nodup)(hi:X.N[i]? = some x:=by rfl)(hx:Loc X.env.scope x:=by first | exact Qx rfl | exact QL rfl)(hf:X.fn x=true∨X.env.scope.names.lookup x=some .local:=by first | exact .inl rfl | exact .inr rfl | assumption):PG X (.Name x pos) (Qbc i):=Yv hN hi hx hf
theorem Qsn(c:CalI X.prog X.w X.K X.mg X.base k C x sp)(hr:Room j X.A)(h:k+1<=j:=by decide)(hg:Gl X x:=by rfl)(hdb:(x == ("__debug__" : Str))=false:=by decide):PE X (.Call (.Name x p) [] [] pos) (QwO C sp [] E0 Qej):=by
 obtain⟨f,fd,ps,M,F,hb,hm⟩:=c.ex;exact Qo5 M F (hr.mono h) hg hm hb .nil Qdf hdb
end
end L2
namespace Dl
open L2 _root_.Rd Rk
section
variable{P:Qm}{w:QZ}{K:PySem.W.Frag}{mg:Str->Option Value}{base:JS}{x:Str}{st:J7}{k:Nat}{fD:DF}
theorem okq(N:List Str)(n:Nat)(fr:Bool)(F:DefC P w K mg base x st)
  (hbody:∀{f:Addr}(cdv:Value)(A:Q1)(outer:List Env)(s:Shared)(H:Hp)(E:XK),N.Nodup->Room k (A.deeper (envOfC x (QU st) s.heap.objs.size f cdv))->(A.deeper (envOfC x (QU st) s.heap.objs.size f cdv)).units+60<cLine->(A.deeper (envOfC x (QU st) s.heap.objs.size f cdv)).in1.units+60<cLine ->
   ∃wd,QSs (cxOf CX0 P w K mg base N x (QU st) f cdv A outer s H E).nox E0 (ZU st) wd/\∀args R EX,fD args R EX->wd (QhP fr R XF) (stD N args))
  (S:Yb N (N.take n) (QU st):=by exact⟨rfl,rfl,rfl,by decide,rfl,by decide,by decide⟩)
  (len:∀args R EX,fD args R EX->args.length=(N.take n).length:=by
   intro _ _ _ h
   first | (obtain⟨rfl,_⟩:=h;rfl) | (obtain⟨_,rfl,_⟩:=h;rfl) | (obtain⟨_,_,rfl,_⟩:=h;rfl) | (obtain⟨_,_,_,rfl,_⟩:=h;rfl) | (obtain⟨_,_,_,_,rfl,_⟩:=h;rfl) | (obtain⟨_,_,_,_,_,rfl,_⟩:=h;rfl) | (obtain⟨_,_,_,_,_,_,rfl,_⟩:=h;rfl) | (obtain⟨_,_,_,_,_,_,_,rfl,_⟩:=h;rfl))
  (b:Bnd x x st (N.take n):=by exact λ_ _ _ _ _ _=>by first | exact us1 λ_=>rfl | exact us2 λ_ _=>rfl | exact us3 λ_ _ _=>rfl | exact us5 λ_ _ _ _ _=>rfl):Cal P w K mg base CX0 (k+1) x (ZN fr fD):=by
 obtain⟨f,fd,e,F⟩:=F.ex;exact⟨f,fd,_,e,okQ fr F S len λcdv A outer s H E hr=>hbody cdv A outer s H E S.nd hr (Room.u60 hr) (Room.i60 hr),F.binds b,F.kp⟩
theorem QzC(N:List Str)(n:Nat)(fr:Bool)(F:DefC P w K mg base x st)
  (hbody:∀{f:Addr}(cdv:Value)(A:Q1)(outer:List Env)(s:Shared)(H:Hp)(E:XK),N.Nodup->Room k (A.deeper (envOfC x (QU st) s.heap.objs.size f cdv))->(A.deeper (envOfC x (QU st) s.heap.objs.size f cdv)).units+60<cLine->(A.deeper (envOfC x (QU st) s.heap.objs.size f cdv)).in1.units+60<cLine ->
   ∃wd,QSs (cxOf (Rx.CXE P w) P w K mg base N x (QU st) f cdv A outer s H E) E (ZU st) wd/\∀args R EX,fD args R EX->wd (QhP fr R EX) (stD N args))
  (S:Yb N (N.take n) (QU st):=by exact⟨rfl,rfl,rfl,by decide,rfl,by decide,by decide⟩)
  (len:∀args R EX,fD args R EX->args.length=(N.take n).length:=by
   intro _ _ _ h
   first | (obtain⟨_,rfl,_⟩:=h;rfl) | (obtain⟨_,_,_,rfl,_⟩:=h;rfl))
  (b:Bnd x x st (N.take n):=by exact λ_ _ _ _ _ _=>by first | exact us1 λ_=>rfl | exact us2 λ_ _=>rfl | exact us3 λ_ _ _=>rfl):Cal P w K mg base (Rx.CXE P w) (k+1) x (ZN fr fD):=by
 obtain⟨f,fd,e,F⟩:=F.ex;exact⟨f,fd,_,e,QCI fr F S len λcdv A outer s H E hr=>hbody cdv A outer s H E S.nd hr (Room.u60 hr) (Room.i60 hr),F.binds b,F.kp⟩
end
section
variable{X:Cx}{CX:CXT}{E:XK}{k j:Nat}{x:Str}{p pos:Pos}{e:QV}{es:List QV}{fD:DF}{wa:DSl}
theorem Qsg(c:Cal X.prog X.w X.K X.mg X.base CX k x (ZN false fD))(hr:Room j X.A)(hx:Y8 CX X E)(ha:QAs X E (e::es) wa)(h:k<=j:=by decide)(hg:Gl X x:=by rfl)(hdb:(x == ("__debug__" : Str))=false:=by decide)(he:starEach (e::es) X.env=(false,eval e X.env)::starEach es X.env:=by rfl)(hpl:(backTo pos (starEach es X.env)).any (·.1)=false:=by rfl):QE .D X E (.Call (.Name x p) (e::es) [] pos) (QgM fD wa):=by
 obtain⟨f,fd,ps,hm,F,hb,hk⟩:=c.ex;exact Qxw F (hr.mono h) hg hm hk hb hx ha hdb he hpl
theorem Qa9(c:Cal X.prog X.w X.K X.mg X.base CX0 k x (ZN false fD))(hr:Room j X.A)(ha:QAs X E (e::es) wa)(h:k<=j:=by decide)(hg:Gl X x:=by rfl)(hdb:(x == ("__debug__" : Str))=false:=by decide)(he:starEach (e::es) X.env=(false,eval e X.env)::starEach es X.env:=by rfl)(hpl:(backTo pos (starEach es X.env)).any (·.1)=false:=by rfl):QE .D X E (.Call (.Name x p) (e::es) [] pos) (QgM fD wa):=Qsg c hr QxW ha h hg hdb he hpl
theorem QbW(c:Cal X.prog X.w X.K X.mg X.base CX0 k x (ZN true fD))(hr:Room j X.A)(ha:QAs X E (e::es) wa)(h:k<=j:=by decide)(hg:Gl X x:=by rfl)(hdb:(x == ("__debug__" : Str))=false:=by decide)(he:starEach (e::es) X.env=(false,eval e X.env)::starEach es X.env:=by rfl)(hpl:(backTo pos (starEach es X.env)).any (·.1)=false:=by rfl):QE .F X E (.Call (.Name x p) (e::es) [] pos) (QgM fD wa):=by
 obtain⟨f,fd,ps,hm,F,hb,hk⟩:=c.ex;exact QtT F (hr.mono h) hg hm hk hb QxW ha hdb he hpl
end
end Dl
namespace Rk
open L2 _root_.Rd Dl Rt
def adjP(p q:Int×Int):Bool:=decide (p.1=q.1)||decide (p.2=q.2)
inductive Rch (cs:List (Int×Int)):(Int×Int)->(Int×Int)->Prop
 |refl {a:Int×Int}:a∈cs->Rch cs a a
 |step {a b c:Int×Int}:Rch cs a b->c∈cs->adjP b c=true->Rch cs a c
theorem Rch.left{cs:List (Int×Int)}{a b:Int×Int}(h:Rch cs a b):a∈cs:=by
 induction h with
 |refl h=>exact h
 |step _ _ _ ih=>exact ih
theorem Rch.trans{cs:List (Int×Int)}{a b c:Int×Int}(h:Rch cs a b)(k:Rch cs b c):Rch cs a c:=by
 induction k with
 |refl _=>exact h
 |step _ h1 h2 ih=>exact .step ih h1 h2
structure Pce (cs S:List (Int×Int)):Prop where
 srt:S.Pairwise plt
 has:∃x,x∈cs/\∀y,y∈S↔Rch cs x y
theorem Qe8{A:Addr->Prop}{H:Hp}(dm:∀a,A a->∃xs,H a=some (.lst xs)):∀{ys:List V}{M:List (Int×Int)},Dats H ys (M.map pairD)->DAs A H ys (M.map pairD)
 |[],[],_=>.nil
 |y::ys,p::M,.cons q qs=>by
  refine .cons ?_ (Qe8 dm qs)
  cases q with
  |tup e q2=>
   refine .tup (λz=>?_) e ?_
   ·obtain⟨xs,e2⟩:=dm _ z;rw[e] at e2;cases e2
   ·cases q2 with
    |cons a b=>
     cases b with
     |cons b c=>cases c;cases a;cases b;exact .cons (.int _) (.cons (.int _) .nil)
@[irreducible] def sortPD:List Qb->(Qb->Prop)->Prop:=λds Q=>∃L:List (Int×Int),ds=[.list (L.map pairD)]/\L.Nodup/\L.length<64/\(∀p∈L,0<=p.2/\p.2<64)/\∀M:List (Int×Int),M.Perm L->M.Pairwise plt->Q (.list (M.map pairD))
theorem sortP_of{L:List (Int×Int)}{Q:Qb->Prop}(h1:L.Nodup)(h2:L.length<64)(h3:∀p∈L,0<=p.2/\p.2<64)(k:∀M:List (Int×Int),M.Perm L->M.Pairwise plt->Q (.list (M.map pairD))):sortPD [.list (L.map pairD)] Q:=by
 unfold sortPD;exact⟨L,rfl,h1,h2,h3,k⟩
theorem cd_sortP:Qcv Qma sortPD:=λA P H vs ds R Q ln dm q h k=>by
 unfold sortPD at h;obtain⟨L,rfl,h1,h2,h3,hR⟩:=h;obtain⟨v,rfl,hv⟩:=pd1 q;obtain⟨l,xs,rfl,e,qq⟩:=hv.list;refine⟨l,xs,L,rfl,e,QaL _ _ (ZK L) qq,h1,h2,h3,λt ys M H2 s n e2 dts pm pw=>?_⟩;have dm2:∀a,A a->∃xs,H2 a=some (.lst xs):=λa z=>by obtain⟨xs,e⟩:=dm a z;exact⟨xs,s _ _ e⟩
 have pl:M.Pairwise plt:=by
  have hb:∀p∈M,0<=p.2/\p.2<64:=λp hp=>h3 p (pm.mem_iff.mp hp)
  refine Qa7 (λ{a b} ha hb' hc=>?_) pw;have:=hb a ha;have:=hb b hb';have hc:64*a.1+a.2<64*b.1+b.2:=hc;show a.1<b.1∨(a.1=b.1/\a.2<b.2);omega
 refine k _ (hR M pm pl) _ H2 s (.lst (λz=>?_) e2 (Qe8 dm2 dts)) (QbO n);obtain⟨xs,e⟩:=dm t z;rw[n] at e;cases e
end Rk
namespace Dl
open L2 _root_.Rd Rk
@[irreducible] def QzI(t:DT)(wb:DS)(D:Qfl)(δ:Sts):Prop:=∃Iv:Nat->Sts->Prop,(∃m,Iv m δ)/\∀m δ,Iv m δ->t δ (λb=>if b=true then wb { D with nx:=λδ'=>∃m',m'<m/\Iv m' δ',ct:=λδ'=>∃m',m'<m/\Iv m' δ',bk:=D.nx } δ else D.nx δ) D.ex
def QnF(t:DT)(wb:DS):DS:=λD δ=>QzI t wb D δ
section
variable{X:Cx}{E:XK}
theorem Qmx{c:QV}{body:List J7}{pos:Pos}{t:DT}{wb:DS}(hp:Qf6 (model X.prog X.w) X.A X.env X.xe)(hc:PT X c (tT X.K E t))(hb:PSs X body (tS X.K E wb)):PS X (.While c body [] pos) (tS X.K E (QnF t wb)):=by
 refine PS.imp (QoZ hp hc hb) λD σ H ⟨F,δ,DD,rel,hw,en⟩=>?_
 unfold QnF QzI at hw;obtain⟨Iv,⟨m0,i0⟩,step⟩:=hw;refine⟨λm σ' H'=>∃δ',Iv m δ'/\Rel X.K F σ' H' δ'/\Stp F σ H δ σ' H' δ',⟨m0,δ,i0,rel,Stp.refl⟩,?_⟩;rintro m σ' H' ⟨δ',iv,r',st'⟩;refine⟨F,δ',_,DD.ex,r',step m δ' iv,λb hb H1 rel1 kp1=>?_,en.ex⟩;have st1:Stp F σ H δ σ' H1 δ':=st'.trans (Stp.kp kp1);cases b with
 |true=>
  rw[if_pos rfl] at hb;show if true=true then _ else _
  rw[if_pos rfl];refine⟨λσ2 H2=>∃δ2,(∃m',m'<m/\Iv m' δ2)/\Rel X.K F σ2 H2 δ2/\Stp F σ H δ σ2 H2 δ2,λσ2 H2 ⟨δ2,⟨m',hm,h2⟩,r2,s2⟩=>⟨m',hm,δ2,h2,r2,s2⟩,F,δ',_,rel1,hb,?_⟩;exact⟨⟨λδ6 h6 σ6 H6 r6 s6=>⟨δ6,h6,r6,st1.trans s6⟩⟩,en.rt,en.rtF,(en.step st1).nx,⟨λδ6 h6 σ6 H6 r6 s6=>⟨δ6,h6,r6,st1.trans s6⟩⟩,en.ex⟩
 |false=>
  rw[if_neg Qp] at hb;show if false=true then _ else _
  rw[if_neg Qp];exact(en.step st1).nx.go δ' hb σ' H1 rel1 Stp.refl
theorem Qgr{c:QV}{body:List J7}{pos:Pos}{t:DT}{wb:DS}(hp:Qf6 (model X.prog X.w) X.A X.env X.xe)(hc:QT X E c t)(hb:QSs X E body wb):QS X E (.While c body [] pos) (QnF t wb):=⟨Qmx hp hc.h hb.h⟩
end
theorem Qlr{t:DT}{wb:DS}{D:Qfl}{δ:Sts}(Iv:Nat->Sts->Prop)(m0:Nat)(h0:Iv m0 δ)
  (hs:∀m δ,Iv m δ->t δ (λb=>if b=true then wb { D with nx:=λδ'=>∃m',m'<m/\Iv m' δ',ct:=λδ'=>∃m',m'<m/\Iv m' δ',bk:=D.nx } δ else D.nx δ) D.ex):QzI t wb D δ:=by
 unfold QzI;exact⟨Iv,⟨m0,h0⟩,hs⟩
end Dl
namespace Rk
open L2 _root_.Rd Dl Rt
theorem Qtv{P cells:List (Int×Int)}(nd:P.Nodup)(nc:cells.Nodup)(h:∀p∈P,p∈cells):P.length<=cells.length:=by
 have p:(cells.filter λc=>decide (c∈P)).Perm P:=(YI (QfJ _ nc) nd).mpr λy=>by
  rw[Ju,decide_eq_true_eq];exact⟨λq=>q.2,λq=>⟨h y q,q⟩⟩
 rw[<- p.length_eq];exact Yx _ _
structure Srch (cells:List (Int×Int)) (x:Int×Int) (P N:List (Int×Int)):Prop where
 nd:P.Nodup
 reach:∀p∈P,Rch cells x p
 has:x∈P
 sub:∀n∈N,n∈P
 fr:∀y∈P,y∉N->∀o∈cells,adjP o y=true->o∈P
structure Wlk (cs:List (Int×Int)) (T:List (List (Int×Int))) (left:List (Int×Int)):Prop where
 srt:left.Pairwise plt
 sub:∀p∈left,p∈cs
 cl:∀x∈left,∀y,Rch cs x y->y∈left
 pc:∀L∈T,Pce cs L
 cov:∀y∈cs,y∈left∨∃L∈T,y∈L
 ord:T.Pairwise QBY
 hd:∀L∈T,∃p r,L=p::r/\∀y∈left,plt p y
def SB2(cs:List (Int×Int)):Prop:=cs.Pairwise plt/\cs.length<=36/\∀p∈cs,0<=p.2/\p.2<64
def Qsy:DF:=λargs R _=>∃(c:Int×Int)(L:List (Int×Int)),args=[.v (pairD c),.v (.list (L.map pairD))]/\R (.bool (L.any λq=>adjP c q))
end Rk
namespace L2
end L2
namespace Dl
open L2 _root_.Rd Rk
section
variable{X:Cx}{E:XK}
theorem Qnu:∀{a b:List (Int×Int)},dkD a=dkD b->a=b
 |[],[],_=>rfl
 |[],_::_,h=>by cases h
 |_::_,[],h=>by cases h
 |p::a,q::b,h=>by
  have h:=Qf8 (show(QJ p.1,QJ p.2)::dkD a=(QJ q.1,QJ q.2)::dkD b from h);have h1:=Zr h.1;rw[Qnu h.2,Qc4 (Qlk h1.1) (Qlk h1.2)]
theorem DP.dict{A P:Addr->Prop}{H:Hp}{v:V}{kvs:List (Int×Int)}(h:DP A P H v (.dict (dkD kvs))):∃l,v=.ref l/\H l=some (.dK (dkV kvs)):=by
 rcases h with h | ⟨l,xs,ds',rfl,e,_⟩
 ·cases h with
  |dct n e q=>rw[Qnu q];exact⟨_,rfl,e⟩
 ·cases e
end
end Dl
namespace Rk
open L2 _root_.Rd Dl Rt
def Qsa:DF:=λargs R _=>∃(h w:Nat)(f:Nat->Nat->Bool),args=[.v (bdD h w (Qv h w f))]/\h<=6/\w<=6/\R (bdD h w (Qv h w (QhF f)))
end Rk
namespace HT
section
open PySem.SeqAt
open PySem.AutoSeq1 (wpAny_loadPart')
open PySem.MeetsSeq PySem.MeetsSeq2 PySem.MeetsSeq3
end
section
variable{prog:Qm}{w:QZ}{A:Q1}{E:Value->Shared->Prop}{s:Shared}
end
end HT
namespace L2
end L2
namespace Dl
open L2 _root_.Rd Rk Rt
end Dl
namespace Rk
open L2 _root_.Rd Dl Rt
def tF(f:Nat->Nat->Bool):Nat->Nat->Bool:=λr c=>f c r
end Rk
namespace Zt
def f5(M x:Nat):Nat:=(x*5+1) % M
def it5(M:Nat):Nat->Nat->Nat
 |0,x=>x
 |n+1,x=>it5 M n (f5 M x)
def QCd(M:Nat):Nat->Nat->Nat->Nat
 |0,_,acc=>acc
 |n+1,x,acc=>QCd M n (f5 M x) (acc ||| 2^x)
def QA7(M:Nat):Bool:=decide (QCd M M 0 0=2^M - 1)&&decide (it5 M M 0=0)
def stps(t:Qal):Nat->Qbv->Qbv
 |0,p=>p
 |n+1,p=>stps t n (t.advance p)
structure Tab (t:Qal):Prop where
 pw:t.place.toList.Pairwise (· < ·)
 le:∀x∈t.place.toList,x<=t.mask
 dm:t.dummies=#[]
 gd:QA7 (t.mask+1)=true
 pl:t.plain=true
 od:t.mask % 2=1
structure PIn (t:Qal) (p:Qbv):Prop where
 a:p.j+p.more<=t.mask
 b:p.i<=t.mask
theorem Ql1{mask i:Nat}(h:i<=mask):i+(Qob mask i - i)<=mask:=by unfold Qob;split<;>omega
theorem PIn.adv{t:Qal}{p:Qbv}(x:PIn t p):PIn t (t.advance p):=by
 unfold SetTable.advance;split
 ·exact⟨by show p.j+1+(p.more - 1)<=_;have:=x.a;omega,x.b⟩
 ·have:(SetTable.leap t.mask p.i p.perturb).1<=t.mask:=Nat.le_of_lt_succ (Nat.mod_lt _ (Qll _));exact⟨Ql1 this,this⟩
theorem PIn.stps{t:Qal}:∀(n:Nat){p:Qbv},PIn t p->PIn t (stps t n p)
 |0,_,x=>x
 |n+1,_,x=>PIn.stps n x.adv
def Rch(t:Qal)(j:Nat)(h:Int):Prop:=∃n,(stps t n (t.probeStart h)).j=j/\∀m,m<n->(stps t m (t.probeStart h)).j∈t.place.toList
structure QBt (h:JS) (a:Addr) (es:Array (Int×Value)) (ep:Nat) (t:Qal):Prop where
 at_:∃o,h.get? a=some o/\o.ExactSet/\o.data=.set es ep t
 ft:t.fits es.size=true
section
variable{prog:Qm}{w:QZ}{A:Q1}{E:Value->Shared->Prop}{s:Shared}
structure TS (prog:Qm) (w:QZ) (h:JS) (a:Addr) (es:Array (Int×Value)) (ep:Nat) (t:Qal) (ps:List (List Int×Addr)):Prop where
 at_:QBt h a es ep t
 tab:Tab t
 ent:es.toList=ps.map λp=>(tupleKeyHash (intKind prog w) p.1,Jj p.2)
 key:∀p∈ps,IsTupleKey (intKind prog w) h p.1 p.2
 nd:(ps.map (·.1)).Nodup
 rch:∀(i j:Nat)(e:Int×Value),t.place[i]? = some j->es[i]? = some e->Rch t j e.1
 mks:t.mask=7∨t.mask=31∨t.mask=127∨t.mask=511∨t.mask=2047
 few:t.place.size*5<t.mask*3
variable{a:Addr}{es:Array (Int×Value)}{ep:Nat}{t:Qal}{ps:List (List Int×Addr)}
theorem TS.size(x:TS prog w s.heap a es ep t ps):es.size=ps.length:=by rw[<- Jh,x.ent,Qc]
def Sm(m:Nat):List Nat:=(QN 6).filter m.testBit
def tb(m:Nat)(led:Bool):Qal:={ mask:=if 5<=(Sm m).length then 31 else 7,place:=(Sm m).toArray,dummies:=#[],finger:=0,led:=led,moves:=if 5<=(Sm m).length then 1 else 0,plain:=true }
def tp(m v:Nat)(led:Bool):Qal:={ tb m led with place:=(Sm (m ||| 2^v)).toArray }
def EsOk(es:Array (Int×Value))(S:List Nat):Prop:=∃tks:List Tok,tks.length=S.length/\es.toList=Qk4 (λ(v:Nat)(tk:Tok)=>((v:Int),Qag (v:Int) tk)) S tks
theorem EsOk.size{es:Array (Int×Value)}{S:List Nat}(h:EsOk es S):es.size=S.length:=by
 obtain⟨tks,hl,e⟩:=h;rw[<- Jh,e,List.length_zipWith,hl,Nat.min_self]
theorem EsOk.ins{es:Array (Int×Value)}{S:List Nat}(h:EsOk es S)(p v:Nat)(tk:Tok):EsOk (SetTable.insertAt es p ((v:Int),.int v tk)) (S.take p++v::S.drop p):=by
 obtain⟨tks,hl,e⟩:=h;refine⟨tks.take p++tk::tks.drop p,by simp[hl],?_⟩;rw[SetTable.toList_insertAt,e,List.zipWith_append (by simp[hl]),List.take_zipWith,List.drop_zipWith];rfl
theorem QAg{S:List Nat}{e:Int×Value}:∀{tks:List Tok},e∈Qk4 (λ(v:Nat)(tk:Tok)=>((v:Int),Qag (v:Int) tk)) S tks->∃v∈S,∃tk,e=((v:Int),.int v tk):=by
 induction S with
 |nil=>intro tks h;cases tks<;>cases h
 |cons x S ih=>
  intro tks h;cases tks with
  |nil=>cases h
  |cons t tks=>
   rcases QM.mp h with z | z
   ·exact⟨x,.head _,t,z⟩
   ·obtain⟨v,hv,r⟩:=ih z;exact⟨v,.tail _ hv,r⟩
theorem Qti{S:List Nat}{v:Nat}(hv:v∈S):∀{tks:List Tok},tks.length=S.length->∃tk,((v:Int),Qag (v:Int) tk)∈Qk4 (λ(v:Nat)(tk:Tok)=>((v:Int),Qag (v:Int) tk)) S tks:=by
 induction S with
 |nil=>cases hv
 |cons x S ih=>
  intro tks hl;cases tks with
  |nil=>cases hl
  |cons t tks=>
   rcases QM.mp hv with z | z
   ·subst z;exact⟨t,.head _⟩
   ·obtain⟨tk,h⟩:=ih z (Nat.succ.inj hl);exact⟨tk,.tail _ h⟩
theorem EsOk.has{es:Array (Int×Value)}{S:List Nat}(h:EsOk es S){v:Nat}(hv:v∈S):∃tk,((v:Int),Qag (v:Int) tk)∈es.toList:=by
 obtain⟨tks,hl,e⟩:=h;rw[e];exact Qti hv hl
end
section
variable{prog:Qm}{w:QZ}{A:Q1}{R:Qtc->Shared->Prop}{I:Addr}{fp wr:List Addr}{n:Nat}{P:Nat->Value->Prop}{St:Nat->JS->Prop}
end
section
variable{prog:Qm}{w:QZ}{A:Q1}{E:Value->Shared->Prop}{s:Shared}{a:Addr}{es:Array (Int×Value)}{ep:Nat}{t:Qal}{ps:List (List Int×Addr)}
theorem TS.other(x:TS prog w s.heap a es ep t ps){ks:List Int}{b:Addr}(hk:IsTupleKey (intKind prog w) s.heap ks b):b≠a:=λe=>by
 subst e;obtain⟨o,ho,hex,hd⟩:=x.at_.at_;obtain⟨o',it,n,ho',hc,_⟩:=hk;rw[ho] at ho';cases ho';rw[hex.1] at hc;exact absurd hc (by decide)
end
section
variable{prog:Qm}{w:QZ}{A:Q1}{E:Value->Shared->Prop}{s:Shared}
end
section
variable{prog:Qm}{w:QZ}{s:Shared}{a:Addr}{es:Array (Int×Value)}{ep:Nat}{t:Qal}{ps:List (List Int×Addr)}
variable{A:Q1}{R:Qtc->Shared->Prop}{I:Addr}{fp wr:List Addr}{n:Nat}{P:Nat->Value->Prop}{St:Nat->JS->Prop}
end
section
variable{prog:Qm}{w:QZ}{A:Q1}{E:Value->Shared->Prop}{s:Shared}
end
end Zt
namespace Zt
open PySem.W PySem.Calls Rs
section
variable{prog:Qm}{w:QZ}{A:Q1}{E:Value->Shared->Prop}{s:Shared}
end
end Zt
namespace L2
open Zt
section
variable{X:Cx}
end
end L2
namespace Dl
open L2 _root_.Rd Rk Zt
section
variable{X:Cx}{E:XK}
end
end Dl
namespace L2
open PySem.Calls _root_.Rd _root_.Rk _root_.Rs Rt Dl
section
variable{X:Cx}
end
end L2
namespace Zt
section
variable{prog:Qm}{w:QZ}{A:Q1}{E:Value->Shared->Prop}{s:Shared}
end
end Zt
namespace Rk
open L2 _root_.Rd Dl Rt
def tN(ns:List Int):Qb:=.tuple (ns.map QJ)
end Rk
namespace L2
open Zt _root_.Rd _root_.Rk Dl Rt
section
variable{X:Cx}
end
end L2
namespace Dl
open L2 _root_.Rd Rk Zt Rt
section
variable{X:Cx}{E:XK}
end
end Dl
namespace Rk
open L2 _root_.Rd Dl Rt
end Rk
namespace L2
open _root_.Rd _root_.Rk _root_.Rs
section
variable{X:Cx}
def Ql9:List V->Hp->VK->Prop:=λxs H Q=>∃(l:Addr)(vs:List V)(L:List (Int×Int)),xs=[.ref l]/\H l=some (.tup vs)/\Dats H vs (L.map Rk.pairD)/\L.Nodup/\L.length<64/\(∀ij∈L,0<=ij.2/\ij.2<64) /\
 ∀(t:Addr)(ys:List V)(M:List (Int×Int))(H2:Hp),Same H H2->H t=none->H2 t=some (.lst ys)->Dats H2 ys (M.map Rk.pairD)->M.Perm L->M.Pairwise (λa b=>Rs.code a<Rs.code b)->Q (.ref t) H2
theorem Qfc:CallR X (.builtin "sorted") Ql9:=by
 intro pins s σ H xs us Q I r h;obtain⟨l,vs,L,rfl,hl,ds,nd,h64,hb,q⟩:=h;obtain⟨u,rfl,ru⟩:=vals1 r;cases ru;obtain⟨hz,its,rv,o,ho,hc,_,n,hd⟩:=I.hok l _ hl;have pv:=QeP I.hok ds rv;have lv:=ds.length;rw[Qc] at lv;have li:=rv.length;have lp:=pv.len;refine Qd3 (.inr rfl) ho hc hd (by omega) λh' kp P E' hP=>?_
 refine Qce (s:={ s with heap:=h'.push (seqObj "list" its.toArray 0) }) (vs:=its) (L:=L) (QD _ rfl) (by omega) (λh2 k2=>?_) nd hb λp g ad h2 e k2 e2=>hP _ ?_
 ·exact(pv.keep kp).keep λb x e=>k2 b x (Q2 (Qs e)) (Qh _ e)
 ·have I1:Inv X pins σ H { s with heap:=h' }:=I.kept (t':=s.toks) kp;have hf:H h'.objs.size=none:=I1.hok.fresh (Qf _);have hp:∀i∈p.toList,i<vs.length:=λi hi=>by have:=JM.mp (g.perm.mem_iff.mp hi);omega
  have I2:Inv X pins σ (upd H h'.objs.size (.lst (p.toList.map λi=>vs.getD i .non))) { s with heap:=h2 }:=
   I1.laid (t':=s.toks) (λb x e'=>k2 b x (Q2 (Qs e')) (Qh _ e')) (Qf _) (show ObjOk X.prog X.w _ _ _ (.lst _) from⟨by rw[Qc,Jh,g.size];exact Ji (Rk.ZB (by omega)),_,e,Qgc λi hi=>Qil rv i (hp i hi),e2⟩)
  have g':Good L.length p:=by rw[<- lp];exact g
  have ad':Adj (λi=>Rs.code (L.getD i (0,0))) p L.length:=by rw[<- lp];exact ad
  refine⟨.ref h'.objs.size,_,I2,rfl,q _ _ (p.toList.map λi=>L.getD i (0,0)) _ (JK hf) hf upd_same (QgH λi hi=>(QiL ds i (hp i hi)).same (JK hf)) (QhN g') (QhM g' ad' λi j hi hj e=>?_)⟩;have bi:0<=(L.getD i (0,0)).2/\(L.getD i (0,0)).2<64:=by rw[Qg,Qd hi];exact hb _ (Jz _)
  have bj:0<=(L.getD j (0,0)).2/\(L.getD j (0,0)).2<64:=by rw[Qg,Qd hj];exact hb _ (Jz _)
  unfold Rs.code at e;have e':L.getD i (0,0)=L.getD j (0,0):=Qc4 (by omega) (by omega);rw[Qg,Qg,Qd hi,Qd hj] at e';have pw:=ZV.mp nd;rcases Qb6 i j with z | z | z
  ·exact absurd e' (pw i j hi hj z)
  ·exact z
  ·exact absurd e'.symm (pw j i hj hi z)
end
end L2
namespace Rk
open L2 _root_.Rd Dl Rt
@[irreducible] def QdG:List Qb->(Qb->Prop)->Prop:=λds Q=>∃L:List (Int×Int),ds=[.tuple (L.map pairD)]/\L.Nodup/\L.length<64/\(∀p∈L,0<=p.2/\p.2<64)/\∀M:List (Int×Int),M.Perm L->M.Pairwise plt->Q (.list (M.map pairD))
theorem Qhm{L:List (Int×Int)}{Q:Qb->Prop}(h1:L.Nodup)(h2:L.length<64)(h3:∀p∈L,0<=p.2/\p.2<64)(k:∀M:List (Int×Int),M.Perm L->M.Pairwise plt->Q (.list (M.map pairD))):QdG [.tuple (L.map pairD)] Q:=by
 unfold QdG;exact⟨L,rfl,h1,h2,h3,k⟩
theorem QhX:Qcv Ql9 QdG:=λA P H vs ds R Q ln dm q h k=>by
 unfold QdG at h;obtain⟨L,rfl,h1,h2,h3,hR⟩:=h;obtain⟨v,rfl,hv⟩:=pd1 q;obtain⟨l,xs,rfl,e,qq⟩:=hv.tuple;refine⟨l,xs,L,rfl,e,QaL _ _ (ZK L) qq,h1,h2,h3,λt ys M H2 s n e2 dts pm pw=>?_⟩;have dm2:∀a,A a->∃xs,H2 a=some (.lst xs):=λa z=>by obtain⟨xs,e⟩:=dm a z;exact⟨xs,s _ _ e⟩
 have pl:M.Pairwise plt:=by
  have hb:∀p∈M,0<=p.2/\p.2<64:=λp hp=>h3 p (pm.mem_iff.mp hp)
  refine Qa7 (λ{a b} ha hb' hc=>?_) pw;have:=hb a ha;have:=hb b hb';have hc:64*a.1+a.2<64*b.1+b.2:=hc;show a.1<b.1∨(a.1=b.1/\a.2<b.2);omega
 refine k _ (hR M pm pl) _ H2 s (.lst (λz=>?_) e2 (Qe8 dm2 dts)) (QbO n);obtain⟨xs,e⟩:=dm t z;rw[n] at e;cases e
end Rk
namespace Dl
open L2 _root_.Rd Rk
section
variable{X:Cx}{E:XK}{i:Nat}{st:J7}{we wa wb:DE}
end
end Dl
namespace L2
section
variable{X:Cx}{pins:List (Addr×Obj)}{σ:St}{H H3:Hp}{s3:Shared}{M:List Str}{scope:Qai}{cap:List (Option Nat)}{fp:List Addr}{h4:JS}{t4:Nat}
end
section
variable{X:Cx}{pins:List (Addr×Obj)}{σ:St}{H:Hp}
end
end L2
namespace Rk
open L2 _root_.Rd Dl
end Rk
namespace Dl
open L2
section
variable{X:Cx}{E:XK}
end
end Dl
namespace L2
section
variable{X:Cx}{pos:Pos}
end
end L2
namespace Dl
open L2 _root_.Rd Rk
section
variable{X:Cx}{E:XK}{st:J7}
end
end Dl
namespace Rk
open L2 _root_.Rd
def top(i:Nat):J7:=PySem.Challenge.pw_rooklands_k93_rows_that_are_none.main.body.getD i (.Pass ⟨0,0,0,0⟩)
abbrev Qr2:J7:=top 22
abbrev QlW:J7:=top 23
abbrev Qr5:J7:=top 26
abbrev Qw5:J7:=top 27
abbrev Qr3:J7:=top 28
abbrev sWo:J7:=top 31
abbrev Qw7:J7:=top 32
abbrev QlX:J7:=top 33
abbrev sPw:J7:=top 34
abbrev Qr6:J7:=top 35
abbrev QlY:J7:=top 37
abbrev Qw8:J7:=top 39
abbrev Qjq:J7:=top 40
abbrev Qr4:J7:=top 41
abbrev sFol:J7:=top 42
abbrev Qw6:J7:=top 43
abbrev QlZ:J7:=top 44
abbrev Qw3:J7:=top 45
abbrev Qw2:J7:=top 46
abbrev sRow:J7:=top 47
abbrev Qr7:J7:=top 49
abbrev sRnp:J7:=top 52
abbrev sRtm:J7:=top 53
abbrev Qna:J7:=top 82
abbrev lPot:J7:=top 83
abbrev Qym:J7:=top 84
abbrev Qyo:J7:=top 85
abbrev Qsz:J7:=top 87
abbrev QsC:J7:=top 88
abbrev lRef:J7:=top 89
abbrev lBeh:J7:=top 90
abbrev Qyn:J7:=top 91
abbrev Qvl:J7:=top 93
abbrev sLaw:J7:=top 100
section
variable{P:Qm}{w:QZ}{K:PySem.W.Frag}{mg:Str->Option Value}{base:JS}
theorem QmU(F:DefC P w K mg base "_law_cell_at" Qna)(T:GlbA mg):Cal P w K mg base CX0 1 "_law_cell_at" (Qjo K):=by
 refine okv ["_law_script", "_law_k"] 2 F λcdv A outer s H vs Q E nD hr h=>?_
 obtain⟨a,ns,n,rfl,hs,hl,h0,k⟩:=h;refine⟨_,Qr (Qat (Ze Qkz (pv 1) (ZD Z0 (by rfl) T.len Qbm (Qk (pv 0) Qq)) (JZ _)) (QQ (JI (Yo Zu (pv 0) (pv 1) (λ_ _=>rfl)))) Zs) (QQ (JI Jd)),?_⟩;refine⟨_,rfl,_,rfl,a,_,rfl,.inl hs,_,_,rfl,rfl,_,rfl,?_⟩;refine QBZ (λhlt=>?_) (λ_=>k 0);have hlt':n<(ns.map V.int).length:=of_decide_eq_true hlt;rw[Qc] at hlt';obtain⟨j,rfl⟩:=Zc h0;have hj:j<ns.length:=by omega
 refine⟨_,rfl,_,rfl,a,_,_,.int ns[j],rfl,rfl,hs,Q3 ?_,k _⟩;rw[Qz,Qd hj];rfl
theorem Qye(F:DefC P w K mg base "_law_pot" lPot)(T:GlbA mg):Cal P w K mg base CX0 1 "_law_pot" QwW:=by
 refine okv ["_law_cell", "_law_number_here", "_law_j", "_law_more"] 1 F λcdv A outer s H vs Q E nD hr h=>?_
 obtain⟨c,rfl,k⟩:=h;refine⟨_,Qr (Qat (Ze Quz (pv 0) (ZF QjG Jd Jd) (JZ _)) (QQ (JI (Qso (Qk (ZF QeQ (pv 0) (ZF QjG Jd Jd)) Qq)))) Zs)
  (Qr (Yk (i:=1) nD rfl (Qx rfl) Jd)
  (Qr (Qhw J3 rfl (Qau (by rfl) T.range (Qk Jd Qq)) (Yv (i:=2) nD rfl (Qx rfl))
   (Qr (Yk (i:=3) nD rfl (Qx rfl) (ZF QhC (ZF QfT (ZF Qca (ZF Qca (ZF QhC (pv 0) Jd) (ZF QfT Jd (pv 2))) Jd) Jd) Jd))
   (Qr (Yk (i:=3) nD rfl (Qx rfl) (ZF QhC (ZF Qca (ZF Qca (ZF QfT (pv 3) (pv 3)) (ZF QfT Jd (pv 2))) Jd) Jd))
   (QQ (Yk (i:=1) nD rfl (Qx rfl) (ZF Qca (ZF QfT (pv 1) Jd) (pv 3)))))))
  (QQ (JI (Qso (Qk (pv 1) Qq)))))),?_⟩
 refine⟨_,rfl,_,_,rfl,rfl,⟨by decide,by decide,by decide⟩,_,_,rfl,rfl,_,rfl,?_⟩;refine QBZ (λ_=>?_) (λ_=>?_)
 ·exact⟨_,rfl,_,_,rfl,rfl,⟨by decide,by decide,by decide⟩,_,_,rfl,rfl,by show 1<=sizeLine;decide,λp hp=>k p _ hp⟩
 ·refine⟨64,rfl,by decide,by decide,Qe4 (n:=64) (λi σ H2=>∃n v u,σ=[some (.int c),some (.int n),v,u]/\H2=H) ⟨0,none,none,rfl,rfl⟩ ?_ ?_⟩
  ·rintro i σ H2 hi ⟨n,v,u,rfl,rfl⟩;have b1:=QjX ((c % 2147483629+7919*(0+(i:Int))+1)*48271) (m:=2147483647) (by decide);refine⟨_,rfl,_,_,rfl,rfl,by show(0:Int)<2147483629;decide,_,rfl,_,_,rfl,rfl,.inl ⟨by decide,by decide⟩,_,_,rfl,rfl,_,_,rfl,rfl,_,_,rfl,rfl,.inr ⟨by decide,by decide⟩,_,_,rfl,rfl,by show(0:Int)<2147483647;decide,?_⟩;refine⟨_,rfl,_,rfl,_,_,rfl,rfl,.inl ⟨by omega,by omega⟩,_,rfl,_,_,rfl,rfl,.inl ⟨by decide,by decide⟩,_,_,rfl,rfl,_,_,rfl,rfl,_,_,rfl,rfl,by show(0:Int)<2147483587;decide,?_⟩;exact⟨_,rfl,_,_,rfl,rfl,.inr ⟨by decide,by decide⟩,_,rfl,_,_,rfl,rfl,_,_,_,rfl,rfl⟩
  ·rintro σ H2 ⟨n,v,u,rfl,rfl⟩;exact⟨_,rfl,by show 1<=sizeLine;decide,λp hp=>k p _ hp⟩
theorem QuL(F:DefC P w K mg base "_law_take" Qym)(T:GlbA mg):Cal P w K mg base CX0 1 "_law_take" Qc9:=by
 refine okv ["_law_pot_here", "_law_far", "_law_found"] 2 F λcdv A outer s H vs Q E nD hr h=>?_
 obtain⟨p,n,m,rfl,hp,h0,h1,k⟩:=h;refine⟨_,Qr (Yk (i:=2) nD rfl (Qx rfl) (ZF QhC (Yo Zu (pv 0) Jd (λ_ _=>rfl)) (pv 1)))
  (Qr (Qde (ZF Qpt (Yo Zu (pv 0) Jd (λ_ _=>rfl)) (pv 1)) (Qms (pv 0) Jd Qeq))
  (QQ (JI (pv 2)))),?_⟩
 have b:=QjX n h0;exact⟨_,rfl,p,_,_,_,rfl,rfl,SqL.of hp,rfl,_,rfl,_,_,rfl,rfl,h0,_,rfl,p,_,_,_,rfl,rfl,SqL.of hp,rfl,_,rfl,_,_,rfl,rfl,⟨h0,h1⟩,_,rfl,p,_,_,_,rfl,rfl,hp,rfl,_,rfl,k _ _ b.1 b.2⟩
end
end Rk
namespace Rk
open L2 _root_.Rd
open Dl
open Rt
def QwE:DF:=λargs R _=>∃(h w:Nat)(f:Nat->Nat->Bool),args=[.v (bdD h w (Qv h w f))]/\h<=6/\w<=6/\R (bdD w h (Qv w h (tF f)))
structure Bo where
 h:Nat
 w:Nat
 f:Nat->Nat->Bool
def Bo.d(b:Bo):Qb:=bdD b.h b.w (Qv b.h b.w b.f)
structure Bo.ok (b:Bo):Prop where
 h1:1<=b.h
 h6:b.h<=6
 w1:1<=b.w
 w6:b.w<=6
inductive Deed where
 |put (x y:Qb) | take (x y:Qb) | row | col | turn | rest | undo
def Deed.wd:Deed->Str
 |.put _ _ => "put" | .take _ _ => "take" | .row => "row" | .col => "column" | .turn => "turn" | .rest => "rest" | .undo => "undo"
def Deed.told:Deed->List Qb
 |.put x y=>[x,y] | .take x y=>[x,y] | _=>[]
def nI:Qb->Nat
 |.int i=>i.toNat
 |_=>0
def inP(b:Bo)(x y:Qb):Bool:=QjR b.h b.w (.tuple [x,y])
def QkS:Deed->Bo->Option Str
 |.put x y,b=>if inP b x y=true then(if b.f (nI x) (nI y)=true then some "double" else none) else some "place"
 |.take x y,b=>if inP b x y=true then(if b.f (nI x) (nI y)=true then none else some "cell") else some "place"
 |.row,b=>if b.h=6 then some "many" else none
 |.col,b=>if b.w=6 then some "many" else none
 |_,_=>none
def Qcb:Deed->Bo->Bo
 |.put x y,b=>⟨b.h,b.w,Qwf b.f (nI x) (nI y) true⟩
 |.take x y,b=>⟨b.h,b.w,Qwf b.f (nI x) (nI y) false⟩
 |.row,b=>⟨b.h+1,b.w,λr c=>b.f r c&&decide (r<b.h)⟩
 |.col,b=>⟨b.h,b.w+1,λr c=>b.f r c&&decide (c<b.w)⟩
 |.turn,b=>⟨b.w,b.h,tF b.f⟩
 |.rest,b=>⟨b.h,b.w,QhF b.f⟩
 |.undo,b=>b
theorem QkO{b:Bo}{x y:Qb}(h:inP b x y=true):∃r c:Nat,x=.int r/\y=.int c/\r<b.h/\c<b.w:=by
 obtain⟨p,e,h1,h2,h3,h4⟩:=Qyv h;obtain⟨i,j⟩:=p;cases e;have h1:0<=i:=h1;have h2:i<b.h:=h2;have h3:0<=j:=h3;have h4:j<b.w:=h4;exact⟨i.toNat,j.toNat,by rw[Qeh h1],by rw[Qeh h3],by omega,by omega⟩
theorem QA1{b:Bo}{r c:Nat}(hr:r<b.h)(hc:c<b.w):inP b (.int r) (.int c)=true:=Qyu (p:=((r:Int),(c:Int))) (by show 0<=(r:Int);omega) (by show(r:Int)<b.h;omega) (by show 0<=(c:Int);omega) (by show(c:Int)<b.w;omega)
theorem Qcq{M:List (Int×Int)}{h w:Nat}{g:Nat->Nat->Bool}(pw:M.Pairwise plt)(m:∀p,p∈M↔p∈Qv h w g):M=Qv h w g:=by
 have n1:M.Nodup:=pw.imp Qd8;have n2:(Qv h w g).Nodup:=(pw_cellsF w g h).imp Qd8;exact Qby (le:=plt) (λa b _ _ h1 h2=>by rcases h1 with x | x<;>rcases h2 with y | y<;>omega) pw (pw_cellsF w g h) ((YI n1 n2).mpr m)
theorem QhU(h w:Nat)(f:Nat->Nat->Bool):Qv (h+1) w (λr c=>f r c&&decide (r<h))=Qv h w f:=by
 refine(Qcq (pw_cellsF w _ _) λp=>?_);rw[JX,JX];constructor
 ·rintro⟨r,c,_,hc,e,rfl⟩;have e:=QP.mp e;exact⟨r,c,of_decide_eq_true e.2,hc,e.1,rfl⟩
 ·rintro⟨r,c,hr,hc,e,rfl⟩;exact⟨r,c,by omega,hc,by rw[e,decide_eq_true hr];rfl,rfl⟩
theorem QhW(h w:Nat)(f:Nat->Nat->Bool):Qv h (w+1) (λr c=>f r c&&decide (c<w))=Qv h w f:=by
 refine(Qcq (pw_cellsF (w+1) _ _) λp=>?_);rw[JX,JX];constructor
 ·rintro⟨r,c,hr,_,e,rfl⟩;have e:=QP.mp e;exact⟨r,c,hr,of_decide_eq_true e.2,e.1,rfl⟩
 ·rintro⟨r,c,hr,hc,e,rfl⟩;exact⟨r,c,hr,by omega,by rw[e,decide_eq_true hc];rfl,rfl⟩
theorem Qj2{h w r c:Nat}{f:Nat->Nat->Bool}:(Qv h w f).filter (λq => !decide (q=((r:Int),(c:Int))))=Qv h w (Qwf f r c false):=by
 refine Qcq ((pw_cellsF w f h).filter _) λp=>?_
 rw[Ju,JX,JX];constructor
 ·rintro⟨⟨r',c',hr,hc,e,rfl⟩,z⟩;refine⟨r',c',hr,hc,?_,rfl⟩;have z:¬(((r':Int),(c':Int))=((r:Int),(c:Int)))  := of_decide_eq_false (by cases zz:decide (((r':Int),(c':Int))=((r:Int),(c:Int))) with | false=>rfl | true=>rw[zz] at z;cases z);show(if r'=r/\c'=c then false else f r' c')=true;rw[if_neg (λy=>z (by rw[y.1,y.2]))];exact e
 ·rintro⟨r',c',hr,hc,e,rfl⟩;have e:(if r'=r/\c'=c then false else f r' c')=true:=e;by_cases y:r'=r/\c'=c
  ·rw[if_pos y] at e;cases e
  ·rw[if_neg y] at e;refine⟨⟨r',c',hr,hc,e,rfl⟩,?_⟩;have:¬(((r':Int),(c':Int))=((r:Int),(c:Int))):=λz=>y ⟨by have:=(Zr z).1;omega,by have:=(Zr z).2;omega⟩
   rw[decide_eq_false this];rfl
theorem QhV{h w r c:Nat}{f:Nat->Nat->Bool}{M:List (Int×Int)}(hr:r<h)(hc:c<w)(pm:M.Perm (Qv h w f++[((r:Int),(c:Int))]))(pw:M.Pairwise plt):M=Qv h w (Qwf f r c true):=by
 refine Qcq pw λp=>?_
 rw[pm.mem_iff,QC,Qy,JX,JX];constructor
 ·rintro(⟨r',c',hr',hc',e,rfl⟩ | rfl)
  ·refine⟨r',c',hr',hc',?_,rfl⟩;show(if r'=r/\c'=c then true else f r' c')=true;split
   ·rfl
   ·exact e
  ·exact⟨r,c,hr,hc,if_pos ⟨rfl,rfl⟩,rfl⟩
 ·rintro⟨r',c',hr',hc',e,rfl⟩;have e:(if r'=r/\c'=c then true else f r' c')=true:=e;by_cases y:r'=r/\c'=c
  ·exact .inr (by rw[y.1,y.2])
  ·rw[if_neg y] at e;exact .inl ⟨r',c',hr',hc',e,rfl⟩
theorem Qmm{h w r c:Nat}{f:Nat->Nat->Bool}(hf:f r c=false):(Qv h w f++[((r:Int),(c:Int))]).Nodup:=by
 refine YF.mpr ⟨(pw_cellsF w f h).imp Qd8,Qbw.mpr ⟨Yi,List.nodup_nil⟩,λp hp q hq e=>?_⟩;rw[Qy] at hq;subst hq;subst e;obtain⟨r',c',_,_,e,z⟩:=JX.mp hp;have e1:=(Zr z).1;have e2:=(Zr z).2;rw[show r'=r by omega,show c'=c by omega,hf] at e;cases e
theorem Qm4{h w:Nat}{f:Nat->Nat->Bool}{r c:Nat}(hr:r<h)(hc:c<w):decide (((r:Int),(c:Int))∈Qv h w f)=f r c:=by
 rw[JD,decide_eq_true_eq,JX];constructor
 ·rintro⟨r',c',_,_,hf,e⟩;have e1:(r:Int)=(r':Int):=(Zr e).1;have e2:(c:Int)=(c':Int):=(Zr e).2;rw[show r=r' by omega,show c=c' by omega];exact hf
 ·intro hf;exact⟨r,c,hr,hc,hf,rfl⟩
theorem QvC{b:Bo}{x y:Qb}(h:QkS (.put x y) b=none):∃r c:Nat,x=.int r/\y=.int c/\r<b.h/\c<b.w/\b.f r c=false:=by
 have h:(if inP b x y=true then(if b.f (nI x) (nI y)=true then some ("double" : Str) else none) else some "place")=none:=h;cases z:inP b x y with
 |false=>rw[z] at h;cases h
 |true=>
  rw[z,if_pos rfl] at h;obtain⟨r,c,rfl,rfl,hr,hc⟩:=QkO z;refine⟨r,c,rfl,rfl,hr,hc,?_⟩;cases z2:b.f r c with
  |false=>rfl
  |true=>
   have h:(if b.f r c=true then some ("double" : Str) else none)=none:=h;rw[z2] at h;cases h
theorem Qrj{b:Bo}{x y:Qb}(h:QkS (.take x y) b=none):∃r c:Nat,x=.int r/\y=.int c/\r<b.h/\c<b.w/\b.f r c=true:=by
 have h:(if inP b x y=true then(if b.f (nI x) (nI y)=true then none else some ("cell" : Str)) else some "place")=none:=h;cases z:inP b x y with
 |false=>rw[z] at h;cases h
 |true=>
  rw[z,if_pos rfl] at h;obtain⟨r,c,rfl,rfl,hr,hc⟩:=QkO z;refine⟨r,c,rfl,rfl,hr,hc,?_⟩;cases z2:b.f r c with
  |true=>rfl
  |false=>
   have h:(if b.f r c=true then none else some ("cell" : Str))=none:=h;rw[z2] at h;cases h
theorem Bo.bds{b:Bo}(o:b.ok):Bds b.h b.w (Qv b.h b.w b.f):=⟨o.h6,o.w6,λp hp=>YD hp⟩
def QAu(C:Addr):DF:=λargs R EX=>∃(b:Bo)(x y:Qb),args=[.v b.d,.v x,.v y]/\(inP b x y=true->R .none)/\(inP b x y=false->EX C)
def QAt(C:Addr):DF:=λargs R EX=>∃n:Nat,args=[.v (.int n)]/\(n=6->EX C)/\(n≠6->R .none)
def Qsd(C:Addr):DF:=λargs R EX=>∃(b:Bo)(r c:Nat),args=[.v b.d,.v (pairD ((r:Int),(c:Int)))]/\r<b.h/\c<b.w/\(b.f r c=false->EX C)/\(b.f r c=true->R .none)
def QBC(C:Addr):DF:=λargs R EX=>∃(b:Bo)(r c:Nat),args=[.v b.d,.v (pairD ((r:Int),(c:Int)))]/\r<b.h/\c<b.w/\(b.f r c=false->EX C)/\(b.f r c=true->R (Qcb (.take (.int r) (.int c)) b).d)
def Qsc:DF:=λargs R _=>∃(h w:Nat)(cs:List (Int×Int))(k:Nat),args=[.v (bdD h w cs),.v (.int k)]/\k<=min h w/\R .none
def Qjj:DF:=λargs R _=>∃(h w:Nat)(cs:List (Int×Int))(k:Nat),args=[.v (bdD h w cs),.v (.int k),.v (.int 0)]/\GB h w cs/\k<=min h w/\0<Wc cs h h 0 k/\∀L:List (Int×Int),L.length=k->(∀p∈L,p∈cs)->R (stT L)
def Gr(cs:List (Int×Int))(h w m:Nat):Prop:=m<=min h w/\0<Wc cs h h 0 m
def QsI:DF:=λargs R _=>∃(h w:Nat)(cs:List (Int×Int)),args=[.v (bdD h w cs)]/\Bds h w cs/\∀m,Gr cs h w m->R (.int (m:Int))
def QnL:DF:=λargs R _=>∃(h w:Nat)(cs S:List (Int×Int))(m n:Nat),args=[.v (bdD h w cs),.v (.list (Qje cs h w h)),.v (stT S),.v (.int m),.v (.int n)]/\GB h w cs/\Std cs S/\m<h/\n<(xts cs (m+1) S).length/\∀c (n':Nat),c∈fol cs S->n'<(xts cs m (S++[c])).length->R (.tuple [pairD c,.int n'])
section
variable{P:Qm}{w:QZ}{K:PySem.W.Frag}{mg:Str->Option Value}{base:JS}
theorem Qpu(F:DefC P w K mg base "is_whole" Qr2)(T:GlbA mg) :
  Cal P w K mg base CX0 1 "is_whole" (ZN false Qi7):=by
 refine okq ["thing"] 1 false F λcdv A outer s H E nD hr hU hI=>?_
 refine⟨_,Jf (QaU (Qmk (Jp (Qd7 .int (by rfl) T.isinstance (qp 0) (by rfl) T.int Qdv)) (Qkv (Qxt (Jp (Qd7 .bool (by rfl) T.isinstance (qp 0) (by rfl) T.bool QnS)))))),λargs R EX h=>?_⟩;obtain⟨d,rfl,hR⟩:=h;cases d<;>exact hR
theorem QmL(F:DefC P w K mg base "is_whole_within" QlW)(T:GlbA mg)
  (c1:Cal P w K mg base CX0 1 "is_whole" (ZN false Qi7)) :
  Cal P w K mg base CX0 2 "is_whole_within" (ZN false QeD):=by
 refine okq ["thing", "least", "most"] 3 false F λcdv A outer s H E nD hr hU hI=>?_
 refine⟨_,Jf (QaU (Qmk (Q9 (Qa9 c1 hr (Yz (qv 0) Zi))) (Qkv (JV (QAA Qps Qps (qp 1) (qp 0) (qp 2)))))),λargs R EX h=>?_⟩;obtain⟨d,a,b,rfl,hR⟩:=h;refine⟨d,rfl,?_⟩;cases d with
 |int i=>exact QbZ (Qzh hR)
 |_=>exact hR
theorem Qpz(F:DefC P w K mg base "is_place" Qr5)(T:GlbA mg)
  (c1:Cal P w K mg base CX0 2 "is_whole_within" (ZN false QeD)) :
  Cal P w K mg base CX0 3 "is_place" (ZN false Qsj):=by
 refine okq ["high", "wide", "thing"] 3 false F λcdv A outer s H E nD hr hU hI=>?_
 refine⟨_,QF (Qa8 (QoW (Qku (QbD (QbC (Jp (Qd7 .tuple (by rfl) T.isinstance (qp 2) (by rfl) T.tuple Z4)))) (Qjv (ZA QhB (QmX hU) (Jp (QaC Qfd QnM (by rfl) T.len Qbm (Qdb (qp 2) Ja))) (Q9 Jo) (JZ _))))) (Jf (QaU Qwi)) ZE)
  (Jf (QaU (Qmk (Q9 (Qa9 c1 hr (Yz (QaO JO Zx (qp 2) (Q9 Jo) (λ_ _=>rfl)) (Yz Jo (Yz (JV (YC QeQ Qea (qp 0) (Q9 Jo))) Zi))))) (Qkv (Qa9 c1 hr (Yz (QaO JO Zx (qp 2) (Q9 Jo) (λ_ _=>rfl)) (Yz Jo (Yz (JV (YC QeQ Qea (qp 1) (Q9 Jo))) Zi)))))))),λargs R EX h=>?_⟩
 obtain⟨h,w,d,rfl,hR⟩:=h;cases d with
 |tuple ds=>
  match ds,hR with
  |[a,b],hR=>
   refine⟨a,rfl,_,_,_,rfl,?_⟩;refine QvX hR λ_ hR=>?_
   exact⟨b,rfl,_,_,_,rfl,hR⟩
  |[],hR=>exact hR
  |[_],hR=>exact hR
  |a::b::c::r,hR=>
   exact hR
 |_=>exact hR
theorem QuR(F:DefC P w K mg base "most_size" Qw8)(T:GlbA mg) :
  Cal P w K mg base CX0 1 "most_size" (ZN false Qvc):=by
 refine okq ["board"] 1 false F λcdv A outer s H E nD hr hU hI=>?_
 refine⟨_,Jf (Yj (QaC (QhZ rfl) Qrt (by rfl) T.min QsZ (Qdb (Q9 (QaO JO Zx (qp 0) (Q9 Jo) (λ_ _=>rfl))) (Qdb (Q9 (QaO JO Zx (qp 0) (Q9 Jo) (λ_ _=>rfl))) Ja)))),λargs R EX h=>?_⟩;obtain⟨h,w,cs,rfl,hR⟩:=h;exact⟨_,Q3 (j:=0) rfl,_,Q3 (j:=1) rfl,Qvd (by split<;>omega) hR⟩
theorem QuC(F:DefC P w K mg base "ways_with_row" sRow)(T:GlbA mg) :
  Cal P w K mg base CX0 1 "ways_with_row" (ZN true QwA):=by
 refine okq ["below", "columns", "taken", "ways", "column", "bit", "size", "many"] 3 true F λcdv A outer s H E nD hr hU hI=>?_
 refine⟨_,QF (QdJ 3 (ZQ QbQ QiQ (by rfl) T.list QiS (Qdb (Q9 (QaO JO Zx (qp 0) (qp 2) (λ_ _=>rfl))) Ja)) nD)
  (QF (Qhr J3 rfl (Qgs (qv 1)) (YK 4 nD rfl (by first | exact Qx rfl | exact QL rfl))
   (QF (Z8 5 (JV (YC QjF QiD (Q9 Jo) (qp 4))) nD)
  (Jf (Qa8 (QbD (QfP (Jp (YC Qx7 Qea (qp 2) (qp 5))))) (Jf (Qhr J3 rfl (Qjx (by rfl) T.enumerate (JV (Qmi (Q9 (QaO JO Zx (qp 0) (Jp (YC QAL Qea (qp 2) (qp 5))) (λ_ _=>rfl))) Qmg (Qmf (Jp (QoX (Q9 Jo))))))) (Qbg rfl (JW 6 (JW 7 Qbh nD rfl (by first | exact Qx rfl | exact QL rfl)) nD rfl (by first | exact Qx rfl | exact QL rfl)))
   (Jf (QtR 3 QsF QiC (Jp (YC YL QaX (qp 6) (Q9 Jo))) (qp 7))))) ZE))))
  (Jf (Qit 3))),λargs R EX h=>?_⟩
 obtain⟨h,w,B,cols,t,rfl,ht,hc,h6,w6,hR⟩:=h;refine⟨_,Q3 (QeF ht),?_⟩;refine Qdq (λj δ=>∃ds x4 x5 x6 x7,δ=[.v (.list (Qio h w B)),.v (.list (Qvq cols)),.v (.int t),.own ds,x4,x5,x6,x7]/\ds=Qer h (Qgh B (cols.take j) t)) ⟨_,_,_,_,_,rfl,QbB λk _=>?_⟩ ?_ ?_
 ·show B t k=B t k+if k=0 then 0 else 0
  split<;>omega
 ·rintro j d δ hd ⟨ds,x4,x5,x6,x7,rfl,rfl⟩;unfold Qvq at hd;rw[Qz] at hd;obtain⟨c,ec,rfl⟩:∃c:Nat,cols[j]? = some c/\d=.int (c:Int):=by
   cases e:cols[j]? with
   |none=>rw[e] at hd;cases hd
   |some p=>rw[e] at hd;cases hd;exact⟨p,rfl,rfl⟩
  have hcw:=hc c (J4 ec);have et:cols.take (j+1)=cols.take j++[c]:=by rw[QaF,ec];rfl
  refine⟨⟨by omega,by omega,by decide⟩,trivial,?_⟩;show if(!tru (.int (QcZ (t:Int) (1*2^((c:Nat):Int).toNat))))=true then _ else _
  rw[QvY ht hcw w6];cases hb:t.testBit c with
  |true=>
   have np:(2:Int)^c≠0:=by
    have:(0:Int)<2^c:=Int.pow_pos (by decide);omega
   rw[if_pos rfl];refine ifF ?_ ⟨_,_,_,_,_,rfl,QbB λk _=>?_⟩
   ·show(!((2:Int)^c != 0))=false;simp[np]
   ·unfold Qgh;rw[et,QeG,if_pos hb,QfK]
  |false=>
   refine ifT rfl ?_
   have olt:=QxX ht hcw;refine⟨.list (Qer h (B (t ||| 2^c))),?_,?_⟩
   ·show atI (Qio h w B) (QdC (t:Int) (1*2^((c:Nat):Int).toNat))=_;rw[QxY ht hcw w6];exact Q3 (QeF olt)
   ·show Qv2 (QhO (Dl.cutD (Qer h (B (t ||| 2^c))) none (some (-1)))) _ _ _ _;rw[QoS];refine Qdq (λi δ=>∃ds x6 x7,δ=[.v (.list (Qio h w B)),.v (.list (Qvq cols)),.v (.int t),.own ds,.v (.int c),.v (.int (1*2^((c:Nat):Int).toNat)),x6,x7]/\ds=Qer h (λk=>Qgh B (cols.take j) t k+if 1<=k/\k<=i then B (t ||| 2^c) (k - 1) else 0)) ⟨_,_,_,rfl,QbB λk _=>?_⟩ ?_ ?_
    ·rw[if_neg (by omega),QfK]
    ·rintro i d δ hd ⟨ds,x6,x7,rfl,rfl⟩;obtain⟨e,he,rfl⟩:=QgF hd;rw[Qz] at he;have hi:i<h:=by
      by_cases z:i<h
      ·exact z
      ·rw[JC (by rw[Q5];omega)] at he;cases he
     rw[Zb hi] at he;cases he;refine⟨rfl,i+1,_,?_,Qb7 (by omega),_,_,_,rfl,?_⟩
     ·rw[Qcl];exact QiG (k:=i+1) (by omega)
     ·rw[QoQ (by omega)];refine QbB λk hk=>?_
      show(if k=i+1 then(Qgh B (cols.take j) t (i+1)+if 1<=i+1/\i+1<=i then B (t ||| 2^c) (i+1 - 1) else 0)+B (t ||| 2^c) i else Qgh B (cols.take j) t k+if 1<=k/\k<=i then B (t ||| 2^c) (k - 1) else 0)=Qgh B (cols.take j) t k+if 1<=k/\k<=i+1 then B (t ||| 2^c) (k - 1) else 0
      by_cases z:k=i+1
      ·subst z;rw[if_pos rfl,if_neg (by omega),if_pos (by omega),QeA,QfK]
      ·rw[if_neg z];by_cases z2:1<=k/\k<=i
       ·rw[if_pos z2,if_pos (by omega)]
       ·rw[if_neg z2,if_neg (by omega)]
    ·rintro δ ⟨ds,x6,x7,rfl,rfl⟩;rw[QgE,Qc,Q5];refine⟨_,_,_,_,_,rfl,QbB λk hk=>?_⟩;unfold Qgh;rw[et];by_cases z:k=0
     ·subst z;rw[if_pos rfl,if_neg (by omega),if_pos rfl];omega
     ·rw[if_neg z,if_neg z,if_pos (by omega),QeG,if_neg (by rw[hb];decide)];omega
 ·rintro δ ⟨ds,x4,x5,x6,x7,rfl,rfl⟩;unfold Qvq;rw[Qc,YW];exact hR
theorem QpS:(["taken", "high"]:List Str).Nodup:=by decide
theorem QjM:(["at", "column", "row"]:List Str).Nodup:=by decide
theorem QpR:(["taken", "columns", "table"]:List Str).Nodup:=by decide
theorem QuE(F:DefC P w K mg base "ways_to_go_on" Qw2)(T:GlbA mg)
  (c1:Cal P w K mg base CX0 1 "ways_with_row" (ZN true QwA)) :
  Cal P w K mg base CX0 2 "ways_to_go_on" (ZN true Qtn):=by
 refine okq ["board", "high", "wide", "cells", "table", "row", "columns"] 1 true F λcdv A outer s H E nD hr hU hI=>?_
 refine⟨_,QF (QeM (qv 0) (Qbg rfl (JW 1 (JW 2 (JW 3 Qbh nD rfl (by first | exact Qx rfl | exact QL rfl)) nD rfl (by first | exact Qx rfl | exact QL rfl)) nD rfl (by first | exact Qx rfl | exact QL rfl))))
  (QF (QdJ 4 (QcG (J8 (JV (Qbi ["taken", "high"] [none,some 1] (QdK (by rfl) T.range (Jp (YC QjF QiD (Q9 Jo) (qp 2)))) (λcl ex s3 H3 C=>⟨(YK 0 QpS rfl (Qx rfl) (QL rfl)),Qb8,(JV (YC YL QaX (Jp (QcG (J8 Jo Ja))) (Jp (YC QmJ Qst (Jp (QcG (J8 Jo Ja))) (qp 1)))))⟩))) Ja)) nD)
  (QF (Qhr J3 rfl (Qmh (by rfl) T.reversed (by rfl) T.range (qp 1)) (YK 5 nD rfl (by first | exact Qx rfl | exact QL rfl))
   (QF (Z8 6 (JV (Qbi ["at", "column", "row"] [none,none,some 5] (Qd6 (qp 3)) (λcl ex s3 H3 C=>⟨(Qbg rfl (JW 0 (JW 1 Qbh QjM rfl (Qx rfl) (QL rfl)) QjM rfl (Qx rfl) (QL rfl))),(QbM (ZA QbG (QdN hU) (qp 0) (qp 2) (JZ _))),(qv 1)⟩))) nD)
  (Jf (Qxp 4 Jo (JV (Qbi ["taken", "columns", "table"] [none,some 6,some 4] (QdK (by rfl) T.range (Jp (YC QjF QiD (Q9 Jo) (qp 2)))) (λcl ex s3 H3 C=>⟨(YK 0 QpR rfl (Qx rfl) (QL rfl)),Qb8,(JV (QbW c1 hr (Yz (QaO JO Zx (qp 2) (Q9 Jo) (λ_ _=>rfl)) (Yz (qv 1) (Yz (qv 0) Zi)))))⟩)))))))
  (Jf (Qit 4)))),λargs R EX h=>?_⟩
 obtain⟨h,w,cs,rfl,h6,w6,hb,hR⟩:=h;refine⟨rfl,⟨by omega,by omega,by decide⟩,?_,Qfb (λ_=>.list (QJ 1::Jc h (.int 0))) (λd hd k2 hk=>?_) ?_⟩
 ·exact Qsi w6
 ·refine⟨⟨by omega,by omega,by rw[QB];show 1*h<=_;omega⟩,?_⟩;rw[QB,QtI];refine⟨by rw[QaM];show 1+h<=_;omega,hk⟩
 ·have e0:(Qib 0 (1*2^((w:Nat):Int).toNat:Int).toNat).map (λ_=>YS (QJ 1::Jc h (.int 0)))=Qio h w (Wc cs h 0):=by
   rw[Qgv,QB];unfold Qib Qio;rw[Q8];refine QdY λt _=>?_
   show YS _=YS _;rw[QoR]
  rw[e0];refine⟨⟨by omega,by omega⟩,Qdq (λi δ=>∃ds x5 x6,δ=[.v (bdD h w cs),.v (.int h),.v (.int w),.v (.tuple (cs.map pairD)),.own ds,x5,x6]/\ds=Qje cs h w i) ⟨_,_,_,rfl,rfl⟩ ?_ ?_⟩
  ·rintro i d δ hd ⟨ds,x5,x6,rfl,rfl⟩;obtain⟨hi,rfl⟩:=Qgq hd;rw[QB] at hi;have er:((((h:Nat):Int).toNat:Nat):Int) - 1 - (i:Int)=((h - 1 - i:Nat):Int):=by omega
   rw[er];refine QhT (λd=>if(toP d).1=((h - 1 - i:Nat):Int) then some (.int (toP d).2) else none) (λd hd k1 k2 h1 h2=>?_) ?_
   ·obtain⟨p,_,rfl⟩:=Qw.mp hd;have h1:(if p.1=((h - 1 - i:Nat):Int) then some (QJ p.2) else none)=none->k1:=h1;have h2:∀e,(if p.1=((h - 1 - i:Nat):Int) then some (QJ p.2) else none)=some e->k2 e:=h2
    refine⟨rfl,?_⟩;show if decide (p.1=((h - 1 - i:Nat):Int))=true then k2 (.int p.2) else k1
    by_cases z:p.1=((h - 1 - i:Nat):Int)
    ·rw[if_pos (decide_eq_true z)];exact h2 _ (if_pos z)
    ·rw[if_neg (by simpa using z)];exact h1 (if_neg z)
   ·rw[QyY cs (h - 1 - i) λp hp=>(hb p hp).1];refine⟨⟨by omega,by omega,by decide⟩,?_,Qfb (λd=>match d with | .int t=>.list (Qer h (Wc cs h (i+1) t.toNat)) | _=>.none) (λd hd k2 hk=>?_) ?_⟩
    ·exact Qsi w6
    ·obtain⟨t,ht⟩:=Zm.mp hd;obtain⟨htl,rfl⟩:=QdI ht;rw[Qgv,QB] at htl;have hk:k2 (.list (Qer h (Wc cs h (i+1) (0+(t:Int)).toNat))):=hk;rw[show(0+(t:Int)).toNat=t by omega] at hk;refine⟨_,Q3 (j:=0) (Qin cs h w i),h,w,Wc cs h i,QkV cs (h - 1 - i),t,by rw[show(0:Int)+(t:Int)=(t:Int) by omega],htl,λc hc=>QvL hb hc,h6,w6,hk⟩
    ·refine⟨by rw[Qjc];omega,_,_,_,rfl,?_⟩;show YS _::Qje cs h w i=YS (Qio h w (Wc cs h (i+1)))::Qje cs h w i
     congr 2
     rw[Qgv,QB];unfold Qib Qio;rw[Q8];refine QdY λt _=>?_
     show YS (Qer h (Wc cs h (i+1) (0+(t:Int)).toNat))=_;rw[show(0+(t:Int)).toNat=t by omega]
  ·rintro δ ⟨ds,x5,x6,rfl,rfl⟩;rw[Qes,QB];exact hR
theorem QmS(F:DefC P w K mg base "counts" QlY)(T:GlbA mg)
  (c1:Cal P w K mg base CX0 2 "ways_to_go_on" (ZN true Qtn))
  (c2:Cal P w K mg base CX0 1 "most_size" (ZN false Qvc)) :
  Cal P w K mg base CX0 3 "counts" (ZN true QiM):=by
 refine okq ["board"] 1 true F λcdv A outer s H E nD hr hU hI=>?_
 refine⟨_,Jf (Yj (Qmi (Q9 (QaO JO Zx (Q9 (QaO JO Zx (Jp (QbW c1 hr (Yz (qv 0) Zi))) (Q9 Jo) (λ_ _=>rfl))) (Q9 Jo) (λ_ _=>rfl))) Qmg (Qmf (Jp (YC YL QaX (Q9 (Qa9 c2 hr (Yz (qv 0) Zi))) (Q9 Jo)))))),λargs R EX h=>?_⟩;obtain⟨h,w,cs,rfl,h6,w6,hb,hR⟩:=h;refine⟨_,_,_,rfl,h6,w6,hb,_,Q3 (j:=0) (Qin cs h w h),_,Q3 (j:=0) (QeF (Qg0 w)),_,_,_,rfl,?_⟩;have e:Dl.cutD (Qer h (Wc cs h h 0)) none (some (((min h w:Nat):Int)+1))=Qj1 cs h w:=by
  rw[Qrp _ _ (by omega)];unfold Qer Qj1;rw[<- Qi1,Qv9,show min (((min h w:Nat):Int)+1).toNat (h+1)=min h w+1 by omega]
 have hR:R (.list (Qj1 cs h w)):=hR;rw[<- e] at hR;exact hR
theorem QhI:(["size", "many"]:List Str).Nodup:=by decide
theorem QpC(F:DefC P w K mg base "greatest_size" Qr7)(T:GlbA mg)
  (c1:Cal P w K mg base CX0 3 "counts_stands" (ZN true QiM)) :
  Cal P w K mg base CX0 4 "greatest_size" (ZN false QsI):=by
 refine okq ["board"] 1 false F λcdv A outer s H E nD hr hU hI=>?_
 refine⟨_,Jf (Yj (QaC (QnP rfl) QvQ (by rfl) T.max Qs0 (Qdb (Jp (Qbi ["size", "many"] [none,none] (Qjx (by rfl) T.enumerate (Jp (QbW c1 hr (Yz (qv 0) Zi)))) (λcl ex s3 H3 C=>⟨(Qbg rfl (JW 0 (JW 1 Qbh QhI rfl (Qx rfl) (QL rfl)) QhI rfl (Qx rfl) (QL rfl))),(QbM (ZA Qx4 QeS (qp 1) (Q9 Jo) (JZ _))),(qv 0)⟩))) Ja))),λargs R EX h=>?_⟩;obtain⟨h,w,cs,rfl,b,hR⟩:=h;refine⟨_,_,_,rfl,b.1,b.2.1,b.col,QhT (λd=>match d with | .tuple [.int k,.int n]=>if 0<n then some (.int k) else none | _=>none) (λd hd k1 k2 h1 h2=>?_) ?_⟩
 ·obtain⟨k,hk⟩:=Zm.mp hd;obtain⟨e,he,rfl⟩:=QgF hk;obtain⟨n,rfl⟩:=Qrr (J4 he);have h1:(if 0<n then some (QJ (k:Int)) else none)=none->k1:=h1;have h2:∀e,(if 0<n then some (QJ (k:Int)) else none)=some e->k2 e:=h2
  refine⟨rfl,?_⟩;show if decide (0<n)=true then k2 (.int (k:Int)) else k1
  by_cases z:0<n
  ·rw[if_pos (decide_eq_true z)];exact h2 _ (if_pos z)
  ·rw[if_neg (by simpa using z)];exact h1 (if_neg z)
 ·have e:(QhO (Qj1 cs h w)).filterMap (λd=>match d with | .tuple [.int k,.int n]=>if 0<n then some (QJ k) else none | _=>none)=(((QN (min h w+1)).filter λk=>decide (0<Wc cs h h 0 k)).map λ(k:Nat)=>(k:Int)).map QJ:=by
   unfold QhO;rw[ZP,Q8,Qrq];refine QkQ λk hk=>?_
   have hk:=JM.mp hk;have e1:(Qj1 cs h w).getD k .none=.int (Wc cs h h 0 k):=by
    unfold Qj1;rw[Qg,Qz,Zb hk];rfl
   show(match YV [.int (k:Int),(Qj1 cs h w).getD k .none] with | .tuple [.int k,.int n]=>if 0<n then some (QJ k) else none | _=>none)=_;rw[e1];show(if 0<Wc cs h h 0 k then some (QJ (k:Int)) else none)=if decide (0<Wc cs h h 0 k)=true then _ else _
   by_cases z:0<Wc cs h h 0 k
   ·rw[if_pos z,if_pos (decide_eq_true z)];rfl
   ·rw[if_neg z,if_neg (by simpa using z)]
  rw[e];have mem:∀{k:Nat},k<=min h w->0<Wc cs h h 0 k->(k:Int)∈((QN (min h w+1)).filter λk=>decide (0<Wc cs h h 0 k)).map λ(k:Nat)=>(k:Int):=λ{k} h1 h2=>Qw.mpr ⟨k,Ju.mpr ⟨JM.mpr (by omega),decide_eq_true h2⟩,rfl⟩
  refine Qvf (List.length_pos_of_mem (mem (Jn _) (by rw[Qs5];decide))) λm hm hmx=>?_
  obtain⟨k,hk,rfl⟩:=Qw.mp hm;have hk:=Ju.mp hk;exact hR k ⟨by have:=JM.mp hk.1;omega,of_decide_eq_true hk.2⟩
theorem QjN:(["row", "column"]:List Str).Nodup:=by decide
theorem QuG(F:DefC P w K mg base "turned" Qw5)(T:GlbA mg) :
  Cal P w K mg base CX0 2 "turned" (ZN false QwE):=by
 refine okq ["board", "high", "wide", "cells"] 1 false F λcdv A outer s H E nD hr hU hI=>?_
 refine⟨_,QF (QeM (qv 0) (Qbg rfl (JW 1 (JW 2 (JW 3 Qbh nD rfl (by first | exact Qx rfl | exact QL rfl)) nD rfl (by first | exact Qx rfl | exact QL rfl)) nD rfl (by first | exact Qx rfl | exact QL rfl))))
  (Jf (Yj (ZZ (J8 (qv 2) (J8 (qv 1) (J8 (JV (ZQ JL Ys (by rfl) T.tuple Z4 (Qdb (Jp (QaC QdV cd_sortP (by rfl) T.sorted Qcf (Qdb (Jp (Qbi ["row", "column"] [none,none] (Qd6 (qp 3)) (λcl ex s3 H3 C=>⟨(Qbg rfl (JW 0 (JW 1 Qbh QjN rfl (Qx rfl) (QL rfl)) QjN rfl (Qx rfl) (QL rfl))),Qb8,(JV (ZZ (J8 (qv 1) (J8 (qv 0) Ja))))⟩))) Ja))) Ja))) Ja)))))),λargs R EX h=>?_⟩
 obtain⟨h,w,f,rfl,h6,w6,hR⟩:=h;have hb:∀p∈Qv h w f,0<=p.1/\p.1<h/\0<=p.2/\p.2<w:=λp hp=>YD hp
 have nd1:(Qv h w f).Nodup:=(pw_cellsF w f h).imp Qd8;have nd2:(Qv w h (tF f)).Nodup:=(pw_cellsF h (tF f) w).imp Qd8;have ln:(Qv h w f).length<=36:=Qt (Z9 w f h) (ZX h6 w6);have es:((Qv h w f).map pairD).map (λd=>pairD ((toP d).2,(toP d).1))=((Qv h w f).map λp=>(p.2,p.1)).map pairD:=by rw[Q8,Q8];rfl
 have nd3:((Qv h w f).map λp=>(p.2,p.1)).Nodup:=Qfm.mpr (nd1.imp λ{a b} hne e=>hne (Qc4 (Zr e).2 (Zr e).1));refine⟨rfl,Qfb (λd=>pairD ((toP d).2,(toP d).1)) (λd hd k2 hk=>?_) ?_⟩
 ·obtain⟨p,_,rfl⟩:=Qw.mp hd;exact⟨rfl,hk⟩
 ·rw[es];refine sortP_of nd3 (by rw[Qc];omega) (λp hp=>?_) λM pM pw=>?_
  ·obtain⟨q,hq,rfl⟩:=Qw.mp hp;have:=hb q hq;show 0<=q.1/\q.1<64;omega
  ·have pc:M.Perm (Qv w h (tF f)):=pM.trans ((YI nd3 nd2).mpr λp=>by
    rw[Qw,JX];constructor
    ·rintro⟨q,hq,rfl⟩;obtain⟨r,c,hr,hc,hf,rfl⟩:=JX.mp hq;exact⟨c,r,hc,hr,hf,rfl⟩
    ·rintro⟨r,c,hr,hc,hf,rfl⟩;exact⟨((c:Int),(r:Int)),JX.mpr ⟨c,r,hc,hr,hf,rfl⟩,rfl⟩)
   have eM:M=Qv w h (tF f):=Qby (le:=plt) (λa b _ _ h1 h2=>by rcases h1 with x | x<;>rcases h2 with y | y<;>omega) pw (pw_cellsF h (tF f) w) pc;rw[eM];exact hR
theorem QhG:(["row", "column", "cells", "wide"]:List Str).Nodup:=by decide
theorem Qpx(F:DefC P w K mg base "rest" Qr3)(T:GlbA mg) :
  Cal P w K mg base CX0 1 "rest" (ZN false Qsa):=by
 refine okq ["board", "high", "wide", "cells", "left"] 1 false F λcdv A outer s H E nD hr hU hI=>?_
 refine⟨_,QF (QeM (qv 0) (Qbg rfl (JW 1 (JW 2 (JW 3 Qbh nD rfl (by first | exact Qx rfl | exact QL rfl)) nD rfl (by first | exact Qx rfl | exact QL rfl)) nD rfl (by first | exact Qx rfl | exact QL rfl))))
  (QF (QoV ["row", "column", "cells", "wide"] [none,none,some 3,some 2] 4 nD (Qp9 0) (QdK (by rfl) T.range (qp 1)) (λcl ex s3 H3 C=>⟨(YK 0 QhG rfl (Qx rfl) (QL rfl)),Qb8,(QdK (by rfl) T.range (qp 3)),(YK 1 QhG rfl (Qx rfl) (QL rfl)),(QbM (ZA QbF (QeR hI) (Jp (ZZ (J8 (qv 0) (J8 (qv 1) Ja)))) (qp 2) (by rfl))),(JV (ZZ (J8 (qv 0) (J8 (qv 1) Ja))))⟩))
  (Jf (Yj (ZZ (J8 (qv 1) (J8 (qv 2) (J8 (JV (ZQ JL Ys (by rfl) T.tuple Z4 (Qdb (qp 4) Ja))) Ja))))))),λargs R EX h=>?_⟩
 obtain⟨h,w,f,rfl,h6,w6,hR⟩:=h;have fl:∀i,(Qv i w (QhF f)).length<=i*w:=Z9 w (QhF f)
 have e0:∀n:Nat,(Qib 0 n).flatMap (λd=>match d with | .int r=>(QfA r.toNat w (QhF f)).map pairD | _=>[])=(Qv n w (QhF f)).map pairD:=λn=>by
  unfold Qib Qv;rw[Qtg,List.map_flatMap]
  congr 1
  funext r
  show(QfA (0+(r:Int)).toNat w (QhF f)).map pairD=_;rw[show(0+(r:Int)).toNat=r by omega]
 refine⟨rfl,⟨by omega,by omega⟩,QvN (λd=>match d with | .int r=>(QfA r.toNat w (QhF f)).map pairD | _=>[]) 36 ?_ (λd hd acc N hb hN=>?_) ?_⟩
 ·rw[QB,e0,Qc];exact Qt (fl h) (ZX h6 w6)
 ·obtain⟨i,hi⟩:=Zm.mp hd;obtain⟨hi2,rfl⟩:=QdI hi;rw[QB] at hi2;have hN:N (acc++(QfA (0+(i:Int)).toNat w (QhF f)).map pairD):=hN;have hb:acc.length+((QfA (0+(i:Int)).toNat w (QhF f)).map pairD).length<=36:=hb;rw[show(0+(i:Int)).toNat=i by omega] at hN hb;refine⟨⟨by omega,by omega⟩,QA0 (λd=>match d with | .int c=>if(!f i c.toNat)=true then some (pairD ((i:Int),c)) else none | _=>none) ?_ (λd hd k1 k2 h1 h2=>?_) ?_⟩
  ·rw[Qgp];exact Jt (show acc.length+((w:Nat):Int).toNat<=42 by omega) (by decide)
  ·obtain⟨c,hc⟩:=Zm.mp hd;obtain⟨hc2,rfl⟩:=QdI hc;rw[QB] at hc2;have h1:(if(!f i (0+(c:Int)).toNat)=true then some (pairD ((i:Int),0+(c:Int))) else none)=none->k1:=h1;have h2:∀e,(if(!f i (0+(c:Int)).toNat)=true then some (pairD ((i:Int),0+(c:Int))) else none)=some e->k2 e:=h2
   rw[show(0+(c:Int)).toNat=c by omega] at h1 h2;refine⟨⟨ZK _,rfl,by have:=ZI ((0+(i:Int)),(0+(c:Int)));exact Qt (YA this) (by decide)⟩,?_⟩;show if(!((Qv h w f).map pairD).any λe=>QY e (pairD (0+(i:Int),0+(c:Int))))=true then k2 (pairD (0+(i:Int),0+(c:Int))) else k1
   rw[YE];have em:decide ((0+(i:Int),0+(c:Int))∈Qv h w f)=f i c:=by
    rw[show(0:Int)+(i:Int)=(i:Int) by omega,show(0:Int)+(c:Int)=(c:Int) by omega,JD,decide_eq_true_eq,JX];constructor
    ·rintro⟨r,d,_,_,hf,e⟩;have e1:(i:Int)=r:=(Zr e).1;have e2:(c:Int)=d:=(Zr e).2;rw[show i=r by omega,show c=d by omega];exact hf
    ·intro hf;exact⟨i,c,hi2,hc2,hf,rfl⟩
   rw[em,show(0:Int)+(i:Int)=(i:Int) by omega];by_cases z:(!f i c)=true
   ·rw[if_pos z];exact h2 _ (if_pos z)
   ·rw[if_neg z];exact h1 (if_neg z)
  ·have er:(Qib 0 ((w:Nat):Int).toNat).filterMap (λd=>match d with | .int c=>if(!f i c.toNat)=true then some (pairD ((i:Int),c)) else none | _=>none)=(QfA i w (QhF f)).map pairD:=by
    unfold Qib QfA;rw[QB,ZP,Q8];refine QkQ (p:=QhF f i) λc _=>?_
    show(if(!f i (0+(c:Int)).toNat)=true then some (pairD ((i:Int),0+(c:Int))) else none)=if(!f i c)=true then some (pairD ((i:Int),(c:Int))) else none
    rw[show(0+(c:Int)).toNat=c by omega,show(0:Int)+(c:Int)=(c:Int) by omega]
   rw[er];exact hN
 ·rw[QB,e0];exact hR
theorem Qyc{CP:Addr}(F:DefC P w K mg base "refuse_no_place" sRnp)(T:GlbA mg)
  (c1:Cal P w K mg base CX0 2 "is_whole_within" (ZN false QeD))
  (mCP:mg "NoPlace" = some (.ref CP))(qCP:PySem.W.excIn K CP Rx.mroV "ValueError.__new__" = true) :
  Cal P w K mg base (Rx.CXE P w) 3 "refuse_no_place" (ZN false (QAu CP)):=by
 refine QzC ["board", "row", "column"] 3 false F λcdv A outer s H E nD hr hU hI=>?_
 refine⟨_,QF (Qa8 (QbD (QbC (Q9 (Qa9 c1 hr (Yz (qv 1) (Yz Jo (Yz (JV (YC QeQ Qea (Q9 (QaO JO Zx (qp 0) (Q9 Jo) (λ_ _=>rfl))) (Q9 Jo))) Zi))))))) (Jf (Qet (λ_ _ h=>h) mCP qCP (Q9 Qaj))) ZE)
  (Jf (Qa8 (QbD (QbC (Q9 (Qa9 c1 hr (Yz (qv 2) (Yz Jo (Yz (JV (YC QeQ Qea (Q9 (QaO JO Zx (qp 0) (Q9 Jo) (λ_ _=>rfl))) (Q9 Jo))) Zi))))))) (Jf (Qet (λ_ _ h=>h) mCP qCP (Q9 Qaj))) ZE)),λargs R EX h=>?_⟩
 obtain⟨b,x,y,rfl,hR,hX⟩:=h;have e:inP b x y=(inW x 0 ((b.h:Int) - 1)&&inW y 0 ((b.w:Int) - 1)):=rfl;rw[e] at hR hX;refine⟨_,Q3 (j:=0) rfl,_,_,_,rfl,?_⟩;cases h1:inW x 0 ((b.h:Int) - 1) with
 |false=>exact hX (by rw[h1];rfl)
 |true=>
  refine⟨_,Q3 (j:=1) rfl,_,_,_,rfl,?_⟩;cases h2:inW y 0 ((b.w:Int) - 1) with
  |false=>exact hX (by rw[h1,h2];rfl)
  |true=>exact hR (by rw[h1,h2];rfl)
theorem Qyb{CM:Addr}(hA:∃t,mg "MOST_LINES" = some (.int 6 t))(F:DefC P w K mg base "refuse_too_many" sRtm)(T:GlbA mg)
  (mCM:mg "TooMany" = some (.ref CM))(qCM:PySem.W.excIn K CM Rx.mroV "ValueError.__new__" = true) :
  Cal P w K mg base (Rx.CXE P w) 1 "refuse_too_many" (ZN false (QAt CM)):=by
 refine QzC ["lines"] 1 false F λcdv A outer s H E nD hr hU hI=>?_
 obtain⟨tA,mA⟩:=hA;refine⟨_,Jf (Qa8 (ZA QbG (QdN hU) (qp 0) (Q9 (Qxu 6 (by rfl) mA ⟨_,rfl⟩)) (JZ _)) (Jf (Qet (λ_ _ h=>h) mCM qCM (Q9 Qaj))) ZE),λargs R EX h=>?_⟩;obtain⟨n,rfl,hX,hR⟩:=h;refine ifC (λz=>hX ?_) λz=>hR ?_
 ·have z:=of_decide_eq_true z;omega
 ·have z:=of_decide_eq_false z;omega
theorem QuO{CN:Addr}(F:DefC P w K mg base "refuse_no_cell" Qw7)(T:GlbA mg)
  (c1:Cal P w K mg base CX0 3 "is_place" (ZN false Qsj))
  (mCN:mg "NoCell" = some (.ref CN))(qCN:PySem.W.excIn K CN Rx.mroV "ValueError.__new__" = true) :
  Cal P w K mg base (Rx.CXE P w) 4 "refuse_no_cell" (ZN false (Qsd CN)):=by
 refine QzC ["board", "cell"] 2 false F λcdv A outer s H E nD hr hU hI=>?_
 refine⟨_,Jf (Qa8 (QoW (Qku (QbD (QbC (Q9 (Qa9 c1 hr (Yz (QaO JO Zx (qp 0) (Q9 Jo) (λ_ _=>rfl)) (Yz (QaO JO Zx (qp 0) (Q9 Jo) (λ_ _=>rfl)) (Yz (qv 1) Zi))))))) (Qjv (ZA QbF (QeR hI) (qp 1) (Q9 (QaO JO Zx (qp 0) (Q9 Jo) (λ_ _=>rfl))) (by rfl))))) (Jf (Qet (λ_ _ h=>h) mCN qCN (Q9 Qaj))) ZE),λargs R EX h=>?_⟩;obtain⟨b,r,c,rfl,hr,hc,hX,hR⟩:=h;refine⟨_,Q3 (j:=0) rfl,_,Q3 (j:=1) rfl,_,_,_,rfl,?_⟩;rw[show QjR (b.h:Int) (b.w:Int) (pairD ((r:Int),(c:Int)))=true from QA1 hr hc];refine⟨_,Q3 (j:=2) rfl,⟨ZK _,rfl,by have:=ZI ((r:Int),(c:Int));omega⟩,?_⟩;have e:(((Qv b.h b.w b.f).map pairD).any λe=>QY e (pairD ((r:Int),(c:Int))))=b.f r c:=by rw[YE,Qm4 hr hc]
 show if(!(((Qv b.h b.w b.f).map pairD).any λe=>QY e (pairD ((r:Int),(c:Int)))))=true then _ else _
 rw[e];cases z:b.f r c with
 |false=>exact hX z
 |true=>exact hR z
theorem Qu6:(["other", "cell"]:List Str).Nodup:=by decide
theorem QAM{CN:Addr}(F:DefC P w K mg base "without" sWo)(T:GlbA mg)
  (c1:Cal P w K mg base (Rx.CXE P w) 4 "refuse_no_cell" (ZN false (Qsd CN))) :
  Cal P w K mg base (Rx.CXE P w) 5 "without" (ZN false (QBC CN)):=by
 refine QzC ["board", "cell", "high", "wide", "cells"] 2 false F λcdv A outer s H E nD hr hU hI=>?_
 refine⟨_,QF (Qme (Q9 (Qsg c1 hr (Rx.QcJ (E:=E) (λ_ _ h=>h) rfl rfl rfl) (Yz (qv 0) (Yz (qv 1) Zi)))))
  (QF (QeM (qv 0) (Qbg rfl (JW 2 (JW 3 (JW 4 Qbh nD rfl (by first | exact Qx rfl | exact QL rfl)) nD rfl (by first | exact Qx rfl | exact QL rfl)) nD rfl (by first | exact Qx rfl | exact QL rfl))))
  (Jf (Yj (ZZ (J8 (qv 2) (J8 (qv 3) (J8 (JV (ZQ JL Ys (by rfl) T.tuple Z4 (Qdb (Jp (Qbi ["other", "cell"] [none,some 1] (Qd6 (qp 4)) (λcl ex s3 H3 C=>⟨(YK 0 Qu6 rfl (Qx rfl) (QL rfl)),(QbM (ZA QhB (QmX hU) (qp 0) (qp 1) (JZ _))),(qv 0)⟩))) Ja))) Ja))))))),λargs R EX h=>?_⟩
 obtain⟨b,r,c,rfl,hr,hc,hX,hR⟩:=h;refine⟨b,r,c,rfl,hr,hc,hX,λhf=>?_⟩;have hR:=hR hf;refine⟨rfl,QhT (λd=>if(λq:Int×Int => !decide (q=((r:Int),(c:Int)))) (toP d)=true then some d else none) (λd hd k1 k2 h1 h2=>?_) ?_⟩
 ·obtain⟨q,_,rfl⟩:=Qw.mp hd;have h1:(if(!decide (q=((r:Int),(c:Int))))=true then some (pairD q) else none)=none->k1:=h1;have h2:∀e,(if(!decide (q=((r:Int),(c:Int))))=true then some (pairD q) else none)=some e->k2 e:=h2
  refine⟨⟨rfl,rfl,.inl (by have:=ZI q;omega)⟩,?_⟩;show if(!QY (pairD q) (pairD ((r:Int),(c:Int))))=true then k2 (pairD q) else k1
  rw[Qds];by_cases z:(!decide (q=((r:Int),(c:Int))))=true
  ·rw[if_pos z];exact h2 _ (if_pos z)
  ·rw[if_neg z];exact h1 (if_neg z)
 ·rw[Qdr (λq:Int×Int => !decide (q=((r:Int),(c:Int)))),Qj2];exact hR
theorem QuN(F:DefC P w K mg base "row_behind" Qw6)(T:GlbA mg) :
  Cal P w K mg base CX0 1 "row_behind" (ZN false QtD):=by
 refine okq ["start"] 1 false F λcdv A outer s H E nD hr hU hI=>?_
 refine⟨_,Jf (QaU (QAz (QfP (qp 0)) (JV (YC YL QaX (Q9 (QaO JO Zx (Q9 (QaO JO Zx (qp 0) (Jp (QoX (Q9 Jo))) (λ_ _=>rfl))) (Q9 Jo) (λ_ _=>rfl))) (Q9 Jo))) Jo)),λargs R EX h=>?_⟩;obtain⟨S,rfl,hR⟩:=h;refine⟨trivial,?_⟩;unfold rbI at hR;cases e:S.getLast? with
 |none=>
  rw[e] at hR;rw[List.getLast?_eq_none_iff] at e;subst e;exact hR
 |some c=>
  rw[e] at hR;refine ifT ?_ ⟨_,Qvk e,_,Q3 (j:=0) rfl,hR⟩
  cases S with
  |nil=>cases e
  |cons a b=>rfl
theorem Qu9:(["cell"]:List Str).Nodup:=by decide
theorem Qu8:(["cell", "row", "taken"]:List Str).Nodup:=by decide
theorem Qyg(F:DefC P w K mg base "followers" sFol)(T:GlbA mg)
  (c1:Cal P w K mg base CX0 1 "row_behind" (ZN false QtD)) :
  Cal P w K mg base CX0 2 "followers" (ZN false QB0):=by
 refine okq ["board", "start", "row", "taken"] 2 false F λcdv A outer s H E nD hr hU hI=>?_
 refine⟨_,QF (Z8 2 (Qa9 c1 hr (Yz (qv 1) Zi)) nD)
  (QF (Z8 3 (JV (Qbi ["cell"] [none] (Qd6 (qp 1)) (λcl ex s3 H3 C=>⟨(YK 0 Qu9 rfl (Qx rfl) (QL rfl)),Qb8,(QaO JO Zx (qp 0) (Q9 Jo) (λ_ _=>rfl))⟩))) nD)
  (Jf (Yj (Qbi ["cell", "row", "taken"] [none,some 2,some 3] (Qd6 (Q9 (QaO JO Zx (qp 0) (Q9 Jo) (λ_ _=>rfl)))) (λcl ex s3 H3 C=>⟨(YK 0 Qu8 rfl (Qx rfl) (QL rfl)),(QbM (QoW (Qhp (ZA Quz QeS (Q9 (QaO JO Zx (qp 0) (Q9 Jo) (λ_ _=>rfl))) (qp 1) (JZ _)) (QeL (ZA QbF (QeR hI) (Q9 (QaO JO Zx (qp 0) (Q9 Jo) (λ_ _=>rfl))) (qp 2) (by rfl)))))),(qv 0)⟩))))),λargs R EX h=>?_⟩
 obtain⟨h,w,cs,S,rfl,hR⟩:=h;refine⟨_,rfl,Qfb (λd=>.int (toP d).2) (λd hd k2 hk=>?_) ?_⟩
 ·obtain⟨p,_,rfl⟩:=Qw.mp hd;exact⟨_,Q3 (j:=1) rfl,hk⟩
 ·rw[show(S.map pairD).map (λd=>QJ (toP d).2)=(S.map (·.2)).map QJ by rw[Q8,Q8];rfl];refine⟨_,Q3 (j:=2) rfl,QhT (λd=>if(λc:Int×Int=>decide (rbI S<=c.1) && !decide (c.2∈S.map (·.2))) (toP d)=true then some d else none) (λd hd k1 k2 h1 h2=>?_) ?_⟩
  ·obtain⟨c,_,rfl⟩:=Qw.mp hd;have h1:(if(decide (rbI S<=c.1) && !decide (c.2∈S.map (·.2)))=true then some (pairD c) else none)=none->k1:=h1;have h2:∀e,(if(decide (rbI S<=c.1) && !decide (c.2∈S.map (·.2)))=true then some (pairD c) else none)=some e->k2 e:=h2
   refine⟨_,Q3 (j:=0) rfl,?_⟩;refine ifC (λz1=>?_) λz1=>?_
   ·have z1:decide (rbI S<=c.1)=true:=z1;rw[z1,Qbe] at h1 h2;refine⟨_,Q3 (j:=1) rfl,⟨QpQ _,rfl,by show Qcw (.int _)<=50;unfold Qcw;decide⟩,?_⟩;show if(!((S.map (·.2)).map QJ).any λe=>QY e (.int c.2))=true then _ else k1
    rw[QvV];by_cases z:(!decide (c.2∈S.map (·.2)))=true
    ·rw[if_pos z];exact h2 _ (if_pos z)
    ·rw[if_neg z];exact h1 (if_neg z)
   ·have z1:decide (rbI S<=c.1)=false:=z1;rw[z1] at h1;exact h1 rfl
  ·rw[Qdr (λc:Int×Int=>decide (rbI S<=c.1) && !decide (c.2∈S.map (·.2)))];exact hR
theorem Qpy(F:DefC P w K mg base "refuse_no_size" Qr4)(T:GlbA mg)
  (c1:Cal P w K mg base CX0 2 "is_whole_within" (ZN false QeD))
  (c2:Cal P w K mg base CX0 1 "most_size" (ZN false Qvc)) :
  Cal P w K mg base CX0 3 "refuse_no_size" (ZN false Qsc):=by
 refine okq ["board", "size"] 2 false F λcdv A outer s H E nD hr hU hI=>?_
 refine⟨_,Jf (Qa8 (QbD (QbC (Q9 (Qa9 c1 hr (Yz (qv 1) (Yz Jo (Yz (Qa9 c2 hr (Yz (qv 0) Zi)) Zi))))))) Qhq ZE),λargs R EX h=>?_⟩;obtain⟨h,w,cs,k,rfl,hk,hR⟩:=h;refine⟨_,_,_,rfl,_,_,_,rfl,?_⟩;show if(!inW (.int k) 0 ((min h w:Nat):Int))=true then _ else _
 rw[Qp6 (by omega) (by omega)];exact hR
theorem QjL:(["row", "column"]:List Str).Nodup:=by decide
theorem QuD(F:DefC P w K mg base "ways_behind" Qw3)(T:GlbA mg)
  (c1:Cal P w K mg base CX0 1 "row_behind" (ZN false QtD)) :
  Cal P w K mg base CX0 2 "ways_behind" (ZN false QwC):=by
 refine okq ["table", "start", "more", "taken"] 3 false F λcdv A outer s H E nD hr hU hI=>?_
 refine⟨_,QF (Z8 3 (JV (QaC (QnO rfl) Qy0 (by rfl) T.sum Qy3 (Qdb (Jp (Qbi ["row", "column"] [none,none] (Qd6 (qp 1)) (λcl ex s3 H3 C=>⟨(Qbg rfl (JW 0 (JW 1 Qbh QjL rfl (Qx rfl) (QL rfl)) QjL rfl (Qx rfl) (QL rfl))),Qb8,(JV (YC QjF QiD (Q9 Jo) (qp 1)))⟩))) Ja))) nD)
  (Jf (QaU (QaO JO Zx (Q9 (QaO JO Zx (Q9 (QaO JO Zx (qp 0) (Q9 (Qa9 c1 hr (Yz (qv 1) Zi))) (λ_ _=>rfl))) (qp 3) (λ_ _=>rfl))) (qp 2) (λ_ _=>rfl)))),λargs R EX h=>?_⟩
 obtain⟨h,w,cs,S,k,rfl,g,st,hk,hR⟩:=h;have rb:=Qxc g st;have hw:=g.bds.2.1;have hb:∀p∈S,0<=p.2/\p.2<(w:Int):=λp hp=>g.bds.col p (st.sub p hp)
 have ms:=Qsx hw (T:=[]) (S:=S) hb st.cols (Qg0 w);rw[Qwa] at ms;refine Qfb (λd=>.int (1*2^(toP d).2.toNat)) (λd hd k2 hk=>?_) ?_
 ·obtain⟨p,hp,rfl⟩:=Qw.mp hd;have:=hb p hp;exact⟨rfl,⟨by omega,by show p.2<=_;omega,by decide⟩,hk⟩
 ·have es:(S.map pairD).map (λd=>QJ (1*2^(toP d).2.toNat))=(S.map λp=>(1*2^p.2.toNat:Int)).map QJ:=by rw[Q8,Q8];rfl
  rw[es];refine Qtu _ rfl ?_
  have e2:(S.map λp=>(1*2^p.2.toNat:Int)).sum=((mkL S:Nat):Int):=by
   have:=ms.1;rw[show((mkL []:Nat):Int)=0 from rfl,QaP] at this;exact this
  rw[e2];obtain⟨r,er⟩:∃r:Nat,rbI S=r:=⟨(rbI S).toNat,by omega⟩
  have xl:=Qij g k S st;rw[er,QB] at xl;rw[xl] at hR;refine⟨_,rfl,.list (Qio h w (Wc cs h (h - r))),?_,_,Q3 (QeF ms.2),_,Q3 (Qb7 hk),hR⟩;rw[er];exact Q3 (Qjd cs h w h r (by omega))
theorem QmT(F:DefC P w K mg base "cell_at" QlZ)(T:GlbA mg)
  (c1:Cal P w K mg base CX0 2 "followers" (ZN false QB0))
  (c2:Cal P w K mg base CX0 2 "ways_behind" (ZN false QwC)) :
  Cal P w K mg base CX0 3 "cell_at" (ZN false QnL):=by
 refine okq ["board", "table", "start", "more", "number", "cells", "at", "ways"] 5 false F λcdv A outer s H E nD hr hU hI=>?_
 refine⟨_,QF (Z8 5 (Qa9 c1 hr (Yz (qv 0) (Yz (qv 2) Zi))) nD)
  (QF (Z8 6 Jo nD)
  (QF (Z8 7 (Qa9 c2 hr (Yz (qv 1) (Yz (JV (YC YL QaX (qp 2) (Jp (ZZ (J8 (QaO JO Zx (qp 5) (qp 6) (λ_ _=>rfl)) Ja))))) (Yz (qv 3) Zi)))) nD)
  (QF (Qgr J3 (ZA Quz QeS (qp 4) (qp 7) (JZ _))
   (QF (Qsf 4 Qyw QiC (qp 7) nD)
  (QF (Qsf 6 QsF QiC (Q9 Jo) nD)
  (Jf (Z8 7 (Qa9 c2 hr (Yz (qv 1) (Yz (JV (YC YL QaX (qp 2) (Jp (ZZ (J8 (QaO JO Zx (qp 5) (qp 6) (λ_ _=>rfl)) Ja))))) (Yz (qv 3) Zi)))) nD)))))
  (Jf (Yj (ZZ (J8 (QaO JO Zx (qp 5) (qp 6) (λ_ _=>rfl)) (J8 (qv 4) Ja)))))))),λargs R EX h=>?_⟩
 obtain⟨h,w,cs,S,m,n,rfl,g,st,hm,hn,hR⟩:=h;have en:xts cs (m+1) S=(fol cs S).flatMap λc=>xts cs m (S++[c]):=rfl
 rw[en] at hn;have lS:(S.map pairD).length=S.length:=Qc _;have sl:=Qtw g st;have h6:=g.bds.1;refine⟨_,_,_,_,rfl,?_⟩;have get:∀a,a<(fol cs S).length->((fol cs S).map pairD)[a]? = some (pairD ((fol cs S).getD a (0,0)))/\(fol cs S).getD a (0,0)∈fol cs S/\(fol cs S).drop a=(fol cs S).getD a (0,0)::(fol cs S).drop (a+1):=λa ha=>by
  have e:(fol cs S).getD a (0,0)=(fol cs S)[a]:=by rw[Qg,Qd ha];rfl
  refine⟨by rw[Qz,Qd ha,e];rfl,by rw[e];exact Jz ha,by rw[e];exact List.drop_eq_getElem_cons ha⟩
 have l0:0<(fol cs S).length:=by
  cases e:fol cs S with
  |nil=>rw[e] at hn;exact absurd hn (Qg1 _)
  |cons a b=>rw[Qu];omega
 have wy:∀(a:Nat)(ha:a<(fol cs S).length),YV (S.map pairD++[pairD ((fol cs S).getD a (0,0))])=stT (S++[(fol cs S).getD a (0,0)]):=λa _=>by
  show _=YV ((S++[(fol cs S).getD a (0,0)]).map pairD);rw[Je];rfl
 refine⟨_,Q3 (get 0 l0).1,by rw[lS];show _+1<=_;omega,?_⟩;refine⟨h,w,cs,S++[(fol cs S).getD 0 (0,0)],m,by rw[wy 0 l0],g,QgD st (get 0 l0).2.1,by omega,?_⟩;refine Qlr (λz δ=>∃a n2:Nat,z=(fol cs S).length - a/\a<(fol cs S).length/\δ=[.v (bdD h w cs),.v (.list (Qje cs h w h)),.v (stT S),.v (.int m),.v (.int n2),.v (.list ((fol cs S).map pairD)),.v (.int a),.v (.int ((xts cs m (S++[(fol cs S).getD a (0,0)])).length:Nat))]/\n2<(((fol cs S).drop a).flatMap λc=>xts cs m (S++[c])).length) _ ⟨0,n,rfl,l0,rfl,hn⟩ ?_
 rintro z δ ⟨a,n2,rfl,ha,rfl,hn2⟩;obtain⟨g1,g2,g3⟩:=get a ha;rw[g3,Qb2,Qj] at hn2;refine ifC (λy=>?_) λy=>?_
 ·have y:((xts cs m (S++[(fol cs S).getD a (0,0)])).length:Int)<=(n2:Int):=of_decide_eq_true y;have ha2:a+1<(fol cs S).length:=by
   by_cases q:a+1<(fol cs S).length
   ·exact q
   ·rw[List.drop_eq_nil_of_le (by omega)] at hn2;exact absurd hn2 (by show ¬n2<_+0;omega)
  obtain⟨f1,f2,f3⟩:=get (a+1) ha2;refine⟨pairD ((fol cs S).getD (a+1) (0,0)),by rw[show(a:Int)+1=((a+1:Nat):Int) by omega];exact Q3 f1,by rw[lS];show _+1<=_;omega,?_⟩;refine⟨h,w,cs,S++[(fol cs S).getD (a+1) (0,0)],m,by rw[<- wy (a+1) ha2],g,QgD st f2,by omega,?_⟩;refine⟨(fol cs S).length - (a+1),by omega,a+1,n2 - (xts cs m (S++[(fol cs S).getD a (0,0)])).length,rfl,ha2,?_,by omega⟩;rw[show((n2 - (xts cs m (S++[(fol cs S).getD a (0,0)])).length:Nat):Int)=(n2:Int) - ((xts cs m (S++[(fol cs S).getD a (0,0)])).length:Int) by omega,show((a+1:Nat):Int)=(a:Int)+1 by omega];rfl
 ·have y:(n2:Int)<((xts cs m (S++[(fol cs S).getD a (0,0)])).length:Int):=by have:=of_decide_eq_false y;omega
  refine⟨_,Q3 g1,hR _ n2 g2 (by omega)⟩
theorem QkB(F:DefC P w K mg base "stand_at" Qjq)(T:GlbA mg)
  (c1:Cal P w K mg base CX0 3 "refuse_no_size" (ZN false Qsc))
  (c2:Cal P w K mg base CX0 2 "ways_to_go_on" (ZN true Qtn))
  (c3:Cal P w K mg base CX0 2 "is_whole_within" (ZN false QeD))
  (c4:Cal P w K mg base CX0 3 "cell_at" (ZN false QnL)) :
  Cal P w K mg base CX0 4 "stand_at" (ZN false Qjj):=by
 refine okq ["board", "size", "number", "table", "stand", "left", "more", "cell"] 3 false F λcdv A outer s H E nD hr hU hI=>?_
 refine⟨_,QF (Qme (Q9 (Qa9 c1 hr (Yz (qv 0) (Yz (qv 1) Zi)))))
  (QF (Z8 3 (JV (QbW c2 hr (Yz (qv 0) Zi))) nD)
  (QF (Qa8 (QbD (QbC (Q9 (Qa9 c3 hr (Yz (qv 2) (Yz Jo (Yz (JV (YC QeQ Qea (Q9 (QaO JO Zx (Q9 (QaO JO Zx (Q9 (QaO JO Zx (qp 3) (Q9 Jo) (λ_ _=>rfl))) (Q9 Jo) (λ_ _=>rfl))) (qp 1) (λ_ _=>rfl))) (Q9 Jo))) Zi))))))) Qhq ZE)
  (QF (Z8 4 (JV (ZZ Ja)) nD)
  (QF (Z8 5 (qv 2) nD)
  (QF (Qhr J3 rfl (Qmh (by rfl) T.reversed (by rfl) T.range (qp 1)) (YK 6 nD rfl (by first | exact Qx rfl | exact QL rfl))
   (QF (QeM (Qa9 c4 hr (Yz (qv 0) (Yz (qv 3) (Yz (qv 4) (Yz (qv 6) (Yz (qv 5) Zi)))))) (Qbg rfl (JW 7 (JW 5 Qbh nD rfl (by first | exact Qx rfl | exact QL rfl)) nD rfl (by first | exact Qx rfl | exact QL rfl))))
  (Jf (Z8 4 (JV (YC YL QaX (qp 4) (Jp (ZZ (J8 (qv 7) Ja))))) nD))))
  (Jf (QaU (qv 4)))))))),λargs R EX h=>?_⟩
 obtain⟨h,w,cs,k,rfl,g,hk,hp,hR⟩:=h;refine⟨_,_,_,_,rfl,hk,?_⟩;have h6:=g.bds.1;have w6:=g.bds.2.1;refine⟨_,_,_,rfl,h6,w6,g.bds.col,?_⟩;refine⟨_,Q3 (j:=0) (Qin cs h w h),_,Q3 (j:=0) (QeF (Qg0 w)),_,Q3 (Qb7 (show k<=h by omega)),?_⟩;refine⟨_,_,_,rfl,?_⟩;show if(!inW (.int 0) 0 (Wc cs h h 0 k - 1))=true then _ else _
 rw[Qp6 (by omega) (by omega)];refine ifF rfl ?_
 ·have xl:((xts cs k []).length:Int)=Wc cs h h 0 k:=Qij g k [] .nil;refine⟨⟨by omega,by omega⟩,Qdq (λi δ=>∃(S:List (Int×Int))(n2:Nat)(x6 x7:Sl),δ=[.v (bdD h w cs),.v (.int k),.v (.int 0),.v (.list (Qje cs h w h)),.v (stT S),.v (.int n2),x6,x7]/\Std cs S/\S.length=i/\n2<(xts cs (k - i) S).length) ⟨[],0,_,_,rfl,.nil,rfl,by show 0<(xts cs k []).length;omega⟩ ?_ ?_⟩
  ·rintro i d δ hd ⟨S,n2,x6,x7,rfl,st,lS,hn2⟩;obtain⟨hi,rfl⟩:=Qgq hd;rw[QB] at hi;have er:((((k:Nat):Int).toNat:Nat):Int) - 1 - (i:Int)=((k - i - 1:Nat):Int):=by omega
   rw[er];have ek:k - i=(k - i - 1)+1:=by omega
   rw[ek] at hn2;refine⟨_,_,_,_,_,_,rfl,g,st,by omega,hn2,λc n3 hc hc3=>⟨rfl,?_⟩⟩;have es:stT (S++[c])=.tuple (S.map pairD++[pairD c]):=by unfold stT;rw[Je];rfl
   refine⟨by rw[Qc];show _+1<=_;omega,S++[c],n3,.v (.int ((k - i - 1:Nat):Int)),.v (pairD c),by rw[es];rfl,QgD st hc,by rw[Qj,lS];rfl,?_⟩;rw[show k - (i+1)=k - i - 1 by omega];exact hc3
  ·rintro δ ⟨S,n2,x6,x7,rfl,st,lS,hn2⟩;exact hR S (by rw[lS,Qes,QB]) st.sub
def QyD:Option Str->Qb
 |none=>.none
 |some s=>.str s
def Qxa:DF:=λargs R _=>∃(b:Bo)(d:Deed),args=[.v b.d,.v (.str d.wd),.v (.list d.told)]/\R (QyD (QkS d b))
def QCf:DF:=λargs R _=>∃(b:Bo)(d:Deed),args=[.v b.d,.v (.str d.wd),.v (.list d.told)]/\b.ok/\QkS d b=none/\d.wd ≠ "undo" /\ R (Qcb d b).d
theorem QmQ(F:DefC P w K mg base "_law_whole" Qsz)(T:GlbA mg) :
  Cal P w K mg base CX0 1 "_law_whole" (ZN false Qi7):=by
 refine okq ["_law_thing"] 1 false F λcdv A outer s H E nD hr hU hI=>?_
 refine⟨_,Jf (QaU (Qmk (Jp (Qd7 .int (by rfl) T.isinstance (qp 0) (by rfl) T.int Qdv)) (Qkv (Qxt (Jp (Qd7 .bool (by rfl) T.isinstance (qp 0) (by rfl) T.bool QnS)))))),λargs R EX h=>?_⟩;obtain⟨d,rfl,hR⟩:=h;cases d<;>exact hR
theorem QmR(F:DefC P w K mg base "_law_is_place" QsC)(T:GlbA mg)
  (c1:Cal P w K mg base CX0 1 "_law_whole" (ZN false Qi7)) :
  Cal P w K mg base CX0 2 "_law_is_place" (ZN false Qm6):=by
 refine okq ["_law_thing", "_law_high", "_law_wide"] 3 false F λcdv A outer s H E nD hr hU hI=>?_
 refine⟨_,QF (Qa8 (QoW (Qku (QbD (QbC (Jp (Qd7 .tuple (by rfl) T.isinstance (qp 0) (by rfl) T.tuple Z4)))) (Qku (ZA QhB (QmX hU) (Jp (QaC Qfd QnM (by rfl) T.len Qbm (Qdb (qp 0) Ja))) (Q9 Jo) (JZ _)) (Qku (QbD (QbC (Q9 (Qa9 c1 hr (Yz (QaO JO Zx (qp 0) (Q9 Jo) (λ_ _=>rfl)) Zi))))) (Qjv (QbD (QbC (Q9 (Qa9 c1 hr (Yz (QaO JO Zx (qp 0) (Q9 Jo) (λ_ _=>rfl)) Zi)))))))))) (Jf (QaU Qwi)) ZE)
  (Jf (QaU (Qmk (Jp (QAA Qps Qkz (Q9 Jo) (Q9 (QaO JO Zx (qp 0) (Q9 Jo) (λ_ _=>rfl))) (qp 1))) (Qkv (JV (QAA Qps Qkz (Q9 Jo) (Q9 (QaO JO Zx (qp 0) (Q9 Jo) (λ_ _=>rfl))) (qp 2))))))),λargs R EX h=>?_⟩
 obtain⟨d,h,w,rfl,hR⟩:=h;cases d with
 |tuple ds=>
  match ds,hR with
  |[a,b],hR=>
   have hR:R (.bool (inW a 0 (h - 1)&&inW b 0 (w - 1))):=hR;rw[<- Qnk,<- Qnk] at hR;refine⟨a,rfl,a,rfl,?_⟩;cases a with
   |int i=>
    refine⟨b,rfl,b,rfl,?_⟩;cases b with
    |int j=>
     refine⟨.int i,rfl,?_⟩;have hR:R (.bool ((decide (0<=i)&&decide (i<h))&&(decide (0<=j)&&decide (j<w)))):=hR;refine ifC (λz1=>?_) λz1=>?_
     ·rw[show decide (0<=i)=true from z1,Qbe] at hR;refine ifC (λz2=>?_) λz2=>?_
      ·rw[show decide (i<h)=true from z2,Qbe] at hR;refine⟨.int j,rfl,ifC (λz3=>?_) λz3=>?_⟩
       ·rw[show decide (0<=j)=true from z3,Qbe] at hR;exact hR
       ·rw[show decide (0<=j)=false from z3,QbU] at hR;exact hR
      ·rw[show decide (i<h)=false from z2,QbU] at hR;exact hR
     ·rw[show decide (0<=i)=false from z1,QbU,QbU] at hR;exact hR
    |_=>simp only[inL,Qwx] at hR;exact hR
   |_=>exact hR
  |[],hR=>exact hR
  |[_],hR=>exact hR
  |a::b::c::r,hR=>
   exact hR
 |_=>exact hR
theorem QuP(F:DefC P w K mg base "_law_refused_as" lRef)(T:GlbA mg)
  (c1:Cal P w K mg base CX0 2 "_law_is_place" (ZN false Qm6)) :
  Cal P w K mg base CX0 3 "_law_refused_as" (ZN false Qxa):=by
 refine okq ["_law_board", "_law_word", "_law_told", "_law_there"] 3 false F λcdv A outer s H E nD hr hU hI=>?_
 refine⟨_,QF (Qa8 (ZA QhD (QeR hI) (qp 1) (Jp (ZZ (J8 Qaj (J8 Qaj Ja)))) (by rfl)) (QF (Qa8 (QbD (QbC (Q9 (Qa9 c1 hr (Yz (JV (ZQ JL Ys (by rfl) T.tuple Z4 (Qdb (qp 2) Ja))) (Yz (QaO JO Zx (qp 0) (Q9 Jo) (λ_ _=>rfl)) (Yz (QaO JO Zx (qp 0) (Q9 Jo) (λ_ _=>rfl)) Zi))))))) (Jf (QaU Qaj)) ZE)
  (QF (Z8 3 (JV (Qmj QhD (QeR hI) (Jp (ZQ JL Ys (by rfl) T.tuple Z4 (Qdb (qp 2) Ja))) (Q9 (QaO JO Zx (qp 0) (Q9 Jo) (λ_ _=>rfl))) (by rfl))) nD)
  (Jf (QaU (Qxs 1 3 (by rfl) T.int (λ_ _=>.non) (λ_ _=>.str _ (by decide)) (λ_ _=>.str _ (by decide)) (λ_ _=>.non) (by decide) (QA6 hr) QbE Jb Jb QbE))))) ZE)
  (QF (Qa8 (QoW (Qku (QoW (Qhp (ZA QbG (QdN hU) (qp 1) (Q9 Qaj) (JZ _)) (QeL (ZA QbG (QdN hU) (Q9 (QaO JO Zx (qp 0) (Q9 Jo) (λ_ _=>rfl))) (Q9 Jo) (JZ _))))) (Qjv (QoW (Qhp (ZA QbG (QdN hU) (qp 1) (Q9 Qaj) (JZ _)) (QeL (ZA QbG (QdN hU) (Q9 (QaO JO Zx (qp 0) (Q9 Jo) (λ_ _=>rfl))) (Q9 Jo) (JZ _)))))))) (Jf (QaU Qaj)) ZE)
  (Jf (QaU QtS))),λargs R EX h=>?_⟩
 obtain⟨b,d,rfl,hR⟩:=h;cases d with
 |put x y=>
  refine⟨⟨rfl,rfl,by show(Jk "put").depth<=50;decide⟩,?_⟩;refine ifT (by show([Jk "put",Jk "take"].any λe=>e.eqv (.str "put"))=true;decide) ?_
  refine⟨_,Q3 (j:=0) rfl,_,Q3 (j:=1) rfl,_,_,_,rfl,?_⟩;have e:QkS (.put x y) b=if inP b x y=true then(if b.f (nI x) (nI y)=true then some ("double" : Str) else none) else some ("place" : Str):=rfl
  cases z:inP b x y with
  |false=>
   rw[e,z] at hR;have z:QjR (b.h:Int) (b.w:Int) (.tuple [x,y])=false:=z;refine ifT ?_ hR
   show(!QjR (b.h:Int) (b.w:Int) (.tuple [x,y]))=true;rw[z];rfl
  |true=>
   rw[e,z,if_pos rfl] at hR;obtain⟨r,c,rfl,rfl,hr',hc⟩:=QkO z;have z:QjR (b.h:Int) (b.w:Int) (.tuple [.int r,.int c])=true:=z;refine ifF ?_ ?_
   ·show(!QjR (b.h:Int) (b.w:Int) (.tuple [.int r,.int c]))=false;rw[z];rfl
   refine⟨_,Q3 (j:=2) rfl,⟨ZK _,rfl,by have:=ZI ((r:Int),(c:Int));exact Qt (YA this) (by decide)⟩,?_⟩;have ea:(((Qv b.h b.w b.f).map pairD).any λe=>QY e (.tuple [.int r,.int c]))=b.f r c:=(YE _ ((r:Int),(c:Int))).trans (Qm4 hr' hc);have hR:R (QyD (if b.f r c=true then some ("double" : Str) else none)):=hR;show(match Qwg "put" "take" .none (.str "double") (.str "cell") .none "put" (if false=true then _ else(((Qv b.h b.w b.f).map pairD).any λe=>QY e (.tuple [.int r,.int c]))) with | some d=>R d | none=>False);rw[if_neg (by decide),ea];unfold Qwg;rw[if_pos rfl];cases zf:b.f r c with
   |false=>rw[zf] at hR;exact hR
   |true=>rw[zf] at hR;exact hR
 |take x y=>
  refine⟨⟨rfl,rfl,by show(Jk "take").depth<=50;decide⟩,?_⟩;refine ifT (by show([Jk "put",Jk "take"].any λe=>e.eqv (.str "take"))=true;decide) ?_
  refine⟨_,Q3 (j:=0) rfl,_,Q3 (j:=1) rfl,_,_,_,rfl,?_⟩;have e:QkS (.take x y) b=if inP b x y=true then(if b.f (nI x) (nI y)=true then none else some ("cell" : Str)) else some ("place" : Str):=rfl
  cases z:inP b x y with
  |false=>
   rw[e,z] at hR;have z:QjR (b.h:Int) (b.w:Int) (.tuple [x,y])=false:=z;refine ifT ?_ hR
   show(!QjR (b.h:Int) (b.w:Int) (.tuple [x,y]))=true;rw[z];rfl
  |true=>
   rw[e,z,if_pos rfl] at hR;obtain⟨r,c,rfl,rfl,hr',hc⟩:=QkO z;have z:QjR (b.h:Int) (b.w:Int) (.tuple [.int r,.int c])=true:=z;refine ifF ?_ ?_
   ·show(!QjR (b.h:Int) (b.w:Int) (.tuple [.int r,.int c]))=false;rw[z];rfl
   refine⟨_,Q3 (j:=2) rfl,⟨ZK _,rfl,by have:=ZI ((r:Int),(c:Int));exact Qt (YA this) (by decide)⟩,?_⟩;have ea:(((Qv b.h b.w b.f).map pairD).any λe=>QY e (.tuple [.int r,.int c]))=b.f r c:=(YE _ ((r:Int),(c:Int))).trans (Qm4 hr' hc);have hR:R (QyD (if b.f r c=true then none else some ("cell" : Str))):=hR;show(match Qwg "put" "take" .none (.str "double") (.str "cell") .none "take" (if false=true then _ else(((Qv b.h b.w b.f).map pairD).any λe=>QY e (.tuple [.int r,.int c]))) with | some d=>R d | none=>False);rw[if_neg (by decide),ea];unfold Qwg;rw[if_neg (show ¬("take" : Str) = "put" by decide),if_pos rfl];cases zf:b.f r c with
   |false=>rw[zf] at hR;exact hR
   |true=>rw[zf] at hR;exact hR
 |row=>
  have e:QkS .row b=if b.h=6 then some ("many" : Str) else none:=rfl
  rw[e] at hR;refine⟨⟨rfl,rfl,by show(Jk "row").depth<=50;decide⟩,?_⟩;refine ifF (by show([Jk "put",Jk "take"].any λe=>e.eqv (.str "row"))=false;decide) ?_
  refine⟨_,Q3 (j:=0) rfl,ifC (λz=>?_) λz=>?_⟩
  ·have z:decide ((b.h:Int)=6)=true:=z;rw[if_pos (show b.h=6 by have:=of_decide_eq_true z;omega)] at hR;exact hR
  ·have z:decide ((b.h:Int)=6)=false:=z;rw[if_neg (show ¬b.h=6 by have:=of_decide_eq_false z;omega)] at hR;exact hR
 |col=>
  have e:QkS .col b=if b.w=6 then some ("many" : Str) else none:=rfl
  rw[e] at hR;refine⟨⟨rfl,rfl,by show(Jk "column").depth<=50;decide⟩,?_⟩;refine ifF (by show([Jk "put",Jk "take"].any λe=>e.eqv (.str "column"))=false;decide) ?_
  refine⟨_,Q3 (j:=1) rfl,ifC (λz=>?_) λz=>?_⟩
  ·have z:decide ((b.w:Int)=6)=true:=z;rw[if_pos (show b.w=6 by have:=of_decide_eq_true z;omega)] at hR;exact hR
  ·have z:decide ((b.w:Int)=6)=false:=z;rw[if_neg (show ¬b.w=6 by have:=of_decide_eq_false z;omega)] at hR;exact hR
 |turn=>
  refine⟨⟨rfl,rfl,by show(Jk "turn").depth<=50;decide⟩,?_⟩;exact ifF (by show([Jk "put",Jk "take"].any λe=>e.eqv (.str "turn"))=false;decide) hR
 |rest=>
  refine⟨⟨rfl,rfl,by show(Jk "rest").depth<=50;decide⟩,?_⟩;exact ifF (by show([Jk "put",Jk "take"].any λe=>e.eqv (.str "rest"))=false;decide) hR
 |undo=>
  refine⟨⟨rfl,rfl,by show(Jk "undo").depth<=50;decide⟩,?_⟩;exact ifF (by show([Jk "put",Jk "take"].any λe=>e.eqv (.str "undo"))=false;decide) hR
theorem Qvb:(["_law_cell", "_law_told"]:List Str).Nodup:=by decide
theorem Qm1:(["_law_row", "_law_column"]:List Str).Nodup:=by decide
theorem Qva:(["_law_column", "_law_cells", "_law_row"]:List Str).Nodup:=by decide
theorem Qyh(F:DefC P w K mg base "_law_behind" lBeh)(T:GlbA mg) :
  Cal P w K mg base CX0 2 "_law_behind" (ZN false QCf):=by
 refine okq ["_law_board", "_law_word", "_law_told", "_law_high", "_law_wide", "_law_cells", "_law_places", "_law_row"] 3 false F λcdv A outer s H E nD hr hU hI=>?_
 refine⟨_,QF (QeM (qv 0) (Qbg rfl (JW 3 (JW 4 (JW 5 Qbh nD rfl (by first | exact Qx rfl | exact QL rfl)) nD rfl (by first | exact Qx rfl | exact QL rfl)) nD rfl (by first | exact Qx rfl | exact QL rfl))))
  (QF (Qa8 (ZA QbG (QdN hU) (qp 1) (Q9 Qaj) (JZ _)) (Jf (Yj (ZZ (J8 (qv 3) (J8 (qv 4) (J8 (JV (ZQ JL Ys (by rfl) T.tuple Z4 (Qdb (Jp (QaC Qfc QhX (by rfl) T.sorted Qcf (Qdb (Jp (YC YL QaX (qp 5) (Jp (ZZ (J8 (JV (ZQ JL Ys (by rfl) T.tuple Z4 (Qdb (qp 2) Ja))) Ja))))) Ja))) Ja))) Ja)))))) ZE)
  (QF (Qa8 (ZA QbG (QdN hU) (qp 1) (Q9 Qaj) (JZ _)) (Jf (Yj (ZZ (J8 (qv 3) (J8 (qv 4) (J8 (JV (ZQ JL Ys (by rfl) T.tuple Z4 (Qdb (Jp (Qbi ["_law_cell", "_law_told"] [none,some 2] (Qd6 (qp 5)) (λcl ex s3 H3 C=>⟨(YK 0 Qvb rfl (Qx rfl) (QL rfl)),(QbM (ZA QhB (QmX hU) (qp 0) (Jp (ZQ JL Ys (by rfl) T.tuple Z4 (Qdb (qp 1) Ja))) (JZ _))),(qv 0)⟩))) Ja))) Ja)))))) ZE)
  (QF (Qa8 (ZA QbG (QdN hU) (qp 1) (Q9 Qaj) (JZ _)) (Jf (Yj (ZZ (J8 (JV (YC YL QaX (qp 3) (Q9 Jo))) (J8 (qv 4) (J8 (qv 5) Ja)))))) ZE)
  (QF (Qa8 (ZA QbG (QdN hU) (qp 1) (Q9 Qaj) (JZ _)) (Jf (Yj (ZZ (J8 (qv 3) (J8 (JV (YC YL QaX (qp 4) (Q9 Jo))) (J8 (qv 5) Ja)))))) ZE)
  (QF (Qa8 (ZA QbG (QdN hU) (qp 1) (Q9 Qaj) (JZ _)) (Jf (Yj (ZZ (J8 (qv 4) (J8 (qv 3) (J8 (JV (ZQ JL Ys (by rfl) T.tuple Z4 (Qdb (Jp (QaC QdV cd_sortP (by rfl) T.sorted Qcf (Qdb (Jp (Qbi ["_law_row", "_law_column"] [none,none] (Qd6 (qp 5)) (λcl ex s3 H3 C=>⟨(Qbg rfl (JW 0 (JW 1 Qbh Qm1 rfl (Qx rfl) (QL rfl)) Qm1 rfl (Qx rfl) (QL rfl))),Qb8,(JV (ZZ (J8 (qv 1) (J8 (qv 0) Ja))))⟩))) Ja))) Ja))) Ja)))))) ZE)
  (QF (QdJ 6 (QcG Ja) nD)
  (QF (Qhr J3 rfl (QdK (by rfl) T.range (qp 3)) (YK 7 nD rfl (by first | exact Qx rfl | exact QL rfl))
   (Jf (Qxq 6 (Jp (Qbi ["_law_column", "_law_cells", "_law_row"] [none,some 5,some 7] (QdK (by rfl) T.range (qp 4)) (λcl ex s3 H3 C=>⟨(YK 0 Qva rfl (Qx rfl) (QL rfl)),(QbM (ZA QbF (QeR hI) (Jp (ZZ (J8 (qv 2) (J8 (qv 0) Ja)))) (qp 1) (by rfl))),(JV (ZZ (J8 (qv 2) (J8 (qv 0) Ja))))⟩))))))
  (Jf (Yj (ZZ (J8 (qv 3) (J8 (qv 4) (J8 (JV (ZQ JL Ys (by rfl) T.tuple Z4 (Qdb (qp 6) Ja))) Ja))))))))))))),λargs R EX h=>?_⟩
 obtain⟨b,d,rfl,o,hd,hu,hR⟩:=h;obtain⟨bh,bw,bf⟩:=b;obtain⟨h1,h6,w1,w6⟩:=o;have h1:1<=bh:=h1;have h6:bh<=6:=h6;have w1:1<=bw:=w1;have w6:bw<=6:=w6;have ln:(Qv bh bw bf).length<=36:=Qt (Z9 bw bf bh) (ZX h6 w6);have hb:∀p∈Qv bh bw bf,0<=p.1/\p.1<bh/\0<=p.2/\p.2<bw:=λp hp=>YD hp
 cases d with
 |put x y=>
  obtain⟨r,c,rfl,rfl,hr,hc,hf⟩:=QvC hd;have hr:r<bh:=hr;have hc:c<bw:=hc;have hf:bf r c=false:=hf;have hR:R (bdD bh bw (Qv bh bw (Qwf bf r c true))):=hR;refine⟨rfl,?_⟩;refine⟨by show((Qv bh bw bf).map pairD).length+1<=1000000;rw[Qc];omega,?_⟩;have es:(Qv bh bw bf).map pairD++[YV [.int (r:Int),.int (c:Int)]]=(Qv bh bw bf++[((r:Int),(c:Int))]).map pairD:=by rw[Je];rfl
  show QdG [.tuple ((Qv bh bw bf).map pairD++[YV [.int (r:Int),.int (c:Int)]])] _;rw[es];refine Qhm (Qmm hf) (by rw[Qj];show _+1<64;omega) (λp hp=>?_) λM pM pw=>?_
  ·rcases QC.mp hp with hp | hp
   ·have:=hb p hp;omega
   ·rw[Qy.mp hp];show 0<=(c:Int)/\(c:Int)<64;omega
  ·rw[QhV hr hc pM pw];exact hR
 |take x y=>
  obtain⟨r,c,rfl,rfl,hr,hc,hf⟩:=Qrj hd;have hR:R (bdD bh bw (Qv bh bw (Qwf bf r c false))):=hR;refine⟨rfl,?_⟩;refine QhT (λd=>if(λq:Int×Int => !decide (q=((r:Int),(c:Int)))) (toP d)=true then some d else none) (λd hd k1 k2 h1 h2=>?_) ?_
  ·obtain⟨q,_,rfl⟩:=Qw.mp hd;have h1:(if(!decide (q=((r:Int),(c:Int))))=true then some (pairD q) else none)=none->k1:=h1;have h2:∀e,(if(!decide (q=((r:Int),(c:Int))))=true then some (pairD q) else none)=some e->k2 e:=h2
   refine⟨⟨rfl,rfl,.inl (by have:=ZI q;omega)⟩,?_⟩;show if(!QY (pairD q) (pairD ((r:Int),(c:Int))))=true then k2 (pairD q) else k1
   rw[Qds];by_cases z:(!decide (q=((r:Int),(c:Int))))=true
   ·rw[if_pos z];exact h2 _ (if_pos z)
   ·rw[if_neg z];exact h1 (if_neg z)
  ·rw[Qdr (λq:Int×Int => !decide (q=((r:Int),(c:Int)))),Qj2];exact hR
 |row=>
  have hR:R (bdD (bh+1:Nat) bw (Qv (bh+1) bw λr c=>bf r c&&decide (r<bh))):=hR;rw[QhU] at hR;exact⟨rfl,hR⟩
 |col=>
  have hR:R (bdD bh (bw+1:Nat) (Qv bh (bw+1) λr c=>bf r c&&decide (c<bw))):=hR;rw[QhW] at hR;exact⟨rfl,hR⟩
 |turn=>
  have hR:R (bdD bw bh (Qv bw bh (tF bf))):=hR;refine⟨rfl,?_⟩;have hb:∀p∈Qv bh bw bf,0<=p.1/\p.1<bh/\0<=p.2/\p.2<bw:=λp hp=>YD hp
  have nd1:(Qv bh bw bf).Nodup:=(pw_cellsF bw bf bh).imp Qd8;have nd2:(Qv bw bh (tF bf)).Nodup:=(pw_cellsF bh (tF bf) bw).imp Qd8;have ln:(Qv bh bw bf).length<=36:=Qt (Z9 bw bf bh) (ZX h6 w6);have es:((Qv bh bw bf).map pairD).map (λd=>pairD ((toP d).2,(toP d).1))=((Qv bh bw bf).map λp=>(p.2,p.1)).map pairD:=by rw[Q8,Q8];rfl
  have nd3:((Qv bh bw bf).map λp=>(p.2,p.1)).Nodup:=Qfm.mpr (nd1.imp λ{a b} hne e=>hne (Qc4 (Zr e).2 (Zr e).1));refine Qfb (λd=>pairD ((toP d).2,(toP d).1)) (λd hd k2 hk=>?_) ?_
  ·obtain⟨p,_,rfl⟩:=Qw.mp hd;exact⟨rfl,hk⟩
  ·rw[es];refine sortP_of nd3 (by rw[Qc];omega) (λp hp=>?_) λM pM pw=>?_
   ·obtain⟨q,hq,rfl⟩:=Qw.mp hp;have:=hb q hq;show 0<=q.1/\q.1<64;omega
   ·have pc:M.Perm (Qv bw bh (tF bf)):=pM.trans ((YI nd3 nd2).mpr λp=>by
     rw[Qw,JX];constructor
     ·rintro⟨q,hq,rfl⟩;obtain⟨r,c,hr,hc,hf,rfl⟩:=JX.mp hq;exact⟨c,r,hc,hr,hf,rfl⟩
     ·rintro⟨r,c,hr,hc,hf,rfl⟩;exact⟨((c:Int),(r:Int)),JX.mpr ⟨c,r,hc,hr,hf,rfl⟩,rfl⟩)
    have eM:M=Qv bw bh (tF bf):=Qby (le:=plt) (λa b _ _ h1 h2=>by rcases h1 with x | x<;>rcases h2 with y | y<;>omega) pw (pw_cellsF bh (tF bf) bw) pc;rw[eM];exact hR
 |rest=>
  have hR:R (bdD bh bw (Qv bh bw (QhF bf))):=hR;refine⟨rfl,⟨by omega,by omega⟩,Qvv (λi δ=>∃x7,δ=[.v (Bo.mk bh bw bf).d,.v (.str "rest"),.v (.list []),.v (.int bh),.v (.int bw),.v (.tuple ((Qv bh bw bf).map pairD)),.own ((Qv i bw (QhF bf)).map pairD),x7]) ⟨_,rfl⟩ ?_ ?_⟩
  ·rintro i δ hi ⟨x7,rfl⟩;rw[QB] at hi;have fl:=Z9 bw (QhF bf) i;have fr:=Qgo i bw (QhF bf);have fm:i*bw<=5*6:=ZX (by omega) w6;refine⟨⟨by omega,by omega⟩,QhT (λd=>match d with | .int c=>if(!bf i c.toNat)=true then some (pairD ((i:Int),c)) else none | _=>none) (λd hd k1 k2 h1 h2=>?_) ?_⟩
   ·obtain⟨c,hc⟩:=Zm.mp hd;obtain⟨hc2,rfl⟩:=QdI hc;rw[QB] at hc2;have h1:(if(!bf i (0+(c:Int)).toNat)=true then some (pairD ((i:Int),0+(c:Int))) else none)=none->k1:=h1;have h2:∀e,(if(!bf i (0+(c:Int)).toNat)=true then some (pairD ((i:Int),0+(c:Int))) else none)=some e->k2 e:=h2
    rw[show(0+(c:Int)).toNat=c by omega] at h1 h2;refine⟨⟨ZK _,rfl,by have:=ZI ((0+(i:Int)),(0+(c:Int)));exact Qt (YA this) (by decide)⟩,?_⟩;show if(!((Qv bh bw bf).map pairD).any λe=>QY e (pairD (0+(i:Int),0+(c:Int))))=true then k2 (pairD (0+(i:Int),0+(c:Int))) else k1
    rw[YE,show(0:Int)+(i:Int)=(i:Int) by omega,show(0:Int)+(c:Int)=(c:Int) by omega,Qm4 hi hc2];rw[show(0:Int)+(c:Int)=(c:Int) by omega] at h1 h2;by_cases z:(!bf i c)=true
    ·rw[if_pos z];exact h2 _ (if_pos z)
    ·rw[if_neg z];exact h1 (if_neg z)
   ·have e:(Qib 0 (bw:Int).toNat).filterMap (λd=>match d with | .int c=>if(!bf i c.toNat)=true then some (pairD ((i:Int),c)) else none | _=>none)=(QfA i bw (QhF bf)).map pairD:=by
     unfold Qib QfA;rw[ZP,Q8,QB];refine QkQ λc _=>?_
     show(if(!bf i (0+(c:Int)).toNat)=true then some (pairD ((i:Int),0+(c:Int))) else none)=if(!bf i c)=true then some (pairD ((i:Int),(c:Int))) else none
     rw[show(0+(c:Int)).toNat=c by omega,show(0:Int)+(c:Int)=(c:Int) by omega]
    rw[e];refine⟨by rw[Qc,Qc];omega,.v (.int (0+(i:Int))),?_⟩;rw[QbP,Je];rfl
  ·rintro δ ⟨x7,rfl⟩;rw[QB];exact hR
 |undo=>exact absurd rfl hu
end
end Rk
namespace Rk
open L2 _root_.Rd
abbrev csH:Str:=⟨#[35]⟩
abbrev csO:Str:=⟨#[46]⟩
abbrev csB:Str:=⟨#[47]⟩
abbrev csE:Str:=⟨#[]⟩
theorem QwU:(Qe "/")=csB:=by decide
theorem QoH:(Qe "")=csE:=by decide
def Qek(L:List (Int×Int))(r c:Nat):Str:=if((r:Int),(c:Int))∈L then csH else csO
def Qr8(L:List (Int×Int))(w r:Nat):Str:=Qez csE ((QN w).map (Qek L r))
def QcB(h w:Nat)(L:List (Int×Int)):List Str:=(QN h).map (Qr8 L w)
def Qg9(h w:Nat)(L:List (Int×Int)):Str:=Qez csB (QcB h w L)
theorem Qi9(sep:Str)(ts:List Str):Qez sep ts=Qbo sep ts:=QaA sep ts
theorem QgA(sep:Str):∀(t:Str)(ts:List Str),(Qbo sep (t::ts)).cps.toList=t.cps.toList++ts.flatMap λu=>sep.cps.toList++u.cps.toList
 |t,[]=>by simp[Qbo]
 |t,u::ts=>by
  show(t++sep++Qbo sep (u::ts)).cps.toList=_;rw[QdW,QdW,YZ,YZ,QgA sep u ts];simp
theorem QkL:∀ts:List Str,(Qbo csE ts).cps.toList=ts.flatMap λu=>u.cps.toList
 |[]=>rfl
 |t::ts=>by rw[QgA];simp
theorem QlU(L:List (Int×Int))(r c:Nat):(Qek L r c).cps.toList=[if((r:Int),(c:Int))∈L then 35 else 46]:=by
 unfold Qek;split<;>rfl
theorem Qjt(L:List (Int×Int))(w r:Nat):(Qr8 L w r).cps.toList=(QN w).map λ(c:Nat)=>if((r:Int),(c:Int))∈L then 35 else 46:=by
 unfold Qr8;rw[Qi9,QkL,Qtg];simp only[QlU];rw[Qi3]
where
 Qi3 {α β:Type} {f:α->β} {l:List α}:(l.flatMap λx=>[f x])=l.map f:=by
  induction l with
  |nil=>rfl
  |cons a l ih=>rw[Qb2,JB,ih];rfl
theorem QoP(L:List (Int×Int))(w r:Nat):(Qr8 L w r).length=w:=by
 have h:=congrArg List.length (Qjt L w r);rw[Qc,Q5] at h
 simpa [Str.length] using h
theorem Qgi(x y:Str):∃t ts,Zy x y=t::ts:=by
 unfold Zy;split
 ·exact⟨_,_,rfl⟩
 ·split
  ·exact⟨_,_,rfl⟩
  ·rw[QgZ];exact StrLaws.partsFrom_ne x y.length 0 _
theorem QfM{x y r:Str}(h:r∈Zy x y):r.length<=x.length:=by
 have h1:=join_mem_le y (Zy x y) r h
 rwa [Qk0] at h1
theorem Qm8(h w:Nat)(L:List (Int×Int)):(QcB h w L).length=h:=by
 unfold QcB;rw[Qc,Q5]
theorem QdP{sep:Str}{ts:List Str}{B:Nat}(h:∀y∈ts,y.length<=B)(hz:ts.length*B+ts.length*sep.length<=16777216):JoinOk sep ts=true:=by
 unfold JoinOk;rw[StrLaws.joinFits h hz];rfl
theorem QeK(L:List (Int×Int)){w:Nat}(hw:w<=6)(r:Nat):JoinOk csE ((QN w).map (Qek L r))=true:=by
 refine QdP (B:=1) (λy hy=>?_) ?_
 ·obtain⟨c,_,rfl⟩:=Qw.mp hy;unfold Qek;split<;>exact Qf _
 ·rw[Qc,Q5];show w*1+w*0<=_;omega
theorem Qdm{h w:Nat}(L:List (Int×Int))(hh:h<=6)(hw:w<=6):JoinOk csB (QcB h w L)=true:=by
 refine QdP (B:=6) (λy hy=>?_) ?_
 ·obtain⟨c,_,rfl⟩:=Qw.mp hy;rw[QoP];exact hw
 ·rw[Qm8];show h*6+h*1<=_;omega
theorem Qtm{h w:Nat}(L:List (Int×Int))(h1:1<=h):Jx (.str (Qg9 h w L))=true:=by
 show Qwt (Qg9 h w L)=true;have e:(Qg9 h w L).cps.toList.all (λc=>decide (c<0x110000))=true:=by
  rw[JA];intro c hc;unfold Qg9 at hc;rw[Qi9] at hc;cases q:QcB h w L with
  |nil=>rw[q] at hc;simp[Qbo,Qc2] at hc
  |cons t ts=>
   have f:∀p∈QcB h w L,∀c∈p.cps.toList,c<0x110000:=λp hp c hc=>by
    obtain⟨r,_,rfl⟩:=Qw.mp hp;rw[Qjt] at hc;obtain⟨k,_,e⟩:=Qw.mp hc;split at e<;>omega
   rw[q] at hc f;rw[QgA] at hc;refine decide_eq_true ?_
   rcases QC.mp hc with z | z
   ·exact f t Jl c z
   ·obtain⟨u,hu,hz⟩:=YX.mp z;rcases QC.mp hz with y | y
    ·have:c∈[47]:=y;simp at this;omega
    ·exact f u (QX _ hu) c y
 unfold Qwt;rw[<- QrM];exact e
end Rk
namespace L2
def asc(z:Str):Bool:=z.cps.toList.all λc=>decide (c<128)
theorem QaE{z:Str}:asc z=true↔∀c∈z.cps.toList,c<128:=by
 unfold asc;rw[JA];exact⟨λh c hc=>of_decide_eq_true (h c hc),λh c hc=>decide_eq_true (h c hc)⟩
theorem QiV{z:Str}(h:asc z=true):Jx (.str z)=true:=by
 show z.cps.all (λc=>decide (c<0x110000))=true;rw[<- QrM,JA];intro c hc;have:=QaE.mp h c hc;exact decide_eq_true (by omega)
theorem QiW{x y:Str}(hx:asc x=true)(hy:asc y=true):asc (x++y)=true:=by
 have e:(x++y).cps.toList=x.cps.toList++y.cps.toList:=YZ;rw[QaE,e];intro c hc;rcases QC.mp hc with h | h
 ·exact QaE.mp hx c h
 ·exact QaE.mp hy c h
theorem Qn5{x:Str}(l u:Option Int)(h:asc x=true):asc (Qle x l u)=true:=by
 unfold Qle;split
 ·exact h
 ·rw[QaE];intro c hc;obtain⟨i,_,e⟩:=QbL.mp hc;exact QaE.mp h c (YJ.mpr (Qkk e))
theorem Qj6{sep:Str}(hs:asc sep=true):∀{ts:List Str},(∀t∈ts,asc t=true)->asc (Qbo sep ts)=true
 |[],_=>rfl
 |[x],h=>h x (Qy.mpr rfl)
 |x::y::r,h=>QiW (QiW (h x (Jl ..)) hs) (Qj6 hs λt ht=>h t (QX _ ht))
theorem Qfi{sep:Str}:∀{ts:List Str},asc (Qbo sep ts)=true->∀t∈ts,asc t=true
 |[],_,t,h=>nomatch h
 |[x],hj,t,h=>by rw[Qy.mp h];exact hj
 |x::y::r,hj,t,h=>by
  have e:(Qbo sep (x::y::r)).cps.toList=(x.cps.toList++sep.cps.toList)++(Qbo sep (y::r)).cps.toList:=by
   show((x.cps++sep.cps)++(Qbo sep (y::r)).cps).toList=_;rw[YZ,YZ]
  have hj:=QaE.mp hj;rw[e] at hj;rcases QM.mp h with rfl | h
  ·exact QaE.mpr λc hc=>hj c (QC.mpr (.inl (QC.mpr (.inl hc))))
  ·exact Qfi (QaE.mpr λc hc=>hj c (QC.mpr (.inr hc))) t h
theorem Qn4{x y:Str}(h:asc x=true):∀t∈Zy x y,asc t=true:=Qfi (sep:=y) (by rw[Qk0];exact h)
theorem Qn3{sep:Str}(hs:asc sep=true){ts:List Str}(h:∀t∈ts,asc t=true):asc (Qez sep ts)=true:=by
 show asc (Qc6 sep ts)=true;rw[QaA];exact Qj6 hs h
theorem QwD:∀c:Fin 128,(Qaa c.val).all (λd=>decide (d<128))=true:=by decide
theorem Qn2{x:Str}(h:asc x=true):asc ⟨placed x λ_ c=>Qaa c⟩=true:=by
 rw[QaE];intro d hd;have hd:d∈(x.cps.mapIdx λ_ c=>(Qaa c).toArray).flatten:=YJ.mp hd;obtain⟨xs,h1,h2⟩:=Array.mem_flatten.mp hd;obtain⟨i,hi,rfl⟩:=Array.mem_mapIdx.mp h1;have hc:=QaE.mp h (x.cps[i]) (YJ.mpr (Array.getElem_mem hi));have:=QwD ⟨_,hc⟩;rw[JA] at this;exact of_decide_eq_true (this d (ZO.mp h2))
section
variable{X:Cx}
def Qxf:V->Option Int->Option Int->Hp->VK->Prop:=λx lo hi H Q=>∃z,x=.str z/\z.length<=1000/\∀y:Str,y.length<=z.length->(asc z=true->asc y=true)->Q (.str y) H
theorem QdH:SlR X Qxf:=by
 intro pins s σ H x v vl vu lo hi sl Q I rx hs pl pu h;obtain⟨z,rfl,hz,q⟩:=h;obtain⟨t,rfl⟩:=rx;have hzl:z.length<=sizeLine:=Ji (Rk.ZB hz);have fin:∀a b,(Qle z a b).length<=sizeLine/\∀t' k,EP X pins σ Q (.str (Qle z a b) t') { s with toks:=k }:=λa b=>⟨Qt (Txt.slice_le z _ _) hzl,λt' k=>⟨.str _,H,I.tok k,⟨t',rfl⟩,q _ (Txt.slice_le z _ _) (Qn5 _ _)⟩⟩
 refine⟨"str",_,F.slot_str_getitem.lookup,QcE _ _ _,?_⟩;cases pl with
 |none=>
  cases pu with
  |none=>exact QaH (l:=none) (u:=none) (st:=none) hs rfl (Qee (fin _ _))
  |int j tj=>exact QaH (l:=none) (u:=some (j,tj)) (st:=none) hs rfl (Qee (fin _ _))
 |int i ti=>
  cases pu with
  |none=>exact QaH (l:=some (i,ti)) (u:=none) (st:=none) hs rfl (Qee (fin _ _))
  |int j tj=>exact QaH (l:=some (i,ti)) (u:=some (j,tj)) (st:=none) hs rfl (Qee (fin _ _))
def Ql7:V->List V->Hp->VK->Prop:=λx vs H Q=>∃z:Str,x=.str z/\vs=[]/\z.length<=1000/\∀y:Str,y.length<=3*z.length->(asc z=true->asc y=true)->Q (.str y) H
theorem Qm2:MtR X "str.upper" Ql7:=by
 intro pins s σ H x vs v us Q I rx rv h;obtain⟨z,rfl,rfl,hz,q⟩:=h;obtain⟨t,rfl⟩:=rx;cases rv;have hp:=placed_le3 z (λ_ c=>Qaa c) λ_ c=>PySem.StrLaws.upperOf_le3 c
 refine call_gives F.slot_str_upper (QcE _ _ _) F.entry_str_upper (F.args_str_upper_1 _) (gives_str_upper z t ?_) ?_
 ·exact decide_eq_false (by have:=Rk.Qbn (n:=(placed z λ_ c=>Qaa c).size) (by omega);omega)
 ·exact⟨Ji (Rk.Qbn (n:=(placed z λ_ c=>Qaa c).size) (by omega)),.str _,H,I.tok _,⟨_,rfl⟩,q _ hp Qn2⟩
end
end L2
namespace Rk
open L2 _root_.Rd
open Dl
open Rt
def QoB(wd:Str):Bool:=decide (wd.length<=10)&&asc wd
theorem Qi8{wd:Str}(h:QoB wd=true):wd.length<=10/\asc wd=true:=⟨of_decide_eq_true (QP.mp h).1,(QP.mp h).2⟩
def QsP:DF:=λargs R _=>∃b:Bo,args=[.pot,.v b.d,.v (.int 0)]/\b.ok/\(∀wd:Str,QoB wd=true->R (.tuple [.str wd,.list []]))/\∀(wd:Str)(x y:Int),QoB wd=true->0<=x->x<6->0<=y->y<6->R (.tuple [.str wd,.list [.int x,.int y]])
theorem Qc8{D:Qfl}{wd:Str}{x0 x1 x2 x3 x4 x5 x6 x7 x8:Sl}{odd x y:Qb}{wh:Int}{bad:Bool}(hb:bad=false)(hR:D.rt (.tuple [.str wd,.list [x,y]])) :
  (Qro (dIf (dTru (dPk 11)) (QyR 12 (dPk 10) (Qk9 9)) QhR) (QfZ (dC (Jk wd)) 12)) D [x0,x1,x2,x3,x4,x5,x6,x7,x8,.v odd,.v (.int wh),.v (.bool bad),.own [x,y]]:=by
 refine⟨JF,ifC (λz=>?_) λ_=>hR⟩;have z:bad=true:=z;rw[hb] at z;cases z
theorem Qnw{R:Qb->Prop}{x2:Sl}{bd odd:Qb}{bh bw:Nat}{bf:Nat->Nat->Bool}{way r c wh:Int}{bad:Bool}(hb:bad=false)(h6:bh<=6)(w6:bw<=6)(y0:0<=way)(y1:way<16)(r0:0<=r)(r1:r<6)(c0:0<=c)(c1:c<6)(hR0:∀wd:Str,QoB wd=true->R (.tuple [.str wd,.list []]))(hR:∀(wd:Str)(x y:Int),QoB wd=true->0<=x->x<6->0<=y->y<6->R (.tuple [.str wd,.list [.int x,.int y]])) :
  (Qro (Qrn 12 (QyT (Qbu (Qk9 7) (Qbu (Qk9 8) QnG))))
   (Qro (dIf (dTst (dOp (ii0 λi j=>Qaz (decide (i<j))) (dPk 6) (dC (QJ 8)))) (Qro (dIf (dTru (dPk 11)) (QyR 12 (dPk 10) (Qk9 9)) QhR) (QfZ (dC (Jk "put")) 12)) QhR)
   (Qro (dIf (dTst (dOp (ii0 λi j=>Qaz (decide (i<j))) (dPk 6) (dC (QJ 10))))
    (Qro (dIf (QBm (dTst (dOp neD (dPk 5) (Qwk QnG))) (dTst (dOp (ii0 λi j=>Qaz (decide (j<i))) (QgM QoE (Qzy 0 (sV (dC (QJ 4)) QAq))) (dC (QJ 0)))))
     (Qrn 12 (dCB Qvh (Qbu (dOp ixD (dPk 5) (dOp (iiD (λ_ j=>0<j) λi j=>QJ (i % j)) (dOp QCg (dOp QBX (dPk 7) (dPk 4)) (dPk 8)) (dCB QAU (Qbu (dPk 5) QnG)))) QnG))) QhR)
     (Qro (dIf (dTru (dPk 11)) (QyR 12 (dPk 10) (Qk9 9)) QhR) (QfZ (dC (Jk "take")) 12))) QhR)
   (QvJ (Qwk (Qbu (dOp ixD (QyT (Qbu (dC (Jk "row")) (Qbu (dC (Jk "column")) (Qbu (dC (Jk "turn")) (Qbu (dC (Jk "rest")) (Qbu (dC (Jk "undo")) (Qbu (dC (Jk "row")) QnG))))))) (dOp (ii0 λi j=>QJ (i - j)) (dPk 6) (dC (QJ 10)))) (Qbu (QyT QnG) QnG)))))))
  (QhP false R XF) [.pot,.v bd,x2,.v (.int bh),.v (.int bw),.v (.tuple ((Qv bh bw bf).map pairD)),.v (.int way),.v (.int r),.v (.int c),.v odd,.v (.int wh),.v (.bool bad),.no]:=by
 have ln:(Qv bh bw bf).length<=36:=Qt (Z9 bw bf bh) (ZX h6 w6);refine ifC (λz=>?_) λz=>?_
 ·exact Qc8 hb (hR _ _ _ (by decide) r0 r1 c0 c1)
 ·refine ifC (λz2=>?_) λz2=>?_
  ·refine⟨⟨ZK _,rfl,.inr (by decide)⟩,?_⟩;refine ifC (λne=>⟨_,rfl,by decide,by decide,λq _ _=>ifC (λ_=>?_) λ_=>Qc8 hb (hR _ _ _ (by decide) r0 r1 c0 c1)⟩) λ_=>Qc8 hb (hR _ _ _ (by decide) r0 r1 c0 c1)
   have lp:0<((Qv bh bw bf).map pairD).length:=by
    cases e:(Qv bh bw bf).map pairD with
    |nil=>
     have ne:(!QY (.tuple ((Qv bh bw bf).map pairD)) (.tuple []))=true:=ne;rw[e] at ne;cases ne
    |cons a l=>exact Qll _
   refine⟨.inl (.inl ⟨by omega,by omega⟩),by show(0:Int)<(((Qv bh bw bf).map pairD).length:Int);omega,Qp3 (Qww _ (by omega)) (QrJ _ (by omega)) λd hd=>?_⟩;obtain⟨p,hp,rfl⟩:=Qw.mp hd;have bp:=YD hp;exact Qc8 hb (hR _ _ _ (by decide) bp.1 (by omega) bp.2.2.1 (by omega))
  ·have z:=of_decide_eq_false z2;refine Qp3 (by omega) (by show _<(6:Int);omega) λwd hw=>?_
   obtain⟨d,rfl,e⟩:=ZG (p:=λwd=>∃d:Str,wd=Jk d/\QoB d=true) ⟨_,rfl,by decide⟩ (ZG ⟨_,rfl,by decide⟩ (ZG ⟨_,rfl,by decide⟩ (ZG ⟨_,rfl,by decide⟩ (ZG ⟨_,rfl,by decide⟩ (ZG ⟨_,rfl,by decide⟩ Qs4))))) wd hw;exact hR0 _ e
section
variable{P:Qm}{w:QZ}{K:PySem.W.Frag}{mg:Str->Option Value}{base:JS}
theorem QpI(F:DefC P w K mg base "_law_deed" Qyo)(T:GlbA mg)
  (c1:Cal P w K mg base CX0 1 "_law_take" (ZN true QoE)) :
  Cal P w K mg base CX0 2 "_law_deed" (ZN false QsP):=by
 refine okq ["_law_pot_here", "_law_board", "_law_odds", "_law_high", "_law_wide", "_law_cells", "_law_way", "_law_row", "_law_column", "_law_odd_here", "_law_which", "_law_bad", "_law_told"] 3 false F λcdv A outer s H E nD hr hU hI=>?_
 refine⟨_,QF (QeM (qv 1) (Qbg rfl (JW 3 (JW 4 (JW 5 Qbh nD rfl (by first | exact Qx rfl | exact QL rfl)) nD rfl (by first | exact Qx rfl | exact QL rfl)) nD rfl (by first | exact Qx rfl | exact QL rfl))))
  (QF (Z8 6 (JV (QbW c1 hr (Qd5 0 (Yz Jo Zi)))) nD)
  (QF (Qxo 7 8 (J8 (JV (QbW c1 hr (Qd5 0 (Yz (qv 3) Zi)))) (J8 (JV (QbW c1 hr (Qd5 0 (Yz (qv 4) Zi)))) Ja)) nD)
  (QF (Z8 9 (QaO JO Zx (Jp (QcG (J8 (qv 3) (J8 (qv 4) (J8 (JV (QoX (Q9 Jo))) (J8 (JV (YC QjG QiD (Q9 Jo) (Q9 Jo))) (J8 Qwi (J8 Qwi (J8 QtS (J8 Qaj (J8 (JV (ZZ (J8 Jo Ja))) (J8 (JV (QcG (J8 Jo Ja))) (J8 Qxv (J8 Jo Ja)))))))))))))) (Jp (QbW c1 hr (Qd5 0 (Yz Jo Zi)))) (λ_ _=>rfl)) nD)
  (QF (Z8 10 (JV (QbW c1 hr (Qd5 0 (Yz Jo Zi)))) nD)
  (QF (Z8 11 (JV (Qmj Qkz QeS (Jp (QbW c1 hr (Qd5 0 (Yz Jo Zi)))) (qp 2) (JZ _))) nD)
  (QF (QdJ 12 (QcG (J8 (qv 7) (J8 (qv 8) Ja))) nD)
  (QF (Qa8 (ZA Qkz QeS (qp 6) (Q9 Jo) (JZ _)) (QF (Qa8 (QfP (qp 11)) (Jf (Qse 12 (qv 9) (qp 10))) ZE)
  (Jf (Qjw 12 Qaj))) ZE)
  (QF (Qa8 (ZA Qkz QeS (qp 6) (Q9 Jo) (JZ _)) (QF (Qa8 (QoW (Qhp (ZA QhB (QmX hU) (qp 5) (Jp (ZZ Ja)) (JZ _)) (QeL (ZA Qx4 QeS (Jp (QbW c1 hr (Qd5 0 (Yz Jo Zi)))) (Q9 Jo) (JZ _))))) (Jf (QdJ 12 (ZQ QbQ QiQ (by rfl) T.list QiS (Qdb (Q9 (QaO JO Zx (qp 5) (Jp (YC QhC QiD (Jp (YC YL QaX (Jp (YC QmJ Qst (qp 7) (qp 4))) (qp 8))) (Jp (QaC Qfd QnM (by rfl) T.len Qbm (Qdb (qp 5) Ja))))) (λ_ _=>rfl))) Ja)) nD)) ZE)
  (QF (Qa8 (QfP (qp 11)) (Jf (Qse 12 (qv 9) (qp 10))) ZE)
  (Jf (Qjw 12 Qaj)))) ZE)
  (Jf (Yj (ZZ (J8 (QaO JO Zx (Jp (QcG (J8 Qaj (J8 Qaj (J8 Qaj (J8 Qaj (J8 Qaj (J8 Qaj Ja)))))))) (Jp (YC QeQ Qea (qp 6) (Q9 Jo))) (λ_ _=>rfl)) (J8 (JV (QcG Ja)) Ja))))))))))))),λargs R EX h=>?_⟩
 obtain⟨b,rfl,o,hR0,hR⟩:=h;obtain⟨bh,bw,bf⟩:=b;obtain⟨h1,h6,w1,w6⟩:=o;have h1:1<=bh:=h1;have h6:bh<=6:=h6;have w1:1<=bw:=w1;have w6:bw<=6:=w6;refine⟨rfl,_,rfl,by decide,by decide,λway y0 y1=>?_⟩;refine⟨_,rfl,by show(0:Int)<(bh:Int);omega,by show(bh:Int)<=10^40;omega,λr r0 r1=>⟨_,rfl,by show(0:Int)<(bw:Int);omega,by show(bw:Int)<=10^40;omega,λc c0 c1=>?_⟩⟩;refine⟨⟨by decide,by decide⟩,_,rfl,by decide,by decide,λk k0 k1=>Qp3 k0 k1 λodd _=>?_⟩;refine⟨_,rfl,by decide,by decide,λwh v0 v1=>⟨_,rfl,by decide,by decide,λbad b0 _=>?_⟩⟩;exact Qnw (decide_eq_false (by omega)) h6 w6 y0 y1 r0 (by omega) c0 (by omega) hR0 hR
abbrev Qzf:J7:=Y4 (top 51) 0
abbrev bPut:J7:=Y4 (top 51) 1
abbrev Qza:J7:=Y4 (top 51) 2
abbrev bRow:J7:=Y4 (top 51) 3
abbrev bCol:J7:=Y4 (top 51) 4
abbrev Qy9:J7:=Y4 (top 51) 5
abbrev Qzb:J7:=Y4 (top 51) 6
abbrev Qy8:J7:=Y4 (top 51) 7
abbrev Qze:J7:=Y4 (top 51) 8
abbrev Qs1:J7:=Y4 (top 51) 9
abbrev Qn1:J7:=Y4 (top 51) 10
abbrev Qzd:J7:=Y4 (top 51) 11
def B0:Bo:=⟨1,1,λ_ _=>false⟩
theorem QBB:B0.ok:=⟨by decide,by decide,by decide,by decide⟩
theorem ke:¬(("kept" : Str) = "earlier"):=by decide
theorem ek:¬(("earlier" : Str) = "kept"):=by decide
def bfl(v:V)(l:Addr):List (Str×V):=Qdc "earlier" (.ref l) (Qdc "kept" v [])
theorem Qn0(v:V)(l:Addr):bfl v l=([("kept",v),("earlier",V.ref l)]:List (Str×V)):=by
 show(if("kept" : Str) = "earlier" then[(("kept" : Str),V.ref l)] else(("kept" : Str),v)::Qdc "earlier" (V.ref l) [])=([("kept",v),("earlier",V.ref l)]:List (Str×V));rw[if_neg ke]
 all_goals rfl
theorem YG(v:V)(l:Addr):(bfl v l).lookup ("kept" : Str)=some v:=by
 unfold bfl;rw[Z2,if_neg ke,Z2,if_pos rfl]
theorem Qfh(v:V)(l:Addr):(bfl v l).lookup ("earlier" : Str)=some (.ref l):=by
 unfold bfl;rw[Z2,if_pos rfl]
theorem Y7(v:V)(l:Addr){m:Str}(h1:¬m = "earlier")(h2:¬m = "kept"):(bfl v l).lookup m=none:=by
 unfold bfl;rw[Z2,if_neg h1,Z2,if_neg h2]
 all_goals rfl
theorem QnY(v y:V)(l:Addr):Qdc "kept" y (bfl v l)=bfl y l:=by
 rw[Qn0,Qn0];show(if("kept" : Str) = "kept" then(("kept" : Str),y)::[(("earlier" : Str),V.ref l)] else _)=([("kept",y),("earlier",V.ref l)]:List (Str×V));rw[if_pos rfl]
theorem QnZ(v:V)(l:Addr):(bfl v l).length<1000:=by rw[Qn0];show 2<1000;decide
structure BnAt (C:Addr) (H:Hp) (b l:Addr) (es:List Bo) (k:Bo):Prop where
 at_:∃dx v xs,H b=some (.ins C dx (bfl v l))/\H l=some (.lst xs)/\DA N0 H v k.d/\DAs N0 H xs (es.map Bo.d)
def K2(b l:Addr)(H H':Hp):Prop:=∀a o,a≠b->a≠l->H a=some o->H' a=some o
theorem K2.of{b l:Addr}{H H':Hp}(s:Same H H'):K2 b l H H':=λa o _ _ e=>s a o e
theorem K2.trans{b l:Addr}{H H1 H2:Hp}(x:K2 b l H H1)(y:K2 b l H1 H2):K2 b l H H2:=λa o h1 h2 e=>y a o h1 h2 (x a o h1 h2 e)
theorem BnAt.same{C:Addr}{H H':Hp}{b l:Addr}{es:List Bo}{k:Bo}(x:BnAt C H b l es k)(s:Same H H'):BnAt C H' b l es k:=by
 obtain⟨dx,v,xs,e1,e2,d1,d2⟩:=x.at_;exact⟨dx,v,xs,s _ _ e1,s _ _ e2,d1.same s,d2.same s⟩
theorem Qvx(k:Bo):flT k.d=true:=QBc _ _ _
theorem QyA(es:List Bo):Qrf (es.map Bo.d)=true:=QjV λd hd=>by
 obtain⟨k,_,rfl⟩:=Qw.mp hd;exact Qvx k
theorem K2.tups{b l:Addr}{H H':Hp}{C dx:Addr}{fs:List (Str×V)}{xs:List V}(k:K2 b l H H')(e1:H b=some (.ins C dx fs))(e2:H l=some (.lst xs)):∀a ys,H a=some (.tup ys)->H' a=some (.tup ys):=λa ys e=>k a _ (QaY e e1 (λz=>nomatch z)) (QaY e e2 (λz=>nomatch z)) e
theorem QgL{H H':Hp}{v:V}{k:Bo}(t:∀a ys,H a=some (.tup ys)->H' a=some (.tup ys))(q:DA N0 H v k.d):DA N0 H' v k.d:=QvG t (λ_ z=>z.elim) _ _ (Qvx k) q
theorem Qe9{H H':Hp}{xs:List V}{es:List Bo}(t:∀a ys,H a=some (.tup ys)->H' a=some (.tup ys))(q:DAs N0 H xs (es.map Bo.d)):DAs N0 H' xs (es.map Bo.d):=QnB t (λ_ z=>z.elim) _ _ (QyA es) q
structure Bcl (K:PySem.W.Frag) (C:Addr):Prop where
 cl:Cls K C
 nK:NoAttr K C "kept"
 nE:NoAttr K C "earlier"
def QdT(d:Deed)(es:List Bo)(k:Bo):Option Str:=match d with
 |.undo=>if es.isEmpty=true then some ("deed" : Str) else none
 |d=>QkS d k
def QdE(d:Deed)(es:List Bo)(k:Bo):List Bo×Bo:=match d with
 |.undo=>(es.dropLast,es.getLastD k)
 |d=>(es++[k],Qcb d k)
def QCi(C:Addr)(xc:Str->Addr)(H:Hp)(Q:VK)(E:XK)(b l:Addr)(es:List Bo)(k:Bo)(d:Deed):Prop:=
 (∀wd,QdT d es k=some wd->∀H',Same H H'->E (.ref (xc wd)) none H')/\(QdT d es k=none->∀H',K2 b l H H'->BnAt C H' b l (QdE d es k).1 (QdE d es k).2->Q .non H')
def Qr0(C:Addr):Sp:=λvs H Q _=>∃(p dx:Addr),vs=[.ref p]/\H p=some (.ins C dx [])/\∀(l:Addr)(H':Hp),H l=none->(∀a o,a≠p->H a=some o->H' a=some o)->BnAt C H' p l [] B0->Q .non H'
def QeI(C:Addr):Sp:=λvs H Q _=>∃(b l:Addr)(es:List Bo)(k:Bo)(v:V)(k':Bo),vs=[.ref b,v]/\BnAt C H b l es k/\es.length<=1000/\DA N0 H v k'.d/\∀H',K2 b l H H'->BnAt C H' b l (es++[k]) k'->Q .non H'
def QoK(C:Addr)(xc:Str->Addr)(mk:Qb->Qb->Deed):Sp:=λvs H Q E=>∃(b l:Addr)(es:List Bo)(k:Bo)(x y:V)(dx dy:Qb),vs=[.ref b,x,y]/\BnAt C H b l es k/\k.ok/\es.length<=1000/\DA N0 H x dx/\DA N0 H y dy/\QCi C xc H Q E b l es k (mk dx dy)
def Qfz(C:Addr)(xc:Str->Addr)(d:Deed):Sp:=λvs H Q E=>∃(b l:Addr)(es:List Bo)(k:Bo),vs=[.ref b]/\BnAt C H b l es k/\k.ok/\es.length<=1000/\QCi C xc H Q E b l es k d
def Qgl(C:Addr):Sp:=λvs H Q _=>∃(b l:Addr)(es:List Bo)(k:Bo),vs=[.ref b]/\BnAt C H b l es k/\∀v,DA N0 H v k.d->Q v H
def Qjn(C:Addr):Sp:=λvs H Q _=>∃(b l:Addr)(es:List Bo)(k:Bo),vs=[.ref b]/\BnAt C H b l es k/\k.ok/\∀t H',Same H H'->H t=none->H' t=some (.lst ((cIw k.f k.h k.w).map V.int))->Q (.ref t) H'
def QlR(C:Addr):Sp:=λvs H Q _=>∃(b l:Addr)(es:List Bo)(k:Bo),vs=[.ref b]/\BnAt C H b l es k/\k.ok/\∀(m:Nat) H',Gr (Qv k.h k.w k.f) k.h k.w m->Same H H'->Q (.int m) H'
theorem QnD{A:Addr->Prop}{H:Hp}:∀{ns:List Int}{ys:List V},DAs A H ys (ns.map QJ)->ys=ns.map V.int
 |[],_,.nil=>rfl
 |n::ns,_,.cons q qs=>by cases q;rw[QnD qs];rfl
theorem QuV{C:Addr}(F:MthC P w K mg base C "__init__" "Bench.__init__" Qzf)(T:Bcl K C) :
  CalM P w K mg base CX0 1 C "__init__" (Qr0 C):=by
 refine okm ["self"] 1 F λcdv A outer s H vs Q E nD hr h=>?_
 obtain⟨p,dx,rfl,hp,k⟩:=h;have hU:=Room.u60 hr;have hI:=Room.i60 hr;refine⟨_,Qr (Qhx (pv 0) (Ym (Zo Jd (Zo Jd (Zo (Ym Qq) Qq)))) rfl) (QQ (Qhx (pv 0) (Za Qq) rfl)),?_⟩;refine⟨by show 0<=1000;decide,λt1 H1 s1 n1 a1=>⟨by show 3<=1000;decide,λt2 H2 s2 n2 a2=>?_⟩⟩;have p2:=s2 _ _ (s1 _ _ hp);refine⟨_,rfl,p,C,dx,[],rfl,p2,T.cl,T.nK,by show 0<1000;decide,by show 0<=1000;decide,λl H3 s3 n3 e3=>?_⟩;have np:∀a o,a≠p->H a=some o->H3 a=some o:=λa o h e=>s3 _ _ (by rw[QK h];exact s2 _ _ (s1 _ _ e))
 have p3:H3 p=some (.ins C dx (Qdc "kept" (.ref t2) [])):=s3 _ _ upd_same;have lp:l≠p:=QaY e3 p3 (λz=>nomatch z);refine⟨_,rfl,p,C,dx,_,rfl,p3,T.cl,T.nE,by show 1<1000;decide,?_⟩;have nl:H l=none:=by
  cases z:H l with
  |none=>rfl
  |some o=>rw[QK lp,s2 _ _ (s1 _ _ z)] at n3;cases n3
 refine k l _ nl (λa o h e=>by rw[QK h];exact np a o h e) ⟨dx,.ref t2,[],upd_same,by rw[QK lp];exact e3,?_,.nil⟩;have t2p:t2≠p:=QaY a2 p2 (λz=>nomatch z);have t1p:t1≠p:=QaY (s2 _ _ a1) p2 (λz=>nomatch z);have b1:(upd H3 p (.ins C dx (Qdc "earlier" (.ref l) (Qdc "kept" (.ref t2) [])))) t1=some (.tup []):=by rw[QK t1p];exact s3 _ _ (by rw[QK t1p];exact s2 _ _ a1)
 have b2:(upd H3 p (.ins C dx (Qdc "earlier" (.ref l) (Qdc "kept" (.ref t2) [])))) t2=some (.tup [.int 1,.int 1,.ref t1]):=by rw[QK t2p];exact s3 _ _ (by rw[QK t2p];exact a2)
 exact .tup (λz=>z) b2 (.cons (.int _) (.cons (.int _) (.cons (.tup (λz=>z) b1 .nil) .nil)))
theorem QuU{C:Addr}(F:MthC P w K mg base C "keep" "Bench.keep" Qze)(T:Bcl K C) :
  CalM P w K mg base CX0 1 C "keep" (QeI C):=by
 refine okm ["self", "board"] 2 F λcdv A outer s H vs Q E nD hr h=>?_
 obtain⟨b,l,es,k,v,k',rfl,B,hl,hv,q⟩:=h;have hU:=Room.u60 hr;have hI:=Room.i60 hr;refine⟨_,Qr (Zf (Qbb PySem.F.plainAttrs_list PySem.F.slot_list_append PySem.F.type_list_append Qcc (Qav (pv 0) rfl) (Qk (Qav (pv 0) rfl) Qq))) (QQ (Qhx (pv 0) (pv 1) rfl)),?_⟩;obtain⟨dx,kv,xs,e1,e2,d1,d2⟩:=B.at_;have lx:xs.length=es.length:=by rw[d2.length,Qc]
 have bl:b≠l:=QaY e1 e2 (λz=>nomatch z);refine⟨_,rfl,b,C,dx,_,_,rfl,e1,T.cl,T.nE,Qfh _ _,.inl ⟨rfl,_,SqL.of e2⟩,_,rfl,b,C,dx,_,_,rfl,e1,T.cl,T.nK,YG _ _,l,xs,kv,rfl,rfl,e2,QeJ (by omega),?_⟩;refine⟨_,rfl,_,rfl,b,C,dx,_,rfl,by rw[QK bl];exact e1,T.cl,T.nK,QnZ _ _,?_⟩;have kx:K2 b l H (upd (upd H l (.lst (xs++[kv]))) b (.ins C dx (Qdc "kept" v (bfl kv l)))):=λa o h1 h2 e=>by rw[QK h1,QK h2];exact e
 have tp:=kx.tups e1 e2;refine q _ kx ⟨dx,v,xs++[kv],by rw[upd_same,QnY],by rw[QK bl.symm,upd_same],QgL tp hv,?_⟩;rw[Je];exact(Qe9 tp d2).app (.cons (QgL tp d1) .nil)
theorem Qyd{C:Addr}(F:MthC P w K mg base C "put" "Bench.put" bPut)(T:Bcl K C){xc:Str->Addr}(Tg:GlbA mg)
   (c1:Cal P w K mg base (Rx.CXE P w) 3 "refuse_no_place" (ZN false (QAu (xc "place"))))
  (Gk:CalM P w K mg base CX0 1 C "keep" (QeI C))
  (mC:mg "Double" = some (.ref (xc "double")))(qC:PySem.W.excIn K (xc "double") Rx.mroV "ValueError.__new__" = true) :
  CalM P w K mg base (Rx.CXE P w) 5 C "put" (QoK C xc .put):=by
 refine Qss ["self", "row", "column", "high", "wide", "cells"] 3 F λcdv A outer s H vs Q E nD hr h=>?_
 obtain⟨b,l,es,k,x,y,x',y',rfl,B,o,hl,hx,hy,po⟩:=h;have hU:=Room.u60 hr;have hI:=Room.i60 hr;refine⟨_,Qr (Zf (QdL c1 hr (Rx.QcJ (E:=E) (λ_ _ h=>h) rfl rfl rfl) (Qk (Qav (pv 0) rfl) (Qk (pv 1) (Qk (pv 2) Qq)))))
  (Qr (Qde (Qav (pv 0) rfl) (QeO rfl (ZR (Qcu 3 nD) (ZR (Qcu 4 nD) (ZR (Qcu 5 nD) QcI)))))
  (Qr (Qat (QT.h (E:=E0) (ZA QhD (QeR hI) (Jp (ZZ (J8 (qv 1) (J8 (qv 2) Ja)))) (qp 5) (by rfl))) (QQ (Rx.Qdd (C:=xc "double") (E:=E) (λ_ _ h=>h) rfl rfl rfl rfl (by rfl) mC qC Jb)) Zs)
  (QQ (Zf (QaK (pv 0) T.cl Gk hr Qdf (Qk (QE.h (E:=E0) (ZZ (J8 (qv 3) (J8 (qv 4) (J8 (JV (ZQ JL Ys (by rfl) Tg.tuple Z4 (Qdb (Jp (QaC Qfc QhX (by rfl) Tg.sorted Qcf (Qdb (Jp (YC YL QaX (qp 5) (Jp (ZZ (J8 (JV (ZZ (J8 (qv 1) (J8 (qv 2) Ja)))) Ja))))) Ja))) Ja))) Ja))))) Qq)))))),?_⟩
 obtain⟨dx,kv,xs,e1,e2,d1,d2⟩:=B.at_;obtain⟨px,pn⟩:=po;refine⟨_,rfl,b,C,dx,_,_,rfl,e1,T.cl,T.nK,YG _ _,_,rfl,_,rfl,?_⟩;refine spD (args:=[.v k.d,.v x',.v y']) (λd=>d=.none/\inP k x' y'=true) (λD=>D=xc "place" /\ inP k x' y'=false) (.cons d1 (.cons hx (.cons hy .nil))) ⟨k,x',y',rfl,λz=>⟨rfl,z⟩,λz=>⟨rfl,z⟩⟩ (λd hd v0 H1 s1 _ _=>?_) λD hD H1 s1=>?_
 case refine_2=>
  obtain⟨rfl,z⟩:=hD;refine px "place" ?_ H1 s1
  show(if inP k x' y'=true then _ else _)=_;rw[z];rfl
 obtain⟨_,hi⟩:=hd;obtain⟨r,c,rfl,rfl,hr',hc'⟩:=QkO hi;obtain⟨ak,ac,ps,rfl,f1,f2,dc⟩:=QkW d1;have e1':=s1 _ _ e1;refine⟨_,rfl,b,C,dx,_,_,rfl,e1',T.cl,T.nK,YG _ _,ak,_,rfl,SqT.of (s1 _ _ f1),rfl,_,_,rfl,_,_,rfl,_,_,rfl,rfl,?_⟩;have xr:x=.int r:=by cases hx;rfl
 have yc:y=.int c:=by cases hy;rfl
 subst xr;subst yc;have slots:∀H',Same H1 H'->Zw (SlV H') [some (.ref b),some (.int r),some (.int c),some (.int k.h),some (.int k.w),some (.ref ac)] [.no,.v (.int r),.v (.int c),.v (.int k.h),.v (.int k.w),.v (.tuple ((Qv k.h k.w k.f).map pairD))]:=λH' s'=>.cons JF (.cons ⟨_,rfl,.int _⟩ (.cons ⟨_,rfl,.int _⟩ (.cons ⟨_,rfl,.int _⟩ (.cons ⟨_,rfl,.int _⟩ (.cons ⟨_,rfl,(DA.same dc s1).same s'⟩ .nil)))))
 refine hyT _ (slots H1 λ_ _ z=>z) ?_
 refine⟨⟨ZK _,rfl,by have:=ZI ((r:Int),(c:Int));exact Qt (YA this) (by decide)⟩,λH2 s2=>?_⟩;have ea:(((Qv k.h k.w k.f).map pairD).any λe=>QY e (.tuple [.int r,.int c]))=k.f r c:=(YE _ ((r:Int),(c:Int))).trans (Qm4 hr' hc');show if(((Qv k.h k.w k.f).map pairD).any λe=>QY e (.tuple [.int r,.int c]))=true then _ else _
 rw[ea];have ed:QdT (.put (.int r) (.int c)) es k=if k.f r c=true then some ("double" : Str) else none:=by
  show(if inP k (.int r) (.int c)=true then(if k.f r c=true then some ("double" : Str) else none) else some "place")=_;rw[hi];rfl
 rw[ed] at pn;have s12:=s1.trans s2;cases zf:k.f r c with
 |true=>
  refine px "double" ?_ H2 s12
  rw[ed,zf];rfl
 |false=>
  rw[zf] at pn;have ln:(Qv k.h k.w k.f).length<=36:=Qt (Z9 k.w k.f k.h) (ZX o.h6 o.w6);refine⟨_,rfl,b,dx,_,rfl,s2 _ _ e1',Y7 _ _ (by decide) (by decide),?_⟩;refine hyF _ (slots H2 s2) ?_
  refine⟨by show((Qv k.h k.w k.f).map pairD).length+1<=1000000;rw[Qc];omega,?_⟩;have es':(Qv k.h k.w k.f).map pairD++[YV [.int (r:Int),.int (c:Int)]]=(Qv k.h k.w k.f++[((r:Int),(c:Int))]).map pairD:=by rw[Je];rfl
  show QdG [.tuple ((Qv k.h k.w k.f).map pairD++[YV [.int (r:Int),.int (c:Int)]])] _;rw[es'];refine Qhm (Qmm zf) (by rw[Qj];show _+1<64;omega) (λp hp=>?_) λM pM pw=>?_
  ·rcases QC.mp hp with hp | hp
   ·have:=YD hp;have:=o.w6;omega
   ·rw[Qy.mp hp];have:=o.w6;show 0<=(c:Int)/\(c:Int)<64;omega
  ·rw[QhV hr' hc' pM pw];intro v3 H3 s3 dv;exact⟨b,l,es,k,v3,Qcb (.put (.int r) (.int c)) k,rfl,B.same (s12.trans s3),hl,dv,λH4 k4 B4=>pn rfl H4 ((K2.of (s12.trans s3)).trans k4) B4⟩
theorem QpL{C:Addr}(F:MthC P w K mg base C "take" "Bench.take" Qza)(T:Bcl K C){xc:Str->Addr}
   (c1:Cal P w K mg base (Rx.CXE P w) 3 "refuse_no_place" (ZN false (QAu (xc "place"))))
   (c2:Cal P w K mg base (Rx.CXE P w) 5 "without" (ZN false (QBC (xc "cell"))))
  (Gk:CalM P w K mg base CX0 1 C "keep" (QeI C)) :
  CalM P w K mg base (Rx.CXE P w) 6 C "take" (QoK C xc .take):=by
 refine Qss ["self", "row", "column"] 3 F λcdv A outer s H vs Q E nD hr h=>?_
 obtain⟨b,l,es,k,x,y,x',y',rfl,B,o,hl,hx,hy,po⟩:=h;have hU:=Room.u60 hr;have hI:=Room.i60 hr;refine⟨_,Qr (Zf (QdL c1 hr (Rx.QcJ (E:=E) (λ_ _ h=>h) rfl rfl rfl) (Qk (Qav (pv 0) rfl) (Qk (pv 1) (Qk (pv 2) Qq)))))
  (QQ (Zf (QaK (pv 0) T.cl Gk hr Qdf (Qk (QdL c2 hr (Rx.QcJ (E:=E) (λ_ _ h=>h) rfl rfl rfl) (Qk (Qav (pv 0) rfl) (Qk (QE.h (E:=E0) (ZZ (J8 (qv 1) (J8 (qv 2) Ja)))) Qq))) Qq)))),?_⟩
 obtain⟨dx,kv,xs,e1,e2,d1,d2⟩:=B.at_;obtain⟨px,pn⟩:=po;refine⟨_,rfl,b,C,dx,_,_,rfl,e1,T.cl,T.nK,YG _ _,_,rfl,_,rfl,?_⟩;refine spD (args:=[.v k.d,.v x',.v y']) (λd=>d=.none/\inP k x' y'=true) (λD=>D=xc "place" /\ inP k x' y'=false) (.cons d1 (.cons hx (.cons hy .nil))) ⟨k,x',y',rfl,λz=>⟨rfl,z⟩,λz=>⟨rfl,z⟩⟩ (λd hd v0 H1 s1 _ _=>?_) λD hD H1 s1=>?_
 case refine_2=>
  obtain⟨rfl,z⟩:=hD;refine px "place" ?_ H1 s1
  show(if inP k x' y'=true then _ else _)=_;rw[z];rfl
 obtain⟨_,hi⟩:=hd;obtain⟨r,c,rfl,rfl,hr',hc'⟩:=QkO hi;have e1':=s1 _ _ e1;have xr:x=.int r:=by cases hx;rfl
 have yc:y=.int c:=by cases hy;rfl
 subst xr;subst yc;refine⟨_,rfl,b,dx,_,rfl,e1',Y7 _ _ (by decide) (by decide),?_⟩;refine⟨_,rfl,b,C,dx,_,_,rfl,e1',T.cl,T.nK,YG _ _,?_⟩;refine hyF [.no,.v (.int r),.v (.int c)] (.cons JF (.cons ⟨_,rfl,.int _⟩ (.cons ⟨_,rfl,.int _⟩ .nil))) ?_
 intro v2 H2 s2 dv;have ed:QdT (.take (.int r) (.int c)) es k=if k.f r c=true then none else some ("cell" : Str):=by
  show(if inP k (.int r) (.int c)=true then(if k.f r c=true then none else some ("cell" : Str)) else some "place")=_;rw[hi];rfl
 have s12:=s1.trans s2;refine spD (args:=[.v k.d,.v (pairD ((r:Int),(c:Int)))]) (λd=>d=(Qcb (.take (.int r) (.int c)) k).d/\k.f r c=true) (λD=>D=xc "cell" /\ k.f r c=false) (.cons (DA.same d1 s12) (.cons dv .nil)) ⟨k,r,c,rfl,hr',hc',λz=>⟨rfl,z⟩,λz=>⟨rfl,z⟩⟩ (λd hd v3 H3 s3 dv3 _=>?_) λD hD H3 s3=>?_
 case refine_2=>
  obtain⟨rfl,z⟩:=hD;refine px "cell" ?_ H3 (s12.trans s3)
  rw[ed,z];rfl
 obtain⟨rfl,zf⟩:=hd;rw[ed,zf] at pn;exact⟨b,l,es,k,v3,Qcb (.take (.int r) (.int c)) k,rfl,B.same (s12.trans s3),hl,dv3,λH4 k4 B4=>pn rfl H4 ((K2.of (s12.trans s3)).trans k4) B4⟩
theorem Qu0{C:Addr}(F:MthC P w K mg base C "row" "Bench.row" bRow)(T:Bcl K C){xc:Str->Addr}
   (c1:Cal P w K mg base (Rx.CXE P w) 1 "refuse_too_many" (ZN false (QAt (xc "many"))))
  (Gk:CalM P w K mg base CX0 1 C "keep" (QeI C)) :
  CalM P w K mg base (Rx.CXE P w) 3 C "row" (Qfz C xc .row):=by
 refine Qss ["self", "high", "wide", "cells"] 1 F λcdv A outer s H vs Q E nD hr h=>?_
 obtain⟨b,l,es,k,rfl,B,o,hl,po⟩:=h;have hU:=Room.u60 hr;have hI:=Room.i60 hr;refine⟨_,Qr (Qde (Qav (pv 0) rfl) (QeO rfl (ZR (Qcu 1 nD) (ZR (Qcu 2 nD) (ZR (Qcu 3 nD) QcI)))))
  (Qr (Zf (QdL c1 hr (Rx.QcJ (E:=E) (λ_ _ h=>h) rfl rfl rfl) (Qk (pv 1) Qq)))
  (QQ (Zf (QaK (pv 0) T.cl Gk hr Qdf (Qk (QE.h (E:=E0) (ZZ (J8 (JV (YC YL QaX (qp 1) (Q9 Jo))) (J8 (qv 2) (J8 (qv 3) Ja))))) Qq))))),?_⟩
 obtain⟨dx,kv,xs,e1,e2,d1,d2⟩:=B.at_;obtain⟨px,pn⟩:=po;obtain⟨ak,ac,ps,rfl,f1,f2,dc⟩:=QkW d1;refine⟨_,rfl,b,C,dx,_,_,rfl,e1,T.cl,T.nK,YG _ _,ak,_,rfl,SqT.of f1,rfl,_,_,rfl,_,_,rfl,_,_,rfl,rfl,?_⟩;refine⟨_,rfl,?_⟩;refine spD (args:=[.v (.int k.h)]) (λd=>d=.none/\k.h≠6) (λD=>D=xc "many" /\ k.h=6) (.cons (.int _) .nil) ⟨k.h,rfl,λz=>⟨rfl,z⟩,λz=>⟨rfl,z⟩⟩ (λd hd v0 H1 s1 _ _=>?_) λD hD H1 s1=>?_
 case refine_2=>
  obtain⟨rfl,z⟩:=hD;refine px "many" ?_ H1 s1
  show(if k.h=6 then _ else _)=_;rw[if_pos z]
 obtain⟨_,z⟩:=hd;have ed:QdT .row es k=none:=by
  show(if k.h=6 then _ else _)=_;rw[if_neg z]
 refine⟨_,rfl,b,dx,_,rfl,s1 _ _ e1,Y7 _ _ (by decide) (by decide),?_⟩;refine hyF [.no,.v (.int k.h),.v (.int k.w),.v (.tuple ((Qv k.h k.w k.f).map pairD))] (.cons JF (.cons ⟨_,rfl,.int _⟩ (.cons ⟨_,rfl,.int _⟩ (.cons ⟨_,rfl,DA.same dc s1⟩ .nil)))) ?_
 intro v2 H2 s2 dv;have eb:(Qcb .row k).d=bdD ((k.h:Int)+1) k.w (Qv k.h k.w k.f):=by
  show bdD _ _ (Qv (k.h+1) k.w λr c=>k.f r c&&decide (r<k.h))=_;rw[QhU];rfl
 exact⟨b,l,es,k,v2,Qcb .row k,rfl,B.same (s1.trans s2),hl,by rw[eb];exact dv,λH4 k4 B4=>pn ed H4 ((K2.of (s1.trans s2)).trans k4) B4⟩
theorem Qu2{C:Addr}(F:MthC P w K mg base C "column" "Bench.column" bCol)(T:Bcl K C){xc:Str->Addr}
   (c1:Cal P w K mg base (Rx.CXE P w) 1 "refuse_too_many" (ZN false (QAt (xc "many"))))
  (Gk:CalM P w K mg base CX0 1 C "keep" (QeI C)) :
  CalM P w K mg base (Rx.CXE P w) 3 C "column" (Qfz C xc .col):=by
 refine Qss ["self", "high", "wide", "cells"] 1 F λcdv A outer s H vs Q E nD hr h=>?_
 obtain⟨b,l,es,k,rfl,B,o,hl,po⟩:=h;have hU:=Room.u60 hr;have hI:=Room.i60 hr;refine⟨_,Qr (Qde (Qav (pv 0) rfl) (QeO rfl (ZR (Qcu 1 nD) (ZR (Qcu 2 nD) (ZR (Qcu 3 nD) QcI)))))
  (Qr (Zf (QdL c1 hr (Rx.QcJ (E:=E) (λ_ _ h=>h) rfl rfl rfl) (Qk (pv 2) Qq)))
  (QQ (Zf (QaK (pv 0) T.cl Gk hr Qdf (Qk (QE.h (E:=E0) (ZZ (J8 (qv 1) (J8 (JV (YC YL QaX (qp 2) (Q9 Jo))) (J8 (qv 3) Ja))))) Qq))))),?_⟩
 obtain⟨dx,kv,xs,e1,e2,d1,d2⟩:=B.at_;obtain⟨px,pn⟩:=po;obtain⟨ak,ac,ps,rfl,f1,f2,dc⟩:=QkW d1;refine⟨_,rfl,b,C,dx,_,_,rfl,e1,T.cl,T.nK,YG _ _,ak,_,rfl,SqT.of f1,rfl,_,_,rfl,_,_,rfl,_,_,rfl,rfl,?_⟩;refine⟨_,rfl,?_⟩;refine spD (args:=[.v (.int k.w)]) (λd=>d=.none/\k.w≠6) (λD=>D=xc "many" /\ k.w=6) (.cons (.int _) .nil) ⟨k.w,rfl,λz=>⟨rfl,z⟩,λz=>⟨rfl,z⟩⟩ (λd hd v0 H1 s1 _ _=>?_) λD hD H1 s1=>?_
 case refine_2=>
  obtain⟨rfl,z⟩:=hD;refine px "many" ?_ H1 s1
  show(if k.w=6 then _ else _)=_;rw[if_pos z]
 obtain⟨_,z⟩:=hd;have ed:QdT .col es k=none:=by
  show(if k.w=6 then _ else _)=_;rw[if_neg z]
 refine⟨_,rfl,b,dx,_,rfl,s1 _ _ e1,Y7 _ _ (by decide) (by decide),?_⟩;refine hyF [.no,.v (.int k.h),.v (.int k.w),.v (.tuple ((Qv k.h k.w k.f).map pairD))] (.cons JF (.cons ⟨_,rfl,.int _⟩ (.cons ⟨_,rfl,.int _⟩ (.cons ⟨_,rfl,DA.same dc s1⟩ .nil)))) ?_
 intro v2 H2 s2 dv;have eb:(Qcb .col k).d=bdD k.h ((k.w:Int)+1) (Qv k.h k.w k.f):=by
  show bdD _ _ (Qv k.h (k.w+1) λr c=>k.f r c&&decide (c<k.w))=_;rw[QhW];rfl
 exact⟨b,l,es,k,v2,Qcb .col k,rfl,B.same (s1.trans s2),hl,by rw[eb];exact dv,λH4 k4 B4=>pn ed H4 ((K2.of (s1.trans s2)).trans k4) B4⟩
theorem QpK{C:Addr}(F:MthC P w K mg base C "turn" "Bench.turn" Qy9)(T:Bcl K C){xc:Str->Addr}
   (c1:Cal P w K mg base CX0 2 "turned" (ZN false QwE))
  (Gk:CalM P w K mg base CX0 1 C "keep" (QeI C)) :
  CalM P w K mg base (Rx.CXE P w) 3 C "turn" (Qfz C xc .turn):=by
 refine Qss ["self"] 1 F λcdv A outer s H vs Q E nD hr h=>?_
 obtain⟨b,l,es,k,rfl,B,o,hl,po⟩:=h;have hU:=Room.u60 hr;have hI:=Room.i60 hr;refine⟨_,QQ (Zf (QaK (pv 0) T.cl Gk hr Qdf (Qk (Zj c1 hr (Qk (Qav (pv 0) rfl) Qq)) Qq))),?_⟩;obtain⟨dx,kv,xs,e1,e2,d1,d2⟩:=B.at_;obtain⟨px,pn⟩:=po;refine⟨_,rfl,b,dx,_,rfl,e1,Y7 _ _ (by decide) (by decide),?_⟩;refine⟨_,rfl,b,C,dx,_,_,rfl,e1,T.cl,T.nK,YG _ _,?_⟩;refine spD (args:=[.v k.d]) (λd=>d=(Qcb .turn k).d) XF (.cons d1 .nil) ⟨k.h,k.w,k.f,rfl,o.h6,o.w6,rfl⟩ (λd hd v3 H3 s3 dv3 _=>?_) λD hD=>hD.elim
 subst hd;exact⟨b,l,es,k,v3,Qcb .turn k,rfl,B.same s3,hl,dv3,λH4 k4 B4=>pn rfl H4 ((K2.of s3).trans k4) B4⟩
theorem QpM{C:Addr}(F:MthC P w K mg base C "rest" "Bench.rest" Qzb)(T:Bcl K C){xc:Str->Addr}
   (c1:Cal P w K mg base CX0 1 "rest_boards" (ZN false Qsa))
  (Gk:CalM P w K mg base CX0 1 C "keep" (QeI C)) :
  CalM P w K mg base (Rx.CXE P w) 2 C "rest" (Qfz C xc .rest):=by
 refine Qss ["self"] 1 F λcdv A outer s H vs Q E nD hr h=>?_
 obtain⟨b,l,es,k,rfl,B,o,hl,po⟩:=h;have hU:=Room.u60 hr;have hI:=Room.i60 hr;refine⟨_,QQ (Zf (QaK (pv 0) T.cl Gk hr Qdf (Qk (Zj c1 hr (Qk (Qav (pv 0) rfl) Qq)) Qq))),?_⟩;obtain⟨dx,kv,xs,e1,e2,d1,d2⟩:=B.at_;obtain⟨px,pn⟩:=po;refine⟨_,rfl,b,dx,_,rfl,e1,Y7 _ _ (by decide) (by decide),?_⟩;refine⟨_,rfl,b,C,dx,_,_,rfl,e1,T.cl,T.nK,YG _ _,?_⟩;refine spD (args:=[.v k.d]) (λd=>d=(Qcb .rest k).d) XF (.cons d1 .nil) ⟨k.h,k.w,k.f,rfl,o.h6,o.w6,rfl⟩ (λd hd v3 H3 s3 dv3 _=>?_) λD hD=>hD.elim
 subst hd;exact⟨b,l,es,k,v3,Qcb .rest k,rfl,B.same s3,hl,dv3,λH4 k4 B4=>pn rfl H4 ((K2.of s3).trans k4) B4⟩
theorem QpJ{C:Addr}(F:MthC P w K mg base C "undo" "Bench.undo" Qy8)(T:Bcl K C){xc:Str->Addr}
  (mC:mg "NoDeed" = some (.ref (xc "deed")))(qC:PySem.W.excIn K (xc "deed") Rx.mroV "ValueError.__new__" = true) :
  CalM P w K mg base (Rx.CXE P w) 1 C "undo" (Qfz C xc .undo):=by
 refine Qss ["self"] 1 F λcdv A outer s H vs Q E nD hr h=>?_
 obtain⟨b,l,es,k,rfl,B,o,hl,po⟩:=h;have hU:=Room.u60 hr;have hI:=Room.i60 hr;refine⟨_,Qr (Qat (Qhv (Qeu (Qav (pv 0) rfl) (λ_=>rfl))) (QQ (Rx.Qdd (C:=xc "deed") (E:=E) (λ_ _ h=>h) rfl rfl rfl rfl (by rfl) mC qC Jb)) Zs)
  (QQ (Qhx (pv 0) (Qmv PySem.F.plainAttrs_list PySem.F.slot_list_pop PySem.F.type_list_pop Qsw (Qav (pv 0) rfl)) rfl)),?_⟩
 obtain⟨dx,kv,xs,e1,e2,d1,d2⟩:=B.at_;obtain⟨px,pn⟩:=po;have lx:xs.length=es.length:=by rw[d2.length,Qc]
 have bl:b≠l:=QaY e1 e2 (λz=>nomatch z);have ed:QdT .undo es k=if es.isEmpty=true then some ("deed" : Str) else none:=rfl
 refine⟨_,rfl,b,C,dx,_,_,rfl,e1,T.cl,T.nE,Qfh _ _,!xs.isEmpty,.inl ⟨xs,SqL.of e2,rfl⟩,?_⟩;cases xs with
 |nil=>
  have ee:es=[]:=QfI (by rw[<- lx];rfl);subst ee;exact px "deed" rfl H λ_ _ z=>z
 |cons x0 xr=>
  have ne:es.isEmpty=false:=by cases es with | nil=>cases lx | cons _ _=>rfl
  rw[ed,ne] at pn;obtain⟨ep,kl,rfl⟩:∃ep kl,es=ep++[kl]:=⟨es.dropLast,es.getLast (by intro z;rw[z] at ne;cases ne),(JP _).symm⟩
  obtain⟨xp,xl,ex⟩:∃xp xl,x0::xr=xp++[xl]:=⟨(x0::xr).dropLast,(x0::xr).getLast (by simp),(JP _).symm⟩
  rw[ex] at e2 d2;have dd:DAs N0 H xp (ep.map Bo.d)/\DA N0 H xl kl.d:=by
   rw[Je] at d2;have lp:xp.length=(ep.map Bo.d).length:=by
    have:=d2.length;rw[Qj,Qj] at this
    simpa using this
   constructor
   ·have:=d2.take xp.length;rw[QcU rfl,lp,QcU rfl] at this;exact this
   ·have:=d2.drop xp.length;rw[QcX rfl,lp,QcX rfl] at this;cases this with | cons q _=>exact q
  show if(false:Bool)=true then _ else _
  refine Qb0 ?_
  refine⟨_,rfl,b,C,dx,_,_,rfl,e1,T.cl,T.nE,Qfh _ _,.inl ⟨rfl,_,SqL.of e2⟩,l,xp++[xl],xl,rfl,rfl,e2,by rw[Qj];show(xp++[xl])[xp.length+1 - 1]? = _;simp,?_⟩;refine⟨_,rfl,b,C,dx,_,rfl,by rw[QK bl];exact e1,T.cl,T.nK,QnZ _ _,?_⟩;rw[YM];have kx:K2 b l H (upd (upd H l (.lst xp)) b (.ins C dx (Qdc "kept" xl (bfl kv l)))):=λa o h1 h2 e=>by rw[QK h1,QK h2];exact e
  have tp:=kx.tups e1 e2;refine pn rfl _ kx ?_
  have es2:QdE .undo (ep++[kl]) k=(ep,kl):=by
   show((ep++[kl]).dropLast,(ep++[kl]).getLastD k)=_;rw[YM];simp
  rw[es2];exact⟨dx,xl,xp,by rw[upd_same,QnY],by rw[QK bl.symm,upd_same],QgL tp dd.2,Qe9 tp dd.1⟩
theorem QmV{C:Addr}(F:MthC P w K mg base C "board" "Bench.board" Qs1)(T:Bcl K C) :
  CalM P w K mg base CX0 1 C "board" (Qgl C):=by
 refine okm ["self"] 1 F λcdv A outer s H vs Q E nD hr h=>?_
 obtain⟨b,l,es,k,rfl,B,q⟩:=h;have hU:=Room.u60 hr;have hI:=Room.i60 hr;refine⟨_,QQ (JI (Qav (pv 0) rfl)),?_⟩;obtain⟨dx,kv,xs,e1,e2,d1,d2⟩:=B.at_;exact⟨_,rfl,b,C,dx,_,_,rfl,e1,T.cl,T.nK,YG _ _,q kv d1⟩
theorem QkC{C:Addr}(F:MthC P w K mg base C "counts" "Bench.counts" Qn1)(T:Bcl K C)
   (c1:Cal P w K mg base CX0 3 "counts_stands" (ZN true QiM)) :
  CalM P w K mg base CX0 4 C "counts" (Qjn C):=by
 refine okm ["self"] 1 F λcdv A outer s H vs Q E nD hr h=>?_
 obtain⟨b,l,es,k,rfl,B,o,q⟩:=h;have hU:=Room.u60 hr;have hI:=Room.i60 hr;refine⟨_,QQ (JI (Zj c1 hr (Qk (Qav (pv 0) rfl) Qq))),?_⟩;obtain⟨dx,kv,xs,e1,e2,d1,d2⟩:=B.at_;refine⟨_,rfl,b,C,dx,_,_,rfl,e1,T.cl,T.nK,YG _ _,?_⟩;refine spD (args:=[.v k.d]) (λd=>d=.list ((cIw k.f k.h k.w).map QJ)) XF (.cons d1 .nil) ⟨k.h,k.w,_,rfl,o.h6,o.w6,(Bo.bds o).col,by show YS (Qj1 (Qv k.h k.w k.f) k.h k.w)=_;unfold Qj1 cIw;rw[Q8];rfl⟩ (λd hd v3 H3 s3 dv3 fr=>?_) λD hD=>hD.elim
 subst hd;cases dv3 with
 |@lst t ys _ _ e qq=>
  have ey:ys=(cIw k.f k.h k.w).map V.int:=QnD qq;rw[ey] at e;exact q t H3 s3 (fr rfl t rfl ⟨_,e⟩) e
theorem QpN{C:Addr}(F:MthC P w K mg base C "most" "Bench.most" Qzd)(T:Bcl K C)
   (c1:Cal P w K mg base CX0 4 "greatest_size" (ZN false QsI)) :
  CalM P w K mg base CX0 5 C "most" (QlR C):=by
 refine okm ["self"] 1 F λcdv A outer s H vs Q E nD hr h=>?_
 obtain⟨b,l,es,k,rfl,B,o,q⟩:=h;have hU:=Room.u60 hr;have hI:=Room.i60 hr;refine⟨_,QQ (JI (Zj c1 hr (Qk (Qav (pv 0) rfl) Qq))),?_⟩;obtain⟨dx,kv,xs,e1,e2,d1,d2⟩:=B.at_;refine⟨_,rfl,b,C,dx,_,_,rfl,e1,T.cl,T.nK,YG _ _,?_⟩;refine spD (args:=[.v k.d]) (λd=>∃m:Nat,d=.int m/\Gr (Qv k.h k.w k.f) k.h k.w m) XF (.cons d1 .nil) ⟨k.h,k.w,_,rfl,Bo.bds o,λm g=>⟨m,rfl,g⟩⟩ (λd hd v3 H3 s3 dv3 fr=>?_) λD hD=>hD.elim
 obtain⟨m,rfl,g⟩:=hd;cases dv3;exact q m H3 g s3
def QB3:Option Str->V
 |none=>.non
 |some s=>.str s
def QjK(d:Deed)(es:List Bo)(k:Bo):List Bo×Bo:=match QdT d es k with
 |some _=>(es,k)
 |none=>QdE d es k
theorem QgG{d:Deed}{es:List Bo}{k:Bo}(h:d.wd ≠ "undo"):QdT d es k=QkS d k:=by cases d<;>first | rfl | exact absurd rfl h
theorem Qgg{d:Deed}{es:List Bo}{k:Bo}(h:d.wd ≠ "undo"):QdE d es k=(es++[k],Qcb d k):=by cases d<;>first | rfl | exact absurd rfl h
theorem Qdh{d:Deed}{es:List Bo}{k:Bo}{wd:Str}(h:QdT d es k=some wd):QjK d es k=(es,k):=by unfold QjK;rw[h]
theorem Qaw{d:Deed}{es:List Bo}{k:Bo}(h:QdT d es k=none):QjK d es k=QdE d es k:=by unfold QjK;rw[h]
theorem QpP{d:Deed}{k:Bo}(o:k.ok)(h:QkS d k=none):(Qcb d k).ok:=by
 obtain⟨h1,h6,w1,w6⟩:=o;cases d with
 |put x y=>exact⟨h1,h6,w1,w6⟩
 |take x y=>exact⟨h1,h6,w1,w6⟩
 |row=>
  have z:¬k.h=6:=λz=>by
   have h:(if k.h=6 then some ("many" : Str) else none)=none:=h;rw[if_pos z] at h;cases h
  exact⟨by show 1<=k.h+1;omega,by show k.h+1<=6;omega,w1,w6⟩
 |col=>
  have z:¬k.w=6:=λz=>by
   have h:(if k.w=6 then some ("many" : Str) else none)=none:=h;rw[if_pos z] at h;cases h
  exact⟨h1,h6,by show 1<=k.w+1;omega,by show k.w+1<=6;omega⟩
 |turn=>exact⟨w1,w6,h1,h6⟩
 |rest=>exact⟨h1,h6,w1,w6⟩
 |undo=>exact⟨h1,h6,w1,w6⟩
structure RwAt (H:Hp) (r:Addr) (es:List Bo) (k:Bo):Prop where
 at_:∃xs v,H r=some (.lst (xs++[v]))/\DAs N0 H xs (es.map Bo.d)/\DA N0 H v k.d
def K1(r:Addr)(H H':Hp):Prop:=∀a o,a≠r->H a=some o->H' a=some o
def QrZ:Sp:=λvs H Q _=>∃(r:Addr)(es:List Bo)(k:Bo)(d:Deed)(x:V),vs=[.ref r,.str d.wd,x]/\RwAt H r es k/\k.ok/\es.length<=900/\DA N0 H x (.list d.told)/\∀H',K1 r H H'->RwAt H' r (QjK d es k).1 (QjK d es k).2->Q (QB3 (QdT d es k)) H'
theorem QyN{H:Hp}{v:V}{o:Option Str}(q:DA N0 H v (QyD o)):v=QB3 o:=by
 cases o with
 |none=>cases q;rfl
 |some s=>cases q;rfl
theorem Qrl{A:Addr->Prop}{H:Hp}{xp:List V}{xl:V}{ep:List Bo}{kl:Bo}(d2:DAs A H (xp++[xl]) ((ep++[kl]).map Bo.d)):DAs A H xp (ep.map Bo.d)/\DA A H xl kl.d:=by
 rw[Je] at d2;have lp:xp.length=(ep.map Bo.d).length:=by
  have:=d2.length;rw[Qj,Qj] at this
  simpa using this
 constructor
 ·have:=d2.take xp.length;rw[QcU rfl,lp,QcU rfl] at this;exact this
 ·have:=d2.drop xp.length;rw[QcX rfl,lp,QcX rfl] at this;cases this with | cons q _=>exact q
theorem Qik{d:Deed}(h:d.wd = "undo"):d=.undo:=by
 cases d with
 |undo=>rfl
 |put x y=>exact absurd (show("put" : Str) = "undo" from h) (by decide)
 |take x y=>exact absurd (show("take" : Str) = "undo" from h) (by decide)
 |row=>exact absurd (show("row" : Str) = "undo" from h) (by decide)
 |col=>exact absurd (show("column" : Str) = "undo" from h) (by decide)
 |turn=>exact absurd (show("turn" : Str) = "undo" from h) (by decide)
 |rest=>exact absurd (show("rest" : Str) = "undo" from h) (by decide)
theorem QwB(d:Deed):Jx (.str d.wd)=true:=by
 cases d with
 |put x y=>exact(by decide:Jx (.str "put")=true)
 |take x y=>exact(by decide:Jx (.str "take")=true)
 |row=>exact(by decide:Jx (.str "row")=true)
 |col=>exact(by decide:Jx (.str "column")=true)
 |turn=>exact(by decide:Jx (.str "turn")=true)
 |rest=>exact(by decide:Jx (.str "rest")=true)
 |undo=>exact(by decide:Jx (.str "undo")=true)
theorem QuT{C:Addr}(F:DefC P w K mg base "_law_kept" Qyn)(Tg:GlbA mg)
   (c1:Cal P w K mg base CX0 3 "_law_refused_as" (ZN false Qxa))
   (c2:Cal P w K mg base CX0 2 "_law_behind" (ZN false QCf)) :
  Cal P w K mg base CX0 4 "_law_kept" QrZ:=by
 refine okv ["_law_rows", "_law_word", "_law_told", "_law_due"] 3 F λcdv A outer s H vs Q E nD hr h=>?_
 obtain⟨r,es,k,d,x,rfl,W,o,hl,hx,k0⟩:=h;have hU:=Room.u60 hr;have hI:=Room.i60 hr;refine⟨_,Qr (Qat (Ze QiB (pv 1) Jb (JZ _)) (Qr (Qat (Ze QiB (ZD Z0 (by rfl) Tg.len Qbm (Qk (pv 0) Qq)) Jd (JZ _)) (QQ (JI Jb)) Zs)
   (Qr (Zf (Qmv PySem.F.plainAttrs_list PySem.F.slot_list_pop PySem.F.type_list_pop Qsw (pv 0))) (QQ (JI QbE)))) Zs)
  (Qr (Qba 3 nD (Zj c1 hr (Qk (Yo Zu (pv 0) (Qmt Qhd Jd) (λ_ _=>rfl)) (Qk (pv 1) (Qk (pv 2) Qq)))))
  (Qr (Qat (Ze QmK (pv 3) QbE (JZ _)) (QQ (Zf (Qbb PySem.F.plainAttrs_list PySem.F.slot_list_append PySem.F.type_list_append Qcc (pv 0) (Qk (Zj c2 hr (Qk (Yo Zu (pv 0) (Qmt Qhd Jd) (λ_ _=>rfl)) (Qk (pv 1) (Qk (pv 2) Qq)))) Qq)))) Zs)
  (QQ (JI (pv 3))))),?_⟩
 obtain⟨xs,v,er,d2,d1⟩:=W.at_;have lx:xs.length=es.length:=by rw[d2.length,Qc]
 refine⟨_,rfl,rfl,_,rfl,?_⟩;by_cases hw:d.wd = "undo"
 ·have ed:d=.undo:=Qik hw;subst ed;refine QbZ ⟨_,rfl,r,_,rfl,.inl (SqL.of er),rfl,_,rfl,?_⟩;cases es with
  |nil=>
   have:xs=[]:=QfI lx;subst this;refine QbZ (k0 H (λa o _ e=>e) ?_);exact⟨[],v,er,.nil,d1⟩
  |cons e0 er'=>
   have nz:¬(((xs++[v]).length:Nat):Int)=1:=by
    rw[Qj,lx];show ¬(((er'.length+1+1:Nat):Int)=1);omega
   have dz:decide (V.int ((xs++[v]).length:Int)=V.int 1)=false:=decide_eq_false λz=>nz (V.int.inj z)
   show if decide (V.int ((xs++[v]).length:Int)=V.int 1)=true then _ else _
   rw[dz];refine Qb0 ⟨_,rfl,.inl ⟨rfl,_,SqL.of er⟩,r,xs++[v],v,rfl,rfl,er,by rw[Qj];show(xs++[v])[xs.length+1 - 1]? = _;simp,?_⟩;rw[YM];have k1:K1 r H (upd H r (.lst xs)):=λa o h e=>by rw[QK h];exact e
   have tp:∀a ys,H a=some (.tup ys)->(upd H r (.lst xs)) a=some (.tup ys):=λa ys e=>k1 a _ (QaY e er (λz=>nomatch z)) e
   refine k0 _ k1 ?_
   obtain⟨ep,kl,ee⟩:∃ep kl,e0::er'=ep++[kl]:=⟨(e0::er').dropLast,(e0::er').getLast (by simp),(JP _).symm⟩
   rw[ee] at d2 lx ⊢;have en:QjK .undo (ep++[kl]) k=(ep,kl):=by
    rw[Qaw (show QdT .undo (ep++[kl]) k=none by rw[<- ee];rfl)];show((ep++[kl]).dropLast,(ep++[kl]).getLastD k)=_;rw[YM];simp
   rw[en];obtain⟨xp,xl,rfl⟩:∃xp xl,xs=xp++[xl]:=⟨xs.dropLast,xs.getLast (by intro z;rw[z,Qj] at lx;simp at lx),(JP _).symm⟩
   have dd:DAs N0 H xp (ep.map Bo.d)/\DA N0 H xl kl.d:=Qrl d2;exact⟨xp,xl,upd_same,Qe9 tp dd.1,QgL tp dd.2⟩
 ·have dz:decide (V.str d.wd=V.str "undo")=false:=decide_eq_false λz=>hw (V.str.inj z)
  show if decide (V.str d.wd=V.str "undo")=true then _ else _
  rw[dz];refine Qb0 ?_
  refine⟨_,rfl,_,rfl,r,_,_,v,rfl,rfl,SqL.of er,Qdw _ _,_,rfl,_,rfl,?_⟩;refine spD (args:=[.v k.d,.v (.str d.wd),.v (.list d.told)]) (λe=>e=QyD (QkS d k)) XF (.cons d1 (.cons (.str _ (QwB d)) (.cons hx .nil))) ⟨k,d,rfl,rfl⟩ (λe he v1 H1 s1 q1 _=>?_) λD hD=>hD.elim
  subst he;obtain rfl:=QyN q1;have k0':=k0;rw[QgG hw] at k0;refine⟨_,rfl,rfl,_,rfl,?_⟩;cases zd:QkS d k with
  |some wd=>
   rw[zd] at k0;refine Qb0 ⟨_,rfl,k0 H1 (λa o _ e=>s1 _ _ e) ?_⟩;rw[Qdh (by rw[QgG hw];exact zd)];exact⟨xs,v,s1 _ _ er,d2.same s1,d1.same s1⟩
  |none=>
   rw[zd] at k0;refine QbZ ⟨_,rfl,.inl ⟨rfl,_,SqL.of (s1 _ _ er)⟩,?_⟩;refine⟨_,rfl,_,rfl,r,_,_,v,rfl,rfl,SqL.of (s1 _ _ er),Qdw _ _,_,rfl,_,rfl,?_⟩;refine spD (args:=[.v k.d,.v (.str d.wd),.v (.list d.told)]) (λe=>e=(Qcb d k).d) XF (.cons (DA.same d1 s1) (.cons (.str _ (QwB d)) (.cons (DA.same hx s1) .nil))) ⟨k,d,rfl,o,zd,hw,rfl⟩ (λe he v2 H2 s2 q2 _=>?_) λD hD=>hD.elim
   subst he;have er2:=s2 _ _ (s1 _ _ er);refine⟨r,xs++[v],v2,rfl,rfl,er2,QeJ (by rw[Qj];show xs.length+1<=1000;omega),?_⟩;have k1:K1 r H (upd H2 r (.lst (xs++[v]++[v2]))):=λa o h e=>by rw[QK h];exact s2 _ _ (s1 _ _ e)
   have tp:∀a ys,H2 a=some (.tup ys)->(upd H2 r (.lst (xs++[v]++[v2]))) a=some (.tup ys):=λa ys e=>by rw[QK (QaY e er2 (λz=>nomatch z))];exact e
   refine⟨_,rfl,k0 _ k1 ?_⟩;rw[Qaw (by rw[QgG hw];exact zd),Qgg hw];refine⟨xs++[v],v2,upd_same,?_,QgL tp q2⟩;show DAs N0 _ (xs++[v]) ((es++[k]).map Bo.d);rw[Je];exact(Qe9 tp ((d2.same s1).same s2)).app (.cons (QgL tp ((d1.same s1).same s2)) .nil)
theorem QvD{d:Deed}{es:List Bo}{k:Bo}{wd:Str}(h:QdT d es k=some wd):wd = "place" ∨ wd = "double" ∨ wd = "cell" ∨ wd = "many" ∨ wd = "deed" := by
 cases d with
 |put x y=>
  have h:(if inP k x y=true then(if k.f (nI x) (nI y)=true then some ("double" : Str) else none) else some "place")=some wd:=h;split at h
  ·split at h
   ·cases h;exact .inr (.inl rfl)
   ·cases h
  ·cases h;exact .inl rfl
 |take x y=>
  have h:(if inP k x y=true then(if k.f (nI x) (nI y)=true then none else some ("cell" : Str)) else some "place")=some wd:=h;split at h
  ·split at h
   ·cases h
   ·cases h;exact .inr (.inr (.inl rfl))
  ·cases h;exact .inl rfl
 |row=>
  have h:(if k.h=6 then some ("many" : Str) else none)=some wd:=h;split at h
  ·cases h;exact .inr (.inr (.inr (.inl rfl)))
  ·cases h
 |col=>
  have h:(if k.w=6 then some ("many" : Str) else none)=some wd:=h;split at h
  ·cases h;exact .inr (.inr (.inr (.inl rfl)))
  ·cases h
 |turn=>cases h
 |rest=>cases h
 |undo=>
  have h:(if es.isEmpty=true then some ("deed" : Str) else none)=some wd:=h;split at h
  ·cases h;exact .inr (.inr (.inr (.inr rfl)))
  ·cases h
def QjC:DF:=λargs R _=>∃(h w:Int)(cs:List (Int×Int)),args=[.v (bdD h w cs)]/\SB2 cs/\∀T:List (List (Int×Int)),T.length<=cs.length->R (.list (T.map stT))
def Qmr:DF:=λargs R _=>∃(x:Int×Int)(cells:List (Int×Int)),args=[.v (pairD x),.v (.list (cells.map pairD))]/\x∈cells/\SB2 cells/\∀M:List (Int×Int),x∈M->R (stT M)
structure Srw (cells:List (Int×Int)) (x:Int×Int) (P:List (Int×Int)):Prop where
 nd:P.Nodup
 sub:∀p∈P,p∈cells
 has:x∈P
theorem Srw.len{cells P:List (Int×Int)}{x:Int×Int}(h:Srw cells x P)(nc:cells.Nodup):P.length<=cells.length:=Qtv h.nd nc h.sub
theorem Srw.step{cells P N:List (Int×Int)}{x:Int×Int}(h:Srw cells x P)(nc:cells.Nodup):Srw cells x (P++cells.filter λo => !decide (o∈P)&&N.any λq=>adjP o q):=by
 have nw:∀p∈cells.filter (λo => !decide (o∈P)&&N.any λq=>adjP o q),p∈cells/\p∉P:=λp hp=>by
  have z:=Ju.mp hp;have z2:=(QP.mp z.2).1;exact⟨z.1,by simpa using z2⟩
 refine⟨YF.mpr ⟨h.nd,nc.sublist Qof,λa ha b hb e=>(nw b hb).2 (e ▸ ha)⟩,λp hp=>?_,QC.mpr (.inl h.has)⟩;rcases QC.mp hp with hp | hp
 ·exact h.sub p hp
 ·exact(nw p hp).1
theorem QhH:(["row", "column", "cell"]:List Str).Nodup:=by decide
theorem QpA(F:DefC P w K mg base "meets_one" Qr6)(T:GlbA mg) :
  Cal P w K mg base CX0 1 "meets_one" (ZN false Qsy):=by
 refine okq ["cell", "cells"] 2 false F λcdv A outer s H E nD hr hU hI=>?_
 refine⟨_,Jf (Yj (QaC Qru (Qy1 rfl) (by rfl) T.any Dl.bt_any (Qdb (Jp (Qbi ["row", "column", "cell"] [none,none,some 0] (Qgs (qp 1)) (λcl ex s3 H3 C=>⟨(Qbg rfl (JW 0 (JW 1 Qbh QhH rfl (Qx rfl) (QL rfl)) QhH rfl (Qx rfl) (QL rfl))),Qb8,(QCH (Jp (Qmj QbG (QdN hU) (Q9 (QaO JO Zx (qp 2) (Q9 Jo) (λ_ _=>rfl))) (qp 0) (JZ _))) (Qkv (JV (Qmj QbG (QdN hU) (Q9 (QaO JO Zx (qp 2) (Q9 Jo) (λ_ _=>rfl))) (qp 1) (JZ _)))))⟩))) Ja))),λargs R EX h=>?_⟩;obtain⟨c,L,rfl,hR⟩:=h;refine Qfb (λd=>.bool (adjP c (toP d))) (λd hd k2 hk=>?_) (QvW (items:=L.map pairD) rfl ?_)
 ·obtain⟨q,_,rfl⟩:=Qw.mp hd;have hk:k2 (.bool (decide (c.1=q.1)||decide (c.2=q.2))):=hk;refine⟨rfl,_,Q3 (j:=0) rfl,?_⟩;refine ifC (λz=>?_) λz=>?_
  ·rw[show decide (c.1=q.1)=true from z,Bool.true_or] at hk;exact hk
  ·rw[show decide (c.1=q.1)=false from z,Bool.false_or] at hk;exact⟨_,Q3 (j:=1) rfl,hk⟩
 ·rw[show((L.map pairD).any λd=>adjP c (toP d))=L.any λq=>adjP c q by rw[QcY];rfl];exact hR
theorem QkD:(["other", "new", "piece"]:List Str).Nodup:=by decide
theorem QmM(F:DefC P w K mg base "piece_with" sPw)(T:GlbA mg)
  (c1:Cal P w K mg base CX0 1 "meets_one" (ZN false Qsy)) :
  Cal P w K mg base CX0 2 "piece_with" (ZN false Qmr):=by
 refine okq ["cell", "cells", "piece", "new"] 2 false F λcdv A outer s H E nD hr hU hI=>?_
 refine⟨_,QF (Z8 2 (JV (QcG (J8 (qv 0) Ja))) nD)
  (QF (Z8 3 (JV (QcG (J8 (qv 0) Ja))) nD)
  (QF (Qgr J3 (QfP (qp 3))
   (QF (Z8 3 (JV (Qbi ["other", "new", "piece"] [none,some 3,some 2] (Qgs (qp 1)) (λcl ex s3 H3 C=>⟨(YK 0 QkD rfl (Qx rfl) (QL rfl)),(QbM (QoW (Qhp (ZA QbF (QeR hI) (qp 0) (qp 2) (by rfl)) (QeL (QbC (Q9 (Qa9 c1 hr (Yz (qv 0) (Yz (qv 1) Zi))))))))),(qv 0)⟩))) nD)
  (Jf (Z8 2 (JV (YC YL QaX (qp 2) (qp 3))) nD))))
  (Jf (Yj (ZQ JL Ys (by rfl) T.tuple Z4 (Qdb (Jp (QaC QdV cd_sortP (by rfl) T.sorted Qcf (Qdb (qp 2) Ja))) Ja)))))),λargs R EX h=>?_⟩
 obtain⟨x,cells,rfl,hx,sb,hR⟩:=h;have nc:cells.Nodup:=sb.1.imp Qd8;have l36:=sb.2.1;refine Qlr (λm δ=>∃P N,δ=[.v (pairD x),.v (.list (cells.map pairD)),.v (.list (P.map pairD)),.v (.list (N.map pairD))]/\Srw cells x P/\m=2*(cells.length - P.length)+(if N.isEmpty=true then 0 else 1)) _ ⟨[x],[x],rfl,⟨by simp,λp hp=>by rw[Qy.mp hp];exact hx,.head _⟩,rfl⟩ ?_
 rintro m δ ⟨P,N,rfl,hs,rfl⟩;have lP:=hs.len nc;refine⟨trivial,?_⟩;show if(!(N.map pairD).isEmpty)=true then _ else _
 rw[QvA];cases eN:N.isEmpty with
 |false=>
  refine QhT (λd=>if(λo:Int×Int => !decide (o∈P)&&N.any λq=>adjP o q) (toP d)=true then some d else none) (λd hd k1 k2 h1 h2=>?_) ?_
  ·obtain⟨o,_,rfl⟩:=Qw.mp hd;have h1:(if(!decide (o∈P)&&N.any λq=>adjP o q)=true then some (pairD o) else none)=none->k1:=h1;have h2:∀e,(if(!decide (o∈P)&&N.any λq=>adjP o q)=true then some (pairD o) else none)=some e->k2 e:=h2
   refine⟨⟨ZK P,rfl,by have:=ZI o;omega⟩,?_⟩;show if(!((P.map pairD).any λe=>QY e (pairD o)))=true then _ else _
   rw[YE];cases z1:(!decide (o∈P)) with
   |true=>
    rw[z1,Qbe] at h1 h2;refine⟨_,_,rfl,?_⟩;show if(N.any λq=>adjP o q)=true then k2 (pairD o) else k1
    by_cases z:(N.any λq=>adjP o q)=true
    ·rw[if_pos z];exact h2 _ (if_pos z)
    ·rw[if_neg z];exact h1 (if_neg z)
   |false=>rw[z1] at h1;exact h1 rfl
  ·rw[Qdr (λo:Int×Int => !decide (o∈P)&&N.any λq=>adjP o q)];have st:=hs.step (N:=N) nc;have lQ:=st.len nc;rw[Qj] at lQ;generalize (cells.filter λo => !decide (o∈P)&&N.any λq=>adjP o q)=Q at st lQ;refine⟨by rw[Qc,Qc];omega,_,?_,P++Q,Q,?_,st,rfl⟩
   ·rw[Qj];cases Q with
    |nil=>
     show 2*(cells.length - (P.length+0))+0<2*(cells.length - P.length)+1;omega
    |cons a b=>
     rw[Qu] at lQ ⊢;show 2*(cells.length - (P.length+(b.length+1)))+1<2*(cells.length - P.length)+1;omega
   ·rw[Je];rfl
 |true=>
  exact sortP_of hs.nd (by omega) (λp hp=>sb.2.2 p (hs.sub p hp)) λM pM pw=>hR M (pM.mem_iff.mpr hs.has)
theorem QkE:(["cell", "piece"]:List Str).Nodup:=by decide
theorem QmN(F:DefC P w K mg base "pieces" QlX)(T:GlbA mg)
  (c1:Cal P w K mg base CX0 2 "piece_with" (ZN false Qmr)) :
  Cal P w K mg base CX0 3 "pieces" (ZN true QjC):=by
 refine okq ["board", "told", "left", "piece"] 1 true F λcdv A outer s H E nD hr hU hI=>?_
 refine⟨_,QF (QdJ 1 (QcG Ja) nD)
  (QF (Z8 2 (JV (ZQ QbQ QiQ (by rfl) T.list QiS (Qdb (Q9 (QaO JO Zx (qp 0) (Q9 Jo) (λ_ _=>rfl))) Ja))) nD)
  (QF (Qgr J3 (QfP (qp 2))
   (QF (Z8 3 (Qa9 c1 hr (Yz (QaO JO Zx (qp 2) (Q9 Jo) (λ_ _=>rfl)) (Yz (qv 2) Zi))) nD)
  (QF (Qxr 1 (qv 3))
  (Jf (QtQ ["cell", "piece"] [none,some 3] 2 nD (Qgs (qp 2)) (λcl ex s3 H3 C=>⟨(YK 0 QkE rfl (Qx rfl) (QL rfl)),(QbM (ZA QbF (QeR hI) (qp 0) (qp 1) (by rfl))),(qv 0)⟩))))))
  (Jf (Qit 1)))),λargs R EX h=>?_⟩
 obtain⟨h,w,cs,rfl,sb,hR⟩:=h;refine⟨_,Q3 (j:=2) rfl,?_⟩;refine Qlr (λm δ=>∃T left ds x3,δ=[.v (bdD h w cs),.own ds,.v (.list (left.map pairD)),x3]/\ds=T.map stT/\left.Sublist cs/\m=left.length/\T.length+left.length<=cs.length) _ ⟨[],cs,_,_,rfl,rfl,List.Sublist.refl _,rfl,by show 0+_<=_;omega⟩ ?_
 rintro m δ ⟨Tt,left,ds,x3,rfl,rfl,hw,rfl,hl⟩;refine⟨trivial,?_⟩;cases left with
 |nil=>exact hR Tt (by simpa using hl)
 |cons x left=>
  refine ifT rfl ⟨_,Q3 (j:=0) rfl,x,x::left,rfl,.head _,?_,λM xM=>?_⟩
  ·have l36:=sb.2.1;exact⟨sb.1.sublist hw,by omega,λp hp=>sb.2.2 p (hw.subset hp)⟩
  ·have l36:=sb.2.1;refine⟨by rw[Qc];omega,?_⟩;refine QhT (λd=>if(λc:Int×Int => !decide (c∈M)) (toP d)=true then some d else none) (λd hd k1 k2 h1 h2=>?_) ?_
   ·obtain⟨o,_,rfl⟩:=Qw.mp (show d∈(x::left).map pairD from hd);have h1:(if(!decide (o∈M))=true then some (pairD o) else none)=none->k1:=h1;have h2:∀e,(if(!decide (o∈M))=true then some (pairD o) else none)=some e->k2 e:=h2
    refine⟨⟨ZK M,rfl,by have:=ZI o;omega⟩,?_⟩;show if(!((M.map pairD).any λe=>QY e (pairD o)))=true then _ else _
    rw[YE];by_cases z:(!decide (o∈M))=true
    ·rw[if_pos z];exact h2 _ (if_pos z)
    ·rw[if_neg z];exact h1 (if_neg z)
   ·have er:=Qdr (λc:Int×Int => !decide (c∈M)) (x::left);have e1:(x::left).filter (λc => !decide (c∈M))=left.filter λc => !decide (c∈M):=Qci (by simpa using xM)
    have l1:=Yx (λc:Int×Int => !decide (c∈M)) left;rw[Qu] at hl;refine⟨_,?_,Tt++[M],(x::left).filter (λc => !decide (c∈M)),_,_,by rw[<- er];rfl,by rw[Je];rfl,Qof.trans hw,rfl,?_⟩
    ·rw[e1,Qu];omega
    ·rw[e1,Qj];show _+1+_<=_;omega
abbrev QyQ:J7:=top 65
abbrev QsU:J7:=top 66
abbrev QyO:J7:=top 67
abbrev QyW:J7:=top 68
abbrev QsT:J7:=top 69
abbrev QsV:J7:=top 70
abbrev QsS:J7:=top 71
abbrev QlI:J7:=top 72
abbrev Qjg:J7:=top 73
abbrev QrS:J7:=top 74
abbrev QlD:J7:=top 75
abbrev Qjf:J7:=top 76
abbrev Qw4:J7:=top 80
def Qrz(C:Addr)(xc:Str->Addr)(H:Hp)(Q:VK)(E:XK)(b l:Addr)(es:List Bo)(k:Bo)(d:Deed):Prop:=
 (∀wd,QdT d es k=some wd->∀H',Same H H'->E (.ref (xc wd)) none H')/\(QdT d es k=none->∀H',K2 b l H H'->BnAt C H' b l (QdE d es k).1 (QdE d es k).2->Q (.str "ok") H')
def Qjk(C:Addr)(xc:Str->Addr)(mk:Qb->Qb->Deed):Sp:=λvs H Q E=>∃(b l:Addr)(es:List Bo)(k:Bo)(x y:V)(dx dy:Qb),vs=[.ref b,x,y]/\BnAt C H b l es k/\k.ok/\es.length<=1000/\DA N0 H x dx/\DA N0 H y dy/\Qrz C xc H Q E b l es k (mk dx dy)
def QcA(C:Addr)(xc:Str->Addr)(d:Deed):Sp:=λvs H Q E=>∃(b l:Addr)(es:List Bo)(k:Bo),vs=[.ref b]/\BnAt C H b l es k/\k.ok/\es.length<=1000/\Qrz C xc H Q E b l es k d
def Qcz(C:Addr)(R:Bo->Str->Prop):Sp:=λvs H Q _=>∃(b l:Addr)(es:List Bo)(k:Bo),vs=[.ref b]/\BnAt C H b l es k/\k.ok/\∀t H',R k t->Same H H'->Q (.str t) H'
def Qla(_:Bo)(_:Str):Prop:=True
theorem Qy5{k:Bo}(o:k.ok):SB2 (Qv k.h k.w k.f):=⟨pw_cellsF k.w k.f k.h,Qt (Z9 k.w k.f k.h) (ZX o.h6 o.w6),λp hp=>by
 have:=YD hp;have:=o.w6;omega⟩
theorem QBp{k:Bo}(o:k.ok):GB k.h k.w (Qv k.h k.w k.f):=QCP k.f o.h6 o.w6
theorem Qcd{n:Int}(h0:0<=n)(h:n<1920):n.natAbs.log2<1920:=Jt (Qv8 _) (by omega)
def QnK(p:Int×Int):Str:=Qc2++Qe (toString p.1)++Qe "-" ++ Qe (toString p.2)
theorem Qv0{cs:List (Int×Int)}{h:Nat}:∀(i t k:Nat),0<=Wc cs h i t k/\Wc cs h i t k<=((cs.length+1)^i:Nat)
 |0,t,k=>by
  show 0<=(if k=0 then(1:Int) else 0)/\(if k=0 then(1:Int) else 0)<=((cs.length+1)^0:Nat);rw[Nat.pow_zero];split<;>decide
 |i+1,t,k=>by
  have su:∀cols:List Nat,0<=Qip (Wc cs h i) t cols (k - 1)/\Qip (Wc cs h i) t cols (k - 1)<=(cols.length*(cs.length+1)^i:Nat):=λcols=>by
   induction cols with
   |nil=>exact⟨Qg5 _,by show(0:Int)<=_;omega⟩
   |cons c cs' ih=>
    have w:=Qv0 (cs:=cs) (h:=h) i (t ||| 2^c) (k - 1);show 0<=(if t.testBit c=true then 0 else Wc cs h i (t ||| 2^c) (k - 1))+Qip (Wc cs h i) t cs' (k - 1)/\(if t.testBit c=true then 0 else Wc cs h i (t ||| 2^c) (k - 1))+Qip (Wc cs h i) t cs' (k - 1)<=_;rw[Qu,QfG];split<;>omega
  have lc:(QkV cs (h - 1 - i)).length<=cs.length:=by
   unfold QkV Qia;rw[Qc];exact Yx _ _
  have w:=Qv0 (cs:=cs) (h:=h) i t k;have s:=su (QkV cs (h - 1 - i));have m:=Qoe ((cs.length+1)^i) lc;show 0<=Wc cs h i t k+(if k=0 then 0 else Qip (Wc cs h i) t (QkV cs (h - 1 - i)) (k - 1))/\Wc cs h i t k+(if k=0 then 0 else Qip (Wc cs h i) t (QkV cs (h - 1 - i)) (k - 1))<=_;rw[Nat.pow_succ,Nat.mul_succ,Nat.mul_comm _ cs.length];split<;>omega
theorem Qy2{f:Nat->Nat->Bool}{h w:Nat}(h6:h<=6)(w6:w<=6):∀n∈cIw f h w,0<=n/\n<=9000000000:=λn hn=>by
 unfold cIw at hn;obtain⟨k,_,rfl⟩:=Qw.mp hn;have e:=Qv0 (cs:=Qv h w f) (h:=h) h 0 k;have l:(Qv h w f).length+1<=37:=Qv6 (Qt (Z9 w f h) (ZX h6 w6));have p:((Qv h w f).length+1)^h<=37^6:=Qt (Qov l h) (Z5 (by decide) h6);omega
theorem QcK{n:Int}(h0:0<=n)(h:n<10^10):(Qe (toString n)).length<=34:=by
 obtain⟨m,rfl⟩:∃m:Nat,n=(m:Int):=⟨n.toNat,(Qeh h0).symm⟩
 have e:=PySem.nat_repr_length_le (n:=m) (k:=34) (by decide) (by omega);have e2:m.repr.length=(Nat.toDigits 10 m).length:=by simp[Nat.repr]
 have e3:(Qe (toString (m:Int))).length=(Nat.toDigits 10 m).length:=by
  show(Qe (toString (m:Int))).cps.size=_;rw[<- Jh,PySem.W.KIN.signs_num,Qc]
 omega
theorem Qvg{n:Int}(h0:0<=n)(h:n<=9000000000):n.natAbs.log2<1920:=by
 by_cases z:n.natAbs=0
 ·rw[z];decide
 ·exact(Qow z).mpr (Jt (show n.natAbs<=9000000000 by omega) (by decide))
theorem fmS{α β:Type}(f:α->β)(l:List α):l.filterMap (λi=>some (f i))=l.map f:=by
 rw[List.filterMap_eq_map']
theorem QeX{α β:Type}(g:α->β)(d:α)(l:List α):(QN l.length).map (λi=>g (l.getD i d))=l.map g:=by
 refine List.ext_getElem (by simp) λi h1 h2=>?_
 rw[Qc,Q5] at h1;rw[Qct,Qct,List.getElem_range,Qg,Qd h1];rfl
theorem Qrs{p:Int×Int}(h:0<=p.1/\p.1<6/\0<=p.2/\p.2<6):(QnK p).length<=70:=by
 have ll:∀x y:Str,(x++y).length=x.length+y.length:=λx y=>by
  show(x++y).cps.size=_;rw[QdW,Qoy];rfl
 have e1:=QcK (n:=p.1) h.1 (by omega);have e2:=QcK (n:=p.2) h.2.2.1 (by omega);unfold QnK;rw[ll,ll,ll,show Qc2.length=0 from rfl,show(Qe "-").length=1 by decide];omega
theorem QpT:(["many"]:List Str).Nodup:=by decide
theorem Qsv:(["row", "column"]:List Str).Nodup:=by decide
theorem QuY{C:Addr}(F:DefC P w K mg base "put_cell" QyQ)(Tg:GlbA mg)(T:Bcl K C){xc:Str->Addr}{tD:_}(mD:mg "DONE" = some (.str "ok" tD))
  (D:CalM P w K mg base (Rx.CXE P w) 5 C "put" (QoK C xc .put)) :
  Cal P w K mg base (Rx.CXE P w) 6 "put_cell" (Qjk C xc .put):=by
 refine okx ["bench", "row", "column"] 3 F λcdv A outer s H vs Q E nD hr h=>?_
 obtain⟨b,l,es,k,x,y,x',y',rfl,B,o,hl,hx,hy,po⟩:=h;refine⟨_,Qr (Zf (QaK (pv 0) T.cl D hr (Rx.QcJ (E:=E) (λ_ _ h=>h) rfl rfl rfl) (Qk (pv 1) (Qk (pv 2) Qq)))) (QQ (JI (ZL (v:=.str "ok") (by rfl) mD ⟨_,rfl⟩))),?_⟩;obtain⟨dx,kv,xs,e1,e2,d1,d2⟩:=B.at_;exact⟨_,rfl,b,dx,_,rfl,e1,Y7 _ _ (by decide) (by decide),_,rfl,_,rfl,b,l,es,k,x,y,x',y',rfl,B,o,hl,hx,hy,po.1,λhn H' k1 B1=>po.2 hn H' k1 B1⟩
theorem QpF{C:Addr}(F:DefC P w K mg base "take_cell" QsU)(Tg:GlbA mg)(T:Bcl K C){xc:Str->Addr}{tD:_}(mD:mg "DONE" = some (.str "ok" tD))
  (D:CalM P w K mg base (Rx.CXE P w) 6 C "take" (QoK C xc .take)) :
  Cal P w K mg base (Rx.CXE P w) 7 "take_cell" (Qjk C xc .take):=by
 refine okx ["bench", "row", "column"] 3 F λcdv A outer s H vs Q E nD hr h=>?_
 obtain⟨b,l,es,k,x,y,x',y',rfl,B,o,hl,hx,hy,po⟩:=h;refine⟨_,Qr (Zf (QaK (pv 0) T.cl D hr (Rx.QcJ (E:=E) (λ_ _ h=>h) rfl rfl rfl) (Qk (pv 1) (Qk (pv 2) Qq)))) (QQ (JI (ZL (v:=.str "ok") (by rfl) mD ⟨_,rfl⟩))),?_⟩;obtain⟨dx,kv,xs,e1,e2,d1,d2⟩:=B.at_;exact⟨_,rfl,b,dx,_,rfl,e1,Y7 _ _ (by decide) (by decide),_,rfl,_,rfl,b,l,es,k,x,y,x',y',rfl,B,o,hl,hx,hy,po.1,λhn H' k1 B1=>po.2 hn H' k1 B1⟩
theorem QuX{C:Addr}(F:DefC P w K mg base "put_row" QyO)(Tg:GlbA mg)(T:Bcl K C){xc:Str->Addr}{tD:_}(mD:mg "DONE" = some (.str "ok" tD))
  (D:CalM P w K mg base (Rx.CXE P w) 3 C "row" (Qfz C xc .row)) :
  Cal P w K mg base (Rx.CXE P w) 4 "put_row" (QcA C xc .row):=by
 refine okx ["bench"] 1 F λcdv A outer s H vs Q E nD hr h=>?_
 obtain⟨b,l,es,k,rfl,B,o,hl,po⟩:=h;refine⟨_,Qr (Zf (Yn (pv 0) T.cl D hr (Rx.QcJ (E:=E) (λ_ _ h=>h) rfl rfl rfl))) (QQ (JI (ZL (v:=.str "ok") (by rfl) mD ⟨_,rfl⟩))),?_⟩;obtain⟨dx,kv,xs,e1,e2,d1,d2⟩:=B.at_;exact⟨_,rfl,b,dx,_,rfl,e1,Y7 _ _ (by decide) (by decide),b,l,es,k,rfl,B,o,hl,po.1,λhn H' k1 B1=>po.2 hn H' k1 B1⟩
theorem QuZ{C:Addr}(F:DefC P w K mg base "put_column" QyW)(Tg:GlbA mg)(T:Bcl K C){xc:Str->Addr}{tD:_}(mD:mg "DONE" = some (.str "ok" tD))
  (D:CalM P w K mg base (Rx.CXE P w) 3 C "column" (Qfz C xc .col)) :
  Cal P w K mg base (Rx.CXE P w) 4 "put_column" (QcA C xc .col):=by
 refine okx ["bench"] 1 F λcdv A outer s H vs Q E nD hr h=>?_
 obtain⟨b,l,es,k,rfl,B,o,hl,po⟩:=h;refine⟨_,Qr (Zf (Yn (pv 0) T.cl D hr (Rx.QcJ (E:=E) (λ_ _ h=>h) rfl rfl rfl))) (QQ (JI (ZL (v:=.str "ok") (by rfl) mD ⟨_,rfl⟩))),?_⟩;obtain⟨dx,kv,xs,e1,e2,d1,d2⟩:=B.at_;exact⟨_,rfl,b,dx,_,rfl,e1,Y7 _ _ (by decide) (by decide),b,l,es,k,rfl,B,o,hl,po.1,λhn H' k1 B1=>po.2 hn H' k1 B1⟩
theorem QpE{C:Addr}(F:DefC P w K mg base "turn_board" QsT)(Tg:GlbA mg)(T:Bcl K C){xc:Str->Addr}{tD:_}(mD:mg "DONE" = some (.str "ok" tD))
  (D:CalM P w K mg base (Rx.CXE P w) 3 C "turn" (Qfz C xc .turn)) :
  Cal P w K mg base (Rx.CXE P w) 4 "turn_board" (QcA C xc .turn):=by
 refine okx ["bench"] 1 F λcdv A outer s H vs Q E nD hr h=>?_
 obtain⟨b,l,es,k,rfl,B,o,hl,po⟩:=h;refine⟨_,Qr (Zf (Yn (pv 0) T.cl D hr (Rx.QcJ (E:=E) (λ_ _ h=>h) rfl rfl rfl))) (QQ (JI (ZL (v:=.str "ok") (by rfl) mD ⟨_,rfl⟩))),?_⟩;obtain⟨dx,kv,xs,e1,e2,d1,d2⟩:=B.at_;exact⟨_,rfl,b,dx,_,rfl,e1,Y7 _ _ (by decide) (by decide),b,l,es,k,rfl,B,o,hl,po.1,λhn H' k1 B1=>po.2 hn H' k1 B1⟩
theorem QpG{C:Addr}(F:DefC P w K mg base "put_rest" QsV)(Tg:GlbA mg)(T:Bcl K C){xc:Str->Addr}{tD:_}(mD:mg "DONE" = some (.str "ok" tD))
  (D:CalM P w K mg base (Rx.CXE P w) 2 C "rest" (Qfz C xc .rest)) :
  Cal P w K mg base (Rx.CXE P w) 3 "put_rest" (QcA C xc .rest):=by
 refine okx ["bench"] 1 F λcdv A outer s H vs Q E nD hr h=>?_
 obtain⟨b,l,es,k,rfl,B,o,hl,po⟩:=h;refine⟨_,Qr (Zf (Yn (pv 0) T.cl D hr (Rx.QcJ (E:=E) (λ_ _ h=>h) rfl rfl rfl))) (QQ (JI (ZL (v:=.str "ok") (by rfl) mD ⟨_,rfl⟩))),?_⟩;obtain⟨dx,kv,xs,e1,e2,d1,d2⟩:=B.at_;exact⟨_,rfl,b,dx,_,rfl,e1,Y7 _ _ (by decide) (by decide),b,l,es,k,rfl,B,o,hl,po.1,λhn H' k1 B1=>po.2 hn H' k1 B1⟩
theorem QpD{C:Addr}(F:DefC P w K mg base "undo_deed" QsS)(Tg:GlbA mg)(T:Bcl K C){xc:Str->Addr}{tD:_}(mD:mg "DONE" = some (.str "ok" tD))
  (D:CalM P w K mg base (Rx.CXE P w) 1 C "undo" (Qfz C xc .undo)) :
  Cal P w K mg base (Rx.CXE P w) 2 "undo_deed" (QcA C xc .undo):=by
 refine okx ["bench"] 1 F λcdv A outer s H vs Q E nD hr h=>?_
 obtain⟨b,l,es,k,rfl,B,o,hl,po⟩:=h;refine⟨_,Qr (Zf (Yn (pv 0) T.cl D hr (Rx.QcJ (E:=E) (λ_ _ h=>h) rfl rfl rfl))) (QQ (JI (ZL (v:=.str "ok") (by rfl) mD ⟨_,rfl⟩))),?_⟩;obtain⟨dx,kv,xs,e1,e2,d1,d2⟩:=B.at_;exact⟨_,rfl,b,dx,_,rfl,e1,Y7 _ _ (by decide) (by decide),b,l,es,k,rfl,B,o,hl,po.1,λhn H' k1 B1=>po.2 hn H' k1 B1⟩
theorem Qpv{C:Addr}(F:DefC P w K mg base "tell_most" QrS)(Tg:GlbA mg)(T:Bcl K C)
  (D:CalM P w K mg base CX0 5 C "most" (QlR C)) :
  Cal P w K mg base CX0 6 "tell_most" (Qcz C Qla):=by
 refine okv ["bench"] 1 F λcdv A outer s H vs Q E nD hr h=>?_
 obtain⟨b,l,es,k,rfl,B,o,q⟩:=h;refine⟨_,QQ (JI (ZT Qax (by rfl) Tg.str Qff (Qk (Yn (pv 0) T.cl D hr Qdf) Qq))),?_⟩;obtain⟨dx,kv,xs,e1,e2,d1,d2⟩:=B.at_;refine⟨_,rfl,b,dx,_,rfl,e1,Y7 _ _ (by decide) (by decide),b,l,es,k,rfl,B,o,λm H' g s'=>⟨(m:Int),rfl,?_,q _ H' trivial s'⟩⟩;have h6:=o.h6;have hm:m<=6:=by have:=g.1;omega
 exact Jt (Qv8 _) (by show(m:Int).natAbs<1920;omega)
theorem QuI{C:Addr}(F:DefC P w K mg base "tell_pieces" Qjf)(Tg:GlbA mg)(T:Bcl K C)
  (D:CalM P w K mg base CX0 1 C "board" (Qgl C))
   (c1:Cal P w K mg base CX0 3 "pieces" (ZN true QjC)) :
  Cal P w K mg base CX0 4 "tell_pieces" (Qcz C Qla):=by
 refine okv ["bench"] 1 F λcdv A outer s H vs Q E nD hr h=>?_
 obtain⟨b,l,es,k,rfl,B,o,q⟩:=h;refine⟨_,QQ (JI (ZT Qax (by rfl) Tg.str Qff (Qk (ZD Z0 (by rfl) Tg.len Qbm (Qk (Zj c1 hr (Qk (Yn (pv 0) T.cl D hr Qdf) Qq)) Qq)) Qq))),?_⟩;obtain⟨dx,kv,xs,e1,e2,d1,d2⟩:=B.at_;refine⟨_,rfl,b,dx,_,rfl,e1,Y7 _ _ (by decide) (by decide),b,l,es,k,rfl,B,λv q1=>?_⟩;refine spD (args:=[.v k.d]) (λd=>∃Tt:List (List (Int×Int)),Tt.length<=(Qv k.h k.w k.f).length/\d=.list (Tt.map stT)) XF (.cons q1 .nil) ⟨_,_,_,rfl,Qy5 o,λTt h4=>⟨Tt,h4,rfl⟩⟩ (λd hd v' H' s' dv _=>?_) λ_ z=>z.elim
 obtain⟨Tt,h4,rfl⟩:=hd;cases dv with
 |@lst t ys _ _ e qq=>
  have ly:ys.length=Tt.length:=by rw[qq.length,Qc]
  have l36:=(Qy5 o).2.1;refine⟨t,ys,rfl,.inl (SqL.of e),((ys.length:Nat):Int),rfl,Qcd (by omega) (by omega),q _ H' trivial s'⟩
theorem QuJ{C:Addr}(F:DefC P w K mg base "tell_counts" Qjg)(Tg:GlbA mg)(T:Bcl K C){tB:_}(mBl:mg "BLANK" = some (.str " " tB))
  (D:CalM P w K mg base CX0 4 C "counts" (Qjn C)) :
  Cal P w K mg base CX0 5 "tell_counts" (Qcz C Qla):=by
 refine okv ["bench"] 1 F λcdv A outer s H vs Q E nD hr h=>?_
 obtain⟨b,l,es,k,rfl,B,o,q⟩:=h;refine⟨_,QQ (JI (Qbb PySem.F.plainAttrs_str PySem.F.slot_str_join PySem.F.type_str_join QbN (ZL (v:=.str " ") (by rfl) mBl ⟨_,rfl⟩) (Qk (Y3 (M:=["many"]) (cap:=[none]) (g:=Qbc 0) (tc:=QaR) (te:=tCB (λxs H Q=>∃i:Int,xs=[.int i]/\i.natAbs.log2<1920/\Q (.str (toString i)) H) (Qae (Qbq 0) Qej)) rfl (by rfl) (QcH (Yn (pv 0) T.cl D hr Qdf)) (λcl ex s3 H3 C=>⟨Yv (i:=0) QpT rfl (Qx rfl) (QL rfl),QaV,ZT Qax (by rfl) Tg.str Qff (Qk (pv 0) Qq)⟩)) Qq))),?_⟩;obtain⟨dx,kv,xs,e1,e2,d1,d2⟩:=B.at_;refine⟨rfl,_,rfl,b,dx,_,rfl,e1,Y7 _ _ (by decide) (by decide),b,l,es,k,rfl,B,o,λt H1 s1 n1 a1=>⟨t,rfl,⟨_,SqL.of a1⟩,λp hp=>?_⟩⟩;have lc:(cIw k.f k.h k.w).length=min k.h k.w+1:=by unfold cIw;rw[Qc,Q5]
 have h6:=o.h6;have nn:=Qy2 (f:=k.f) o.h6 o.w6;have at_:∀i,i<(cIw k.f k.h k.w).length->((cIw k.f k.h k.w).map V.int)[i]? = some (.int ((cIw k.f k.h k.w).getD i 0)):=λi hi=>by
  rw[Qz,Qg,Qd hi];rfl
 have gm:∀i,i<(cIw k.f k.h k.w).length->(cIw k.f k.h k.w).getD i 0∈cIw k.f k.h k.w:=λi hi=>by
  rw[Qg,Qd hi];exact Jz _
 refine Y6 (cIw k.f k.h k.w).length (ZB (by omega)) (λi=>some (.str (Qe (toString ((cIw k.f k.h k.w).getD i 0))))) hp (λi H2 hi s2=>?_) (λH2 s2=>?_) λH2 s2 e3=>?_
 ·refine⟨⟨_,_,SqL.of (s2 _ _ a1),at_ i hi⟩,λx H3 ⟨eH,ev⟩ kn kv h1 h2=>?_⟩;subst eH;have ex:=ev _ (SqL.of (s2 _ _ a1));rw[at_ i hi] at ex;cases ex;refine⟨trivial,?_⟩;refine(QbZ (B:=kn H3) ?_:if true=true then _ else kn H3);have nb:=nn _ (gm i hi);exact⟨_,rfl,_,rfl,Qvg nb.1 nb.2,h2 _ rfl H3 λ_ _ z=>z⟩
 ·exact⟨_,SqL.of (s2 _ _ a1),by rw[Qc];exact Qf _⟩
 ·rw[fmS] at e3;have e4:H2 p=some (.lst (((cIw k.f k.h k.w).map λn=>Qe (toString n)).map V.str)):=by
   rw[e3,Q8];exact congrArg (λz=>some (HO.lst z)) (QeX (λn=>V.str (Qe (toString n))) 0 (cIw k.f k.h k.w))
  refine⟨_,p,_,rfl,rfl,SqL.of e4,QdP (B:=34) (λy hy=>?_) ?_,q _ H2 trivial (s1.trans s2)⟩
  ·obtain⟨n,hn,rfl⟩:=Qw.mp hy;have nb:=nn n hn;exact QcK nb.1 (by omega)
  ·rw[Qc,lc];show _*34+_*1<=_;omega
theorem QuH{C:Addr}(F:DefC P w K mg base "tell_stand" QlD)(Tg:GlbA mg)(T:Bcl K C){tB:_}(mBl:mg "BLANK" = some (.str " " tB)){tN:_}(mNo:mg "NO_CELLS" = some (.str "none" tN))
  (D:CalM P w K mg base CX0 1 C "board" (Qgl C))
  (D1:CalM P w K mg base CX0 5 C "most" (QlR C))
   (c1:Cal P w K mg base CX0 4 "stand_at" (ZN false Qjj)) :
  Cal P w K mg base CX0 6 "tell_stand" (Qcz C Qla):=by
 refine okv ["bench", "stand"] 1 F λcdv A outer s H vs Q E nD hr h=>?_
 obtain⟨b,l,es,k,rfl,B,o,q⟩:=h;refine⟨_,Qr (Qba 1 nD (Zj c1 hr (Qk (Yn (pv 0) T.cl D hr Qdf) (Qk (Yn (pv 0) T.cl D1 hr Qdf) (Qk Jd Qq)))))
  (Qr (Qat (Qhv (Qeu (pv 1) (λ_=>rfl))) (QQ (JI (ZL (v:=.str "none") (by rfl) mNo ⟨_,rfl⟩))) Zs)
  (QQ (JI (Qbb PySem.F.plainAttrs_str PySem.F.slot_str_join PySem.F.type_str_join QbN (ZL (v:=.str " ") (by rfl) mBl ⟨_,rfl⟩) (Qk (Y3 (M:=["row", "column"]) (cap:=[none,none]) (g:=QA8 K 2 (Qrc (Qbc 0) (Qrc (Qbc 1) QA9))) (tc:=QaR) (te:=tF2 "-" (Qbq 0) (Qbq 1)) rfl (by rfl) (Qsk (pv 1)) (λcl ex s3 H3 C=>⟨QeO rfl (ZR (Yv (i:=0) Qsv rfl (Qx rfl) (QL rfl)) (ZR (Yv (i:=1) Qsv rfl (Qx rfl) (QL rfl)) QcI)),QaV,QAC (pv 0) (pv 1)⟩)) Qq))))),?_⟩
 obtain⟨dx,kv,xs,e1,e2,d1,d2⟩:=B.at_;refine⟨_,rfl,b,dx,_,rfl,e1,Y7 _ _ (by decide) (by decide),b,l,es,k,rfl,B,λv q1=>⟨_,rfl,b,dx,_,rfl,e1,Y7 _ _ (by decide) (by decide),b,l,es,k,rfl,B,o,λm H1 gm s1=>?_⟩⟩;refine spD (args:=[.v k.d,.v (.int m),.v (.int 0)]) (λd=>∃L:List (Int×Int),d=stT L/\L.length=m/\∀p∈L,p∈Qv k.h k.w k.f) XF (.cons (DA.same q1 s1) (.cons (.int _) (.cons (.int _) .nil))) ⟨k.h,k.w,_,m,rfl,QBp o,gm.1,gm.2,λL l1 l2=>⟨L,rfl,l1,l2⟩⟩ (λd hd v' H2 s2 dv _=>?_) λ_ z=>z.elim
 obtain⟨L,rfl,lL,iL⟩:=hd;have bL:∀p∈L,0<=p.1/\p.1<6/\0<=p.2/\p.2<6:=λp hp=>by
  have:=YD (iL p hp);have:=o.h6;have:=o.w6;omega
 have s12:=s1.trans s2;have h6:=o.h6;have m6:m<=6:=by have:=gm.1;omega
 obtain⟨a,ps,rfl,ea,dp⟩:∃a ps,v'=.ref a/\H2 a=some (.tup ps)/\DAs N0 H2 ps (L.map pairD):=by
  cases dv with
  |tup _ e qq=>exact⟨_,_,rfl,e,qq⟩
 have lp:ps.length=L.length:=by rw[dp.length,Qc]
 refine⟨_,rfl,!ps.isEmpty,.inr (.inl ⟨ps,SqT.of ea,rfl⟩),?_⟩;cases eP:ps.isEmpty with
 |true=>
  exact q _ H2 trivial s12
 |false=>
  show if(false:Bool)=true then _ else _
  refine Qb0 ?_
  refine⟨rfl,_,rfl,a,rfl,⟨_,SqT.of ea⟩,λp hp=>?_⟩;have cel:∀i,i<L.length->∃c,ps[i]? = some (.ref c)/\H2 c=some (.tup [.int (L.getD i (0,0)).1,.int (L.getD i (0,0)).2]):=λi hi=>by
   obtain⟨x,hx,dx'⟩:=dp.get i (pairD (L.getD i (0,0))) (by rw[Qz,Qg,Qd hi];rfl);cases dx' with
   |tup _ e qq=>cases qq with
    |cons qa qq=>cases qq with
     |cons qb qq=>cases qq;cases qa;cases qb;exact⟨_,hx,e⟩
  have gL:∀i,i<L.length->L.getD i (0,0)∈L:=λi hi=>by
   rw[Qg,Qd hi];exact Jz _
  refine Y6 L.length (ZB (by omega)) (λi=>some (.str (QnK (L.getD i (0,0))))) hp (λi H3 hi s3=>?_) (λH3 s3=>?_) λH3 s3 e3=>?_
  ·obtain⟨c,hc,ec⟩:=cel i hi;refine⟨⟨_,_,SqT.of (s3 _ _ ea),hc⟩,λx H4 ⟨eH,ev⟩ kn kv h1 h2=>?_⟩;subst eH;have ex:=ev _ (SqT.of (s3 _ _ ea));rw[hc] at ex;cases ex;have bd:=bL _ (gL i hi);have n1:=QcK (n:=(L.getD i (0,0)).1) bd.1 (by omega);have n2:=QcK (n:=(L.getD i (0,0)).2) bd.2.2.1 (by omega);refine⟨c,_,rfl,SqT.of (s3 _ _ ec),rfl,_,_,rfl,_,_,rfl,rfl,trivial,?_⟩;refine(QbZ (B:=kn H4) ?_:if true=true then _ else kn H4);exact⟨_,rfl,_,rfl,Qcd bd.1 (by omega),by rw[show(Qe "-").length=1 by decide];omega,_,rfl,_,rfl,Qcd bd.2.2.1 (by omega),by omega,h2 _ rfl H4 λ_ _ z=>z⟩
  ·exact⟨_,SqT.of (s3 _ _ ea),by omega⟩
  ·rw[fmS] at e3;have e4:H3 p=some (.lst ((L.map QnK).map V.str)):=by
    rw[e3,Q8];exact congrArg (λz=>some (HO.lst z)) (QeX (λn=>V.str (QnK n)) (0,0) L)
   refine⟨_,p,_,rfl,rfl,SqL.of e4,QdP (B:=70) (λy hy=>?_) ?_,q _ H3 trivial (s12.trans s3)⟩
   ·obtain⟨n,hn,rfl⟩:=Qw.mp hy;exact Qrs (bL n hn)
   ·rw[Qc,lL];show _*70+_*1<=_;omega
abbrev Qw1:J7:=top 58
abbrev Qw0:J7:=top 59
def Qty:Sp:=λvs H Q _=>∃(v:V)(k:Bo)(r:Nat),vs=[v,.int r]/\DA N0 H v k.d/\k.ok/\∀H',Same H H'->Q (.str (Qr8 (Qv k.h k.w k.f) k.w r)) H'
def QwV:Sp:=λvs H Q _=>∃(v:V)(k:Bo),vs=[v]/\DA N0 H v k.d/\k.ok/\∀H',Same H H'->Q (.str (Qg9 k.h k.w (Qv k.h k.w k.f))) H'
def QAi(k:Bo)(t:Str):Prop:=t=Qg9 k.h k.w (Qv k.h k.w k.f)
theorem Qyk:(["column", "board", "row"]:List Str).Nodup:=by decide
theorem QAR:(["row", "board"]:List Str).Nodup:=by decide
theorem Qx8(F:DefC P w K mg base "written_row" Qw0)(Tg:GlbA mg){uC uO:_}(mC:mg "CELL" = some (.str csH uC))(mO:mg "OTHER" = some (.str csO uO)) :
  Cal P w K mg base CX0 1 "written_row" Qty:=by
 refine okv ["board", "row"] 2 F λcdv A outer s H vs Q E nD hr h=>?_
 obtain⟨v,k,r,rfl,hv,o,q⟩:=h;refine⟨_,QQ (JI (Qbb PySem.F.plainAttrs_str PySem.F.slot_str_join PySem.F.type_str_join QbN Jb (Qk (Y3 (M:=["column", "board", "row"]) (cap:=[none,some 0,some 1]) (g:=Qbc 0) (tc:=QaR) (te:=(tIf (tT K E0 (dTst (dOp (inD false) (Qwk (Qbu (Qk9 2) (Qbu (Qk9 0) QnG))) (dOp ixD (dPk 1) (dC (.int 2)))))) (tC (.str csH)) (tC (.str csO)))) rfl (by rfl) (Qau (by rfl) Tg.range (Qk (Yo Qdo (pv 0) Jd (λ_ _=>rfl)) Qq)) (λcl ex s3 H3 C=>⟨Yv (i:=0) Qyk rfl (Qx rfl) (QL rfl),QaV,QjD (QT.h (E:=E0) (ZA QhD (QeR (Room.i60 hr)) (Jp (ZZ (J8 (qv 2) (J8 (qv 0) Ja)))) (Q9 (QaO JO Zx (qp 1) (Q9 Jo) (λ_ _=>rfl))) (by rfl))) (ZL (v:=.str csH) (by rfl) mC ⟨_,rfl⟩) (ZL (v:=.str csO) (by rfl) mO ⟨_,rfl⟩)⟩)) Qq))),?_⟩;obtain⟨a,c,ps,rfl,e1,e2,dc⟩:=QkW hv;have w6:=o.w6;refine⟨rfl,_,rfl,a,_,1,.int k.w,rfl,rfl,SqT.of e1,rfl,(k.w:Int),rfl,by omega,by omega,λpl hpl=>?_⟩;rw[QB];refine Y6 k.w (ZB (by omega)) (λi=>some (.str (Qek (Qv k.h k.w k.f) r i))) hpl (λi H2 hi s2=>?_) (λH2 s2=>?_) λH2 s2 e3=>?_
 ·refine⟨?_,λv H3 ⟨eH,ev⟩ kn kv h1 h2=>?_⟩
  ·show i<_;omega
  subst eH ev;refine⟨⟨rfl,rfl,trivial⟩,?_⟩;refine(QbZ (B:=kn H3) ?_:if true=true then _ else kn H3);rw[QaP];refine hyT [.v (.int i),.v k.d,.v (.int r)] (.cons ⟨_,rfl,.int _⟩ (.cons ⟨_,rfl,DA.same hv s2⟩ (.cons ⟨_,rfl,.int _⟩ .nil))) ?_
  refine⟨_,Q3 (j:=2) rfl,⟨ZK _,rfl,by have:=ZI ((r:Int),(i:Int));exact Qt (YA this) (by decide)⟩,λH4 s4=>?_⟩;show if(((Qv k.h k.w k.f).map pairD).any λe=>QY e (pairD ((r:Int),(i:Int))))=true then _ else _
  rw[YE];have h2':=h2 _ rfl H4 s4;unfold Qek at h2';by_cases hm:((r:Int),(i:Int))∈Qv k.h k.w k.f
  ·rw[decide_eq_true hm];rw[if_pos hm] at h2';exact QbZ h2'
  ·rw[decide_eq_false hm];rw[if_neg hm] at h2';exact Qb0 h2'
 ·show _<=_;omega
 ·rw[fmS] at e3;have e4:H2 pl=some (.lst (((QN k.w).map (Qek (Qv k.h k.w k.f) r)).map V.str)):=by rw[e3,Q8];rfl
  refine⟨_,pl,(QN k.w).map (Qek (Qv k.h k.w k.f) r),rfl,rfl,SqL.of e4,?_,?_⟩
  ·rw[show(Qe "" : Str)=csE from QoH];exact QeK _ w6 r
  ·have:=q H2 s2;unfold Qr8 at this;rw[show(Qe "" : Str)=csE from QoH];exact this
theorem Qx9(F:DefC P w K mg base "written" Qw1)(Tg:GlbA mg){tB:_}(mB:mg "BETWEEN" = some (.str csB tB))
   (c1:Cal P w K mg base CX0 1 "written_row" Qty) :
  Cal P w K mg base CX0 2 "written" QwV:=by
 refine okv ["board"] 1 F λcdv A outer s H vs Q E nD hr h=>?_
 obtain⟨v,k,rfl,hv,o,q⟩:=h;refine⟨_,QQ (JI (Qbb PySem.F.plainAttrs_str PySem.F.slot_str_join PySem.F.type_str_join QbN (ZL (v:=.str csB) (by rfl) mB ⟨_,rfl⟩) (Qk (Y3 (M:=["row", "board"]) (cap:=[none,some 0]) (g:=Qbc 0) (tc:=QaR) (te:=Qkr Qty [] E0 (Qae (Qbq 1) (Qae (Qbq 0) Qej))) rfl (by rfl) (Qau (by rfl) Tg.range (Qk (Yo Qdo (pv 0) Jd (λ_ _=>rfl)) Qq)) (λcl ex s3 H3 C=>⟨Yv (i:=0) QAR rfl (Qx rfl) (QL rfl),QaV,Zj c1 hr (Qk (pv 1) (Qk (pv 0) Qq))⟩)) Qq))),?_⟩;obtain⟨a,c,ps,rfl,e1,e2,dc⟩:=QkW hv;have h6:=o.h6;refine⟨rfl,_,rfl,a,_,0,.int k.h,rfl,rfl,SqT.of e1,rfl,(k.h:Int),rfl,by omega,by omega,λpl hpl=>?_⟩;rw[QB];refine Y6 k.h (ZB (by omega)) (λi=>some (.str (Qr8 (Qv k.h k.w k.f) k.w i))) hpl (λi H2 hi s2=>?_) (λH2 s2=>?_) λH2 s2 e3=>?_
 ·refine⟨?_,λv H3 ⟨eH,ev⟩ kn kv h1 h2=>?_⟩
  ·show i<_;omega
  subst eH ev;refine⟨⟨rfl,trivial⟩,?_⟩;refine(QbZ (B:=kn H3) ?_:if true=true then _ else kn H3);rw[QaP];exact⟨_,rfl,_,rfl,_,k,i,rfl,DA.same hv s2,o,λH4 s4=>h2 _ rfl H4 s4⟩
 ·show _<=_;omega
 ·rw[fmS] at e3;have e4:H2 pl=some (.lst ((QcB k.h k.w (Qv k.h k.w k.f)).map V.str)):=by unfold QcB;rw[e3,Q8];rfl
  exact⟨_,pl,_,rfl,rfl,SqL.of e4,Qdm _ h6 o.w6,q H2 s2⟩
theorem QuK{C:Addr}(F:DefC P w K mg base "tell_board" QlI)(Tg:GlbA mg)(T:Bcl K C)
  (D:CalM P w K mg base CX0 1 C "board" (Qgl C))
   (c1:Cal P w K mg base CX0 2 "written" QwV) :
  Cal P w K mg base CX0 3 "tell_board" (Qcz C QAi):=by
 refine okv ["bench"] 1 F λcdv A outer s H vs Q E nD hr h=>?_
 obtain⟨b,l,es,k,rfl,B,o,q⟩:=h;refine⟨_,QQ (JI (Zj c1 hr (Qk (Yn (pv 0) T.cl D hr Qdf) Qq))),?_⟩;obtain⟨dx,kv,xs,e1,e2,d1,d2⟩:=B.at_;exact⟨_,rfl,b,dx,_,rfl,e1,Y7 _ _ (by decide) (by decide),b,l,es,k,rfl,B,λv q1=>⟨v,k,rfl,q1,o,λH' s'=>q _ H' rfl s'⟩⟩
def nums:List Str:=(QN 100).map λ(n:Nat)=>Qe (toString (n:Int))
def QbH(z:Str):Bool:=decide (z∈nums)
def Qim(ws:List Str):Bool:=decide (ws.length=2)&&ws.all QbH
def QrW:Sp:=λvs H Q _=>∃(p:Addr)(ws:List Str),vs=[.ref p]/\H p=some (.lst (ws.map V.str))/\ws.length<=100000/\∀H',Same H H'->Q (.bl (Qim ws)) H'
theorem Qyj:(["number"]:List Str).Nodup:=by decide
theorem QAP:(["word", "known"]:List Str).Nodup:=by decide
theorem QgC(z:Str)(ts:List Str):inV (V.str z) (ts.map V.str)=decide (z∈ts):=by
 unfold inV;rw[QcY,JD,Qa1,decide_eq_true_eq];constructor
 ·rintro⟨x,hx,e⟩;have e:(x == z)=true:=e;rw[<- beq_iff_eq.mp e];exact hx
 ·intro hx;exact⟨z,hx,beq_self_eq_true z⟩
abbrev Qyt:J7:=Y4 (top 79) 0
abbrev kSay:J7:=Y4 (top 79) 1
def dfl(b:Addr):List (Str×V):=Qdc "bench" (.ref b) []
theorem QyG(b:Addr):(dfl b).lookup ("bench" : Str)=some (.ref b):=by
 unfold dfl;rw[Z2,if_pos rfl]
theorem QsO(b:Addr){m:Str}(h:¬m = "bench"):(dfl b).lookup m=none:=by
 unfold dfl;rw[Z2,if_neg h]
 all_goals rfl
structure Dcl (K:PySem.W.Frag) (D:Addr):Prop where
 cl:Cls K D
 nB:NoAttr K D "bench"
structure DkAt (D C:Addr) (H:Hp) (s b l:Addr) (es:List Bo) (k:Bo):Prop where
 dk:∃dx,H s=some (.ins D dx (dfl b))
 bn:BnAt C H b l es k
def QlS(D C:Addr):Sp:=λvs H Q _=>∃(p dx:Addr),vs=[.ref p]/\H p=some (.ins D dx [])/\∀(b l:Addr)(H':Hp),H b=none->H l=none->(∀a o,a≠p->H a=some o->H' a=some o)->DkAt D C H' p b l [] B0->Q .non H'
theorem QuF(F:DefC P w K mg base "are_two_numbers" Qw4)(Tg:GlbA mg){uB:_}(mB:mg "BEYOND_TWO_FIGURES" = some (.int 100 uB)) :
  Cal P w K mg base CX0 1 "are_two_numbers" QrW:=by
 refine okv ["words", "known"] 1 F λcdv A outer s H vs Q E nD hr h=>?_
 obtain⟨p,ws,rfl,hp,hl,q⟩:=h;refine⟨_,Qr (Qba 1 nD (Y3 (M:=["number"]) (cap:=[none]) (g:=Qbc 0) (tc:=QaR) (te:=tCB (λxs H Q=>∃i:Int,xs=[.int i]/\i.natAbs.log2<1920/\Q (.str (toString i)) H) (Qae (Qbq 0) Qej)) rfl (by rfl) (Qau (by rfl) Tg.range (Qk (ZL (v:=.int 100) (by rfl) mB ⟨_,rfl⟩) Qq)) (λcl ex s3 H3 C=>⟨Yv (i:=0) Qyj rfl (Qx rfl) (QL rfl),QaV,ZT Qax (by rfl) Tg.str Qff (Qk (pv 0) Qq)⟩)))
  (QQ (JI (Qsp (Qgw QiB (ZD Z0 (by rfl) Tg.len Qbm (Qk (pv 0) Qq)) Jd (JZ _)) (Qsm (ZD Qrv (by rfl) Tg.all Qy4 (Qk (Y3 (M:=["word", "known"]) (cap:=[none,some 1]) (g:=Qbc 0) (tc:=QaR) (te:=tOp (rIn K false) (Qbq 0) (Qbq 1)) rfl (by rfl) (QcH (pv 0)) (λcl ex s3 H3 C=>⟨Yv (i:=0) QAP rfl (Qx rfl) (QL rfl),QaV,Qgw Qdg (pv 0) (pv 1) (by rfl)⟩)) Qq)))))),?_⟩
 refine⟨(100:Int),rfl,by decide,by decide,λkn hkn=>?_⟩;refine Y6 100 (ZB (by decide)) (λi=>some (.str (Qe (toString ((i:Nat):Int))))) hkn (λi H2 hi s2=>?_) (λH2 s2=>?_) λH2 s2 e3=>?_
 ·refine⟨hi,λx H3 ⟨eH,ev⟩ kn kv h1 h2=>?_⟩;subst eH ev;refine⟨trivial,?_⟩;refine(QbZ (B:=kn H3) ?_:if true=true then _ else kn H3);rw[QaP];exact⟨_,rfl,_,rfl,Qcd (by omega) (by omega),h2 _ rfl H3 λ_ _ z=>z⟩
 ·exact Qf _
 ·rw[fmS] at e3;have ek:H2 kn=some (.lst (nums.map V.str)):=by rw[e3];unfold nums;rw[Q8];rfl
  have ep:=s2 _ _ hp;refine⟨_,rfl,p,_,rfl,.inl (SqL.of ep),rfl,_,rfl,?_⟩;have el:decide (V.int ((ws.map V.str).length:Int)=V.int 2)=decide (ws.length=2):=by
   rw[Qc,JD,decide_eq_true_eq,decide_eq_true_eq];exact⟨λz=>by have:=V.int.inj z;omega,λz=>by rw[z];rfl⟩
  rw[el];cases e2:decide (ws.length=2) with
  |false=>
   have:=q H2 s2;unfold Qim at this;rw[e2] at this;exact Qb0 this
  |true=>
   refine QbZ ⟨_,rfl,p,rfl,⟨_,SqL.of ep⟩,λpl hpl=>?_⟩;have at_:∀i,i<ws.length->(ws.map V.str)[i]? = some (.str (ws.getD i csE)):=λi hi=>by
    rw[Qz,Qg,Qd hi];rfl
   have w2:=of_decide_eq_true e2;refine Y6 ws.length (ZB (by omega)) (λi=>some (.bl (QbH (ws.getD i csE)))) hpl (λi H3 hi s3=>?_) (λH3 s3=>?_) λH3 s3 e5=>?_
   ·refine⟨⟨_,_,SqL.of (s3 _ _ ep),at_ i hi⟩,λx H4 ⟨eH,ev⟩ kn' kv h1 h2=>?_⟩;subst eH;have ex:=ev _ (SqL.of (s3 _ _ ep));rw[at_ i hi] at ex;cases ex;refine⟨⟨rfl,trivial⟩,?_⟩;refine(QbZ (B:=kn' H4) ?_:if true=true then _ else kn' H4);refine⟨_,rfl,_,rfl,kn,_,rfl,.inl (SqL.of (s3 _ _ ek)),rfl,by rw[Qk6];exact JA.mpr λ_ _=>rfl,?_⟩;show kv (V.bl (inV (V.str (ws.getD i csE)) (nums.map V.str))) H4;rw[QgC];exact h2 _ rfl H4 λ_ _ z=>z
   ·exact⟨_,SqL.of (s3 _ _ ep),by rw[Qc];exact Qf _⟩
   ·rw[fmS] at e5;have e6:H3 pl=some (.lst ((ws.map QbH).map V.bl)):=by
     rw[e5,Q8];exact congrArg (λz=>some (HO.lst z)) (QeX (λn=>V.bl (QbH n)) csE ws)
    refine⟨pl,_,rfl,SqL.of e6,rfl,?_⟩;have:=q H3 (s2.trans s3);unfold Qim at this;rw[e2,Qbe] at this;rw[Qk6];exact this
theorem QpH{D C:Addr}(F:MthC P w K mg base D "__init__" "Desk.__init__" Qyt)(Td:Dcl K D)(GI:CalI P w K mg base 1 C "Bench" (Qr0 C)) :
  CalM P w K mg base CX0 3 D "__init__" (QlS D C):=by
 refine okm ["self"] 1 F λcdv A outer s H vs Q E nD hr h=>?_
 obtain⟨p,dx,rfl,hp,k⟩:=h;refine⟨_,QQ (Qhx (pv 0) (Qsn GI hr) rfl),?_⟩;intro b0 dx0 nb0 ndx0 ne0;refine⟨b0,dx0,rfl,upd_same,λl0 H1 nl0 kp1 B1=>⟨rfl,?_⟩⟩;have s0a:Same H (upd (upd H dx0 (.own b0)) b0 (.ins C dx0 [])):=λa u e=>by rw[QK (Q7 e nb0),QK (Q7 e ndx0)];exact e
 have s01:Same H H1:=λa u e=>kp1 a u (Q7 e nb0) (s0a a u e)
 have hl0:H l0=none:=by
  cases z:H l0 with
  |none=>rfl
  |some u=>rw[s0a _ _ z] at nl0;cases nl0
 have p1:=s01 _ _ hp;refine⟨_,rfl,p,D,dx,[],rfl,p1,Td.cl,Td.nB,by show 0<1000;decide,?_⟩;obtain⟨dxa,va,xa,ea1,ea2,da1,da2⟩:=id B1.at_;have pb:b0≠p:=λz=>by rw[z,hp] at nb0;cases nb0
 have pl:l0≠p:=QaY ea2 p1 (λz=>nomatch z);have tp:∀a ys,H1 a=some (.tup ys)->(upd H1 p (.ins D dx (Qdc "bench" (.ref b0) []))) a=some (.tup ys):=λa ys e=>by rw[QK (QaY e p1 (λz=>nomatch z))];exact e
 exact k b0 l0 _ nb0 hl0 (λa o h e=>by rw[QK h];exact s01 _ _ e) ⟨⟨dx,upd_same⟩,⟨dxa,va,xa,by rw[QK pb];exact ea1,by rw[QK pl];exact ea2,QgL tp da1,Qe9 tp da2⟩⟩
def Yp:List Str:=["row", "column", "turn", "rest", "undo", "board", "counts", "most", "stand", "pieces"]
def Y2:List Str:=["put", "take"]
def Qco(l:List Str)(z:Str):Option Nat:=l.findIdx? λu=>decide (u=z)
def QrQ(ws:List Str)(as:List Addr):List (Key×Value):=(ws.zip as).map λp=>(Js p.1,Jj p.2)
theorem QeE(z:Str):∀(ws:List Str)(as:List Addr),ws.length=as.length->valueAt (QrQ ws as) (Js z:Key)=((Qco ws z).bind λi=>as[i]?).map Jj
 |[],[],_=>rfl
 |u::ws,a::as,h=>by
  have ih:=QeE z ws as (by simpa using h);unfold Qco at ih ⊢;rw[List.findIdx?_cons];by_cases e:u=z
  ·rw[decide_eq_true e];show(QrH (λkv=>decide (kv.1=Js z)) ((Js u,Jj a)::QrQ ws as)).map _=_;rw[List.find?_cons_of_pos (by simp[e])];rfl
  ·rw[decide_eq_false e];show(QrH (λkv=>decide (kv.1=Js z)) ((Js u,Jj a)::QrQ ws as)).map _=_;rw[List.find?_cons_of_neg (by simp[e])];have ih:(QrH (λkv=>decide (kv.1=Js z)) (QrQ ws as)).map (λx=>x.2)=_:=ih;rw[ih];cases ws.findIdx? (λu=>decide (u=z)) with
   |none=>rfl
   |some i=>rfl
inductive Rw where
 |alone (i:Nat) | place (j:Nat) (n m:Int)
def QeT(z:Str):Int:=(PySem.intText? z).getD 0
def QoO:List Str->Option Rw
 |[]=>none
 |z::ns=>match Qco Yp z,ns with
  |some i,[]=>some (.alone i)
  |_,ns=>match Qco Y2 z with
   |some j=>if Qim ns=true then some (.place j (QeT (ns.getD 0 csE)) (QeT (ns.getD 1 csE))) else none
   |none=>none
def QfB:Qb->Option Rw
 |.str t=>QoO (Zy t (Qe " "))
 |_=>none
def spsA(C:Addr)(xc:Str->Addr):List Sp:=[QcA C xc .row,QcA C xc .col,QcA C xc .turn,QcA C xc .rest,QcA C xc .undo,Qcz C QAi,Qcz C Qla,Qcz C Qla,Qcz C Qla,Qcz C Qla]
def spsW(C:Addr)(xc:Str->Addr):List Sp:=[Qjk C xc .put,Qjk C xc .take]
def Qv1(C:Addr)(xc:Str->Addr)(b:Addr)(r:Option Rw)(H:Hp)(Q:VK)(E:XK):Prop:=match r with
 |none=>∀H',Same H H'->E (.ref (xc "row")) none H'
 |some (.alone i)=>∀H' sp,Same H H'->(spsA C xc)[i]? = some sp->sp [.ref b] H' Q E
 |some (.place j n m)=>∀H' sp,Same H H'->(spsW C xc)[j]? = some sp->sp [.ref b,.int n,.int m] H' Q E
def Qtz(D C:Addr)(xc:Str->Addr):Sp:=λvs H Q E=>∃(s b:Addr)(x:V)(d:Qb),vs=[.ref s,x]/\(∃dx,H s=some (.ins D dx (dfl b)))/\DA N0 H x d/\(∀t,d=.str t->t.length<=3000)/\Qv1 C xc b (QfB d) H Q E
theorem QBn(x:V)(xs:List V):QhS (x::xs) (some 1) none=xs:=by
 unfold QhS HT.sIx;simp
theorem Qnm{l:List Str}{z:Str}{i:Nat}(h:Qco l z=some i):i<l.length:=by
 unfold Qco at h;exact(Qen.mp h).1
theorem QlC{ws:List Str}{as:List Addr}(hl:ws.length=as.length){z:Str}{i:Nat}(h:Qco ws z=some i):∃g,as[i]? = some g/\valueAt (QrQ ws as) (Js z:Key)=some (.ref g):=by
 have hi:=Qnm h;have e:as[i]? = some as[i]:=Qd (by omega);refine⟨_,e,?_⟩;rw[QeE z ws as hl,h];show(as[i]?).map Jj=_;rw[e];rfl
theorem QrP{ws:List Str}{as:List Addr}(hl:ws.length=as.length){z:Str}(h:Qco ws z=none):valueAt (QrQ ws as) (Js z:Key)=none:=by
 rw[QeE z ws as hl,h];rfl
theorem QjI{z:Str}(h:QbH z=true):∃n:Nat,n<100/\PySem.intText? z=some (n:Int)/\z.length<=34:=by
 have h:=of_decide_eq_true h;unfold nums at h;obtain⟨n,hn,rfl⟩:=Qw.mp h;have hn:=JM.mp hn;exact⟨n,hn,PySem.W.KIN.num_reads (by omega) (by omega),QcK (by omega) (by omega)⟩
theorem Qya{D C dA dW:Addr}{xc:Str->Addr}{as ps:List Addr}{tB:Tok}(F:MthC P w K mg base D "say" "Desk.say" kSay)(Tg:GlbA mg)(Td:Dcl K D)
  (mBl:mg "BLANK" = some (.str " " tB))(mA:mg "ALONE" = some (.ref dA))(mW:mg "WITH_PLACE" = some (.ref dW))(bA:BD P w K dA (QrQ Yp as))(bW:BD P w K dW (QrQ Y2 ps))(lA:as.length=10)(lW:ps.length=2)
  (hA:∀(i:Nat) g sp,as[i]? = some g->(spsA C xc)[i]? = some sp->∃k gd qs,k<=8/\FnOk P w K mg base (Rx.CXE P w) k g gd qs sp/\PySem.W.keepIn K (.ref g)=true/\Binds K gd qs [])
  (hW:∀(i:Nat) g sp,ps[i]? = some g->(spsW C xc)[i]? = some sp->∃k gd qs,k<=8/\FnOk P w K mg base (Rx.CXE P w) k g gd qs sp/\PySem.W.keepIn K (.ref g)=true/\Binds K gd qs [])
  (c2:Cal P w K mg base CX0 1 "are_two_numbers" QrW)
  (mC:mg "NoRow" = some (.ref (xc "row")))(qC:PySem.W.excIn K (xc "row") Rx.mroV "ValueError.__new__" = true) :
  CalM P w K mg base (Rx.CXE P w) 9 D "say" (Qtz D C xc):=by
 refine Qss ["self", "row", "words", "word", "numbers", "answer", "deed"] 2 F λcdv A outer s H vs Q E nD hr h=>?_
 obtain⟨sd,b,x,d,rfl,⟨dx,es⟩,hx,ht,st⟩:=h;refine⟨_,Qr (Qat (QT.h (E:=E0) (QbD (QbC (Jp (Qd7 .str (by rfl) Tg.isinstance (qp 1) (by rfl) Tg.str Qff))))) (QQ (Rx.Qdd (C:=xc "row") (E:=E) (λ_ _ h=>h) rfl rfl rfl rfl (by rfl) mC qC Jb)) Zs)
  (Qr (Qba 2 nD (Qbb PySem.F.plainAttrs_str PySem.F.slot_str_split PySem.F.type_str_split Qdi (pv 1) (Qk (ZL (v:=.str " ") (by rfl) mBl ⟨_,rfl⟩) Qq)))
  (Qr (Qba 3 nD (Yo Zu (pv 2) Jd (λ_ _=>rfl)))
  (Qr (Qba 4 nD (Yd Qbf (pv 2) (Y0 Jd) Y1))
  (Qr (Qat (PW.pt (Qht (Ze Qsq (pv 3) (ZL (v:=.ref dA) (by rfl) mA rfl) (by rfl)) (QeN (Qhv (Qeu (pv 4) (λ_=>rfl)))))) (Qr (Qba 5 nD (Qmu (ZL (v:=.ref dA) (by rfl) mA rfl) (pv 3) (λ_ _=>rfl))) (QQ (JI (QjE (M:=λg sp=>∃i:Nat,as[i]? = some g/\(spsA C xc)[i]? = some sp) (i:=5) ?hA (pv 5) (Rx.QcJ (E:=E) (λ_ _ h=>h) rfl rfl rfl) (Qk (Qav (pv 0) rfl) Qq))))) Zs)
  (Qr (Qat (PW.pt (Qht (Ze Qsq (pv 3) (ZL (v:=.ref dW) (by rfl) mW rfl) (by rfl)) (QeN (Qmo (Zj c2 hr (Qk (pv 4) Qq)))))) (Qr (Qba 6 nD (Qmu (ZL (v:=.ref dW) (by rfl) mW rfl) (pv 3) (λ_ _=>rfl))) (QQ (JI (QjE (M:=λg sp=>∃i:Nat,ps[i]? = some g/\(spsW C xc)[i]? = some sp) (i:=6) ?hW (pv 6) (Rx.QcJ (E:=E) (λ_ _ h=>h) rfl rfl rfl) (Qk (Qav (pv 0) rfl) (Qk (ZT Qbl (by rfl) Tg.int Qdv (Qk (Yo Zu (pv 4) Jd (λ_ _=>rfl)) Qq)) (Qk (ZT Qbl (by rfl) Tg.int Qdv (Qk (Yo Zu (pv 4) Jd (λ_ _=>rfl)) Qq)) Qq))))))) Zs)
  (QQ (Rx.Qdd (C:=xc "row") (E:=E) (λ_ _ h=>h) rfl rfl rfl rfl (by rfl) mC qC Jb))))))),?rd⟩
 case hA=>
  rintro g sp ⟨i,h1,h2⟩;obtain⟨k,gd,qs,hk,G,kp,bd⟩:=hA i g sp h1 h2;exact⟨k,gd,qs,G,hr.mono (by omega),kp,bd⟩
 case hW=>
  rintro g sp ⟨i,h1,h2⟩;obtain⟨k,gd,qs,hk,G,kp,bd⟩:=hW i g sp h1 h2;exact⟨k,gd,qs,G,hr.mono (by omega),kp,bd⟩
 case rd=>
  refine hyT [.no,.v d,.no,.no,.no,.no,.no] (.cons JF (.cons ⟨_,rfl,hx⟩ (.cons JF (.cons JF (.cons JF (.cons JF (.cons JF .nil))))))) ?_
  have no:∀H1,Same H H1->QfB d=none->E (.ref (xc "row")) none H1:=λH1 s1 e=>by rw[e] at st;exact st H1 s1
  cases d with
  |str t=>
   refine λH1 s1=>?_
   show if(false:Bool)=true then _ else _
   refine Qb0 ?_
   have xt:x=.str t:=by cases hx;rfl
   subst xt;have ht:=ht t rfl;refine⟨_,rfl,rfl,t,Qe " ",rfl,rfl,rfl,by omega,λlw H2 s2 n2 a2=>?_⟩;obtain⟨z,ns,ew⟩:=Qgi t (Qe " ");have sl:=L2.split_le t (Qe " ");have er:QfB (.str t)=QoO (z::ns):=by show QoO (Zy t (Qe " "))=_;rw[ew]
   rw[er] at st no;rw[ew] at a2 sl;have nl:ns.length<=3002:=by rw[Qu] at sl;omega
   refine⟨_,rfl,lw,_,_,.str z,rfl,rfl,SqL.of a2,Q3 (j:=0) rfl,?_⟩;refine⟨_,rfl,_,rfl,lw,_,rfl,SqL.of a2,λln H3 s3 n3 a3=>?_⟩;have a3:H3 ln=some (.lst (ns.map V.str)):=by rw[a3];exact congrArg (λq=>some (HO.lst q)) (QBn (.str z) (ns.map V.str))
   have s13:=(s1.trans s2).trans s3;have ed:∀{H'},Same H3 H'->H' sd=some (.ins D dx (dfl b)):=λs'=>s' _ _ (s13 _ _ es)
   have vA:=QeE z Yp as (by rw[lA];rfl);have vW:=QeE z Y2 ps (by rw[lW];rfl);refine⟨_,rfl,z,dA,_,rfl,rfl,bA,_,rfl,?_⟩;by_cases pq:∃i,Qco Yp z=some i/\ns=[]
   ·obtain⟨i,hi,rfl⟩:=pq;obtain⟨g,hg,vg⟩:=QlC (as:=as) (by rw[lA];rfl) hi;rw[vg];refine QbZ ⟨_,rfl,false,.inl ⟨_,SqL.of a3,rfl⟩,QbZ ?_⟩;have hi2:=Qnm hi;obtain⟨sp,hsp⟩:∃sp,(spsA C xc)[i]? = some sp:=⟨_,Qd (show i<(spsA C xc).length from hi2)⟩
    have e:QoO [z]=some (.alone i):=by show(match Qco Yp z,([]:List Str) with | some i,[]=>some (Rw.alone i) | _,ns=>_)=_;rw[hi]
    rw[e] at st;exact⟨_,rfl,dA,z,_,g,rfl,rfl,bA,vg,g,sp,rfl,⟨i,hg,hsp⟩,_,rfl,sd,D,dx,_,_,rfl,ed λ_ _ q=>q,Td.cl,Td.nB,QyG b,st H3 sp s13 hsp⟩
   ·have er2:QoO (z::ns)=match Qco Y2 z with | some j=>if Qim ns=true then some (.place j (QeT (ns.getD 0 csE)) (QeT (ns.getD 1 csE))) else none | none=>none:=by
     cases ns with
     |nil=>
      cases hi:Qco Yp z with
      |none=>show(match Qco Yp z,([]:List Str) with | some i,[]=>some (Rw.alone i) | _,ns=>_)=_;rw[hi]
      |some i=>exact absurd ⟨i,hi,rfl⟩ pq
     |cons n ns=>
      cases hi:Qco Yp z with
      |none=>show(match Qco Yp z,n::ns with | some i,[]=>some (Rw.alone i) | _,ns=>_)=_;rw[hi]
      |some i=>show(match Qco Yp z,n::ns with | some i,[]=>some (Rw.alone i) | _,ns=>_)=_;rw[hi]
    rw[er2] at st no;clear vA vW er er2;cases hi:Qco Yp z
    case' none=>
     rw[QrP (by rw[lA];rfl) hi];refine Qb0 ?_
     show if(false:Bool)=true then _ else _
     refine Qb0 ?_
    case' some i=>
     obtain⟨g,hg,vg⟩:=QlC (as:=as) (by rw[lA];rfl) hi;rw[vg];have ne:(ns.map V.str).isEmpty=false:=by
      cases ns with
      |nil=>exact absurd ⟨i,hi,rfl⟩ pq
      |cons _ _=>rfl
     refine QbZ ⟨_,rfl,true,.inl ⟨_,SqL.of a3,by rw[ne];rfl⟩,?_⟩;show if(false:Bool)=true then _ else _
     refine Qb0 ?_
    all_goals
     refine⟨_,rfl,z,dW,_,rfl,rfl,bW,_,rfl,?_⟩;cases hj:Qco Y2 z with
     |none=>
      rw[QrP (by rw[lW];rfl) hj];rw[hj] at st;exact Qb0 (Qb0 (st H3 s13))
     |some j=>
      obtain⟨g,hg,vg⟩:=QlC (as:=ps) (by rw[lW];rfl) hj;rw[vg];rw[hj] at st;refine QbZ ⟨_,rfl,ln,ns,rfl,a3,by omega,λH4 s4=>⟨Qim ns,rfl,?_⟩⟩;have s14:=s13.trans s4;cases ht2:Qim ns with
      |false=>
       rw[ht2] at st;exact Qb0 (st H4 s14)
      |true=>
       rw[ht2] at st;refine QbZ ?_
       have hj2:=Qnm hj;obtain⟨sp,hsp⟩:∃sp,(spsW C xc)[j]? = some sp:=⟨_,Qd (show j<(spsW C xc).length from hj2)⟩
       unfold Qim at ht2;have ht2:=QP.mp ht2;have l2:=of_decide_eq_true ht2.1
       match ns,l2,ht2.2,a3,st with
       |[u1,u2],_,hall,a3,st=>
        have h1:QbH u1=true/\QbH u2=true:=by simpa using hall
        obtain⟨n1,_,i1,k1⟩:=QjI h1.1;obtain⟨n2,_,i2,k2⟩:=QjI h1.2;have st:=st H4 sp s14 hsp;have e1:QeT (([u1,u2]:List Str).getD 0 csE)=n1:=by show(PySem.intText? u1).getD 0=_;rw[i1];rfl
        have e2:QeT (([u1,u2]:List Str).getD 1 csE)=n2:=by show(PySem.intText? u2).getD 0=_;rw[i2];rfl
        rw[e1,e2] at st;exact⟨_,rfl,dW,z,_,g,rfl,rfl,bW,vg,g,sp,rfl,⟨j,hg,hsp⟩,_,rfl,sd,D,dx,_,_,rfl,ed s4,Td.cl,Td.nB,QyG b,_,rfl,ln,_,_,.str u1,rfl,rfl,SqL.of (s4 _ _ a3),Q3 (j:=0) rfl,u1,n1,rfl,i1,by omega,_,rfl,ln,_,_,.str u2,rfl,rfl,SqL.of (s4 _ _ a3),Q3 (j:=1) rfl,u2,n2,rfl,i2,by omega,st⟩
  |_=>exact λH1 s1=>no H1 s1 rfl
abbrev QsB:J7:=top 94
def Qdt:Rw->Option Deed
 |.alone 0=>some .row
 |.alone 1=>some .col
 |.alone 2=>some .turn
 |.alone 3=>some .rest
 |.alone 4=>some .undo
 |.place 0 n m=>some (.put (.int n) (.int m))
 |.place 1 n m=>some (.take (.int n) (.int m))
 |_=>none
def Qhg:Rw->Option (Bo->Str->Prop)
 |.alone 5=>some QAi
 |.alone 6=>some Qla
 |.alone 7=>some Qla
 |.alone 8=>some Qla
 |.alone 9=>some Qla
 |_=>none
def Res(t:Addr)(a b:Str)(H:Hp):Prop:=H t=some (.tup [.str a,.str b])
structure Qzl (D C:Addr) (d:Qb) (H:Hp) (Q:VK) (s b l:Addr) (es:List Bo) (k:Bo):Prop where
 no:QfB d=none->∀t H',Same H H'->Res t "refused" "row" H'->Q (.ref t) H'
 due:∀r dd wd,QfB d=some r->Qdt r=some dd->QdT dd es k=some wd->∀t H',Same H H'->Res t "refused" wd H'->Q (.ref t) H'
 ok:∀r dd,QfB d=some r->Qdt r=some dd->QdT dd es k=none->∀t H',K2 b l H H'->BnAt C H' b l (QdE dd es k).1 (QdE dd es k).2->Res t "told" "ok" H'->Q (.ref t) H'
 tell:∀r R u,QfB d=some r->Qhg r=some R->R k u->∀t H',Same H H'->Res t "told" u H'->Q (.ref t) H'
def QrY(D C:Addr):Sp:=λvs H Q _=>∃(s b l:Addr)(es:List Bo)(k:Bo)(x:V)(d:Qb),vs=[.ref s,x]/\DkAt D C H s b l es k/\k.ok/\es.length<=900/\DA N0 H x d/\(∀t,d=.str t->t.length<=3000)/\Qzl D C d H Q s b l es k
theorem Qls{dd:Deed}{es:List Bo}{k:Bo}{wd:Str}(h:QdT dd es k=some wd):wd = "place" ∨ wd = "double" ∨ wd = "cell" ∨ wd = "many" ∨ wd = "deed" := QvD h
theorem QuM{D C:Addr}{xc:Str->Addr}(F:DefC P w K mg base "_law_said" QsB)(Td:Dcl K D)(DS:CalM P w K mg base (Rx.CXE P w) 9 D "say" (Qtz D C xc))
  {fK R:Addr} {cs:List Addr} {fdK:JQ} (mK:mg "_law_kind_of" = some (.ref fK)) (GK:Rx.FnM P w K mg base 1 fK fdK ["_law_e"] (QfN K cs)) (bK:Binds K fdK ["_law_e"] []) (kK:PySem.W.keepIn K (.ref fK)=true) (mR:mg "RookError" = some (.ref R)) (ok_:∀wd:Str,wd = "row" ∨ wd = "place" ∨ wd = "double" ∨ wd = "cell" ∨ wd = "many" ∨ wd = "deed" -> KOk K cs R (xc wd) wd) :
  Cal P w K mg base CX0 10 "_law_said" (QrY D C):=by
 obtain⟨gS,gdS,psS,nS,DS,cS⟩:=DS.ex;refine okv ["_law_desk", "_law_row", "_law_e"] 2 F λcdv A outer s H vs Q E nD hr h=>?_
 obtain⟨sd,b,l,es,k,x,d,rfl,⟨⟨dx,ed⟩,B⟩,o,hl,hx,ht,S⟩:=h;refine⟨_,QQ (Rx.QtW (i:=2) rfl rfl (Rx.QoY (Rx.QtV (Rx.Qo1 Jb (Rx.Qo2 (pv 0) Td.cl nS DS (hr.mono (by decide)) cS rfl (Qk (pv 1) Qq)))))
  nD rfl rfl (by rfl) mR (λe=>Ym (Zo Jb (Zo (Rx.Qo7 GK (Rx.Room.m (hr.mono (by decide)) e) (by rfl) mK kK bK (Qk (pv 2) Qq)) Qq)))),?_⟩
 have h3:(2:Nat)<3:=by decide
 have ref:∀(wd:Str) H1,Same H H1->(wd = "row" ∨ wd = "place" ∨ wd = "double" ∨ wd = "cell" ∨ wd = "many" ∨ wd = "deed")->(∀t H',Same H H'->Res t "refused" wd H'->Q (.ref t) H') ->
   ∃D',Jj (xc wd)=.ref D'/\(Rx.ByC K D' R/\∀a,H1 a=none->(Qae (Qbq 2) Qej) ((start ["_law_desk", "_law_row", "_law_e"] [.ref sd,x]).set 2 (some (.ref a))) (upd H1 a (Rx.exO a D')) λvs H2=>QfN K cs vs H2 (λv H3=>(2<=1000/\∀t H',Same H3 H'->H3 t=none->H' t=some (.tup [.str "refused",v])->Q (.ref t) H')) E0):=λwd H1 s1 hw kq=>
  ⟨_,rfl,handled (Q:=λv H3=>(2<=1000/\∀t H',Same H3 H'->H3 t=none->H' t=some (.tup [.str "refused",v])->Q (.ref t) H')) (ok_ wd hw) h3 λH2 s2=>⟨by decide,λt H' s' _ e=>kq t H' ((s1.trans s2).trans s') e⟩⟩
 refine⟨_,rfl,sd,dx,_,rfl,ed,QsO _ (by decide),_,rfl,sd,b,x,d,rfl,⟨dx,ed⟩,hx,ht,?_⟩;unfold Qv1;cases hrow:QfB d with
 |none=>exact λH' s'=>ref "row" H' s' (.inl rfl) λt H'' s'' r=>S.no hrow t H'' s'' r
 |some rw=>
  have deed:∀dd,Qdt rw=some dd->∀H1,Same H H1->Qrz C xc H1 (λy H2=>∀t H',Same H2 H'->H2 t=none->H' t=some (.tup [.str "told",y])->Q (.ref t) H') (λcv _ H3=>∃D',cv=.ref D'/\(Rx.ByC K D' R/\∀a,H3 a=none->(Qae (Qbq 2) Qej) ((start ["_law_desk", "_law_row", "_law_e"] [.ref sd,x]).set 2 (some (.ref a))) (upd H3 a (Rx.exO a D')) λvs H2=>QfN K cs vs H2 (λv H3=>(2<=1000/\∀t H',Same H3 H'->H3 t=none->H' t=some (.tup [.str "refused",v])->Q (.ref t) H')) E0)) b l es k dd:=λdd hd H1 s1=>
   ⟨λwd hw H2 s2=>ref wd H2 (s1.trans s2) (.inr (Qls hw)) λt H'' s'' r=>S.due rw dd wd hrow hd hw t H'' s'' r,
    λhn H2 k2 B2 t H3 s3 _ e=>S.ok rw dd hrow hd hn t H3 ((K2.of s1).trans (k2.trans (K2.of s3))) (B2.same s3) e⟩
  have tell:∀R',Qhg rw=some R'->∀H1,Same H H1->∀u H2,R' k u->Same H1 H2->∀t H3,Same H2 H3->H2 t=none->H3 t=some (.tup [.str "told",.str u])->Q (.ref t) H3:=λR' hR H1 s1 u H2 hu s2 t H3 s3 _ e=>S.tell rw R' u hrow hR hu t H3 ((s1.trans s2).trans s3) e
  cases rw with
  |alone i=>
   intro H1 sp s1 hsp;have Bn:=B.same s1
   match i,hsp,deed,tell with
   |0,hsp,deed,_=>cases hsp;exact⟨b,l,es,k,rfl,Bn,o,by omega,deed _ rfl H1 s1⟩
   |1,hsp,deed,_=>cases hsp;exact⟨b,l,es,k,rfl,Bn,o,by omega,deed _ rfl H1 s1⟩
   |2,hsp,deed,_=>cases hsp;exact⟨b,l,es,k,rfl,Bn,o,by omega,deed _ rfl H1 s1⟩
   |3,hsp,deed,_=>cases hsp;exact⟨b,l,es,k,rfl,Bn,o,by omega,deed _ rfl H1 s1⟩
   |4,hsp,deed,_=>cases hsp;exact⟨b,l,es,k,rfl,Bn,o,by omega,deed _ rfl H1 s1⟩
   |5,hsp,_,tell=>cases hsp;exact⟨b,l,es,k,rfl,Bn,o,λu H2 hu s2=>tell _ rfl H1 s1 u H2 hu s2⟩
   |6,hsp,_,tell=>cases hsp;exact⟨b,l,es,k,rfl,Bn,o,λu H2 hu s2=>tell _ rfl H1 s1 u H2 hu s2⟩
   |7,hsp,_,tell=>cases hsp;exact⟨b,l,es,k,rfl,Bn,o,λu H2 hu s2=>tell _ rfl H1 s1 u H2 hu s2⟩
   |8,hsp,_,tell=>cases hsp;exact⟨b,l,es,k,rfl,Bn,o,λu H2 hu s2=>tell _ rfl H1 s1 u H2 hu s2⟩
   |9,hsp,_,tell=>cases hsp;exact⟨b,l,es,k,rfl,Bn,o,λu H2 hu s2=>tell _ rfl H1 s1 u H2 hu s2⟩
   |i+10,hsp,_,_=>cases hsp
  |place j n m=>
   intro H1 sp s1 hsp;have Bn:=B.same s1
   match j,hsp,deed with
   |0,hsp,deed=>cases hsp;exact⟨b,l,es,k,_,_,.int n,.int m,rfl,Bn,o,by omega,.int _,.int _,deed _ rfl H1 s1⟩
   |1,hsp,deed=>cases hsp;exact⟨b,l,es,k,_,_,.int n,.int m,rfl,Bn,o,by omega,.int _,.int _,deed _ rfl H1 s1⟩
   |j+2,hsp,_=>cases hsp
abbrev Qm9:J7:=top 92
abbrev QsA:J7:=top 95
def rowT(wd:Str)(ns:List Int):Str:=Qez (Qe " ") (wd::ns.map λn=>Qe (toString n))
def QlQ:Sp:=λvs H Q _=>∃(wd:Str)(t:Addr)(ns:List Int),vs=[.str wd,.ref t]/\H t=some (.lst (ns.map V.int))/\(∀n∈ns,0<=n/\n<100)/\ns.length<=2/\wd.length<=10/\∀H',Same H H'->Q (.str (rowT wd ns)) H'
theorem QAS:(["_law_number_here"]:List Str).Nodup:=by decide
theorem Qpw(F:DefC P w K mg base "_law_row_of" Qm9)(Tg:GlbA mg) :
  Cal P w K mg base CX0 1 "_law_row_of" QlQ:=by
 refine okv ["_law_word", "_law_told"] 2 F λcdv A outer s H vs Q E nD hr h=>?_
 obtain⟨wd,t,ns,rfl,ht,nb,nl,wl,q⟩:=h;refine⟨_,QQ (JI (Qbb PySem.F.plainAttrs_str PySem.F.slot_str_join PySem.F.type_str_join QbN Jb (Qk (ZF QaW (Za (Zo (pv 0) Qq)) (Y3 (M:=["_law_number_here"]) (cap:=[none]) (g:=Qbc 0) (tc:=QaR) (te:=tCB (λxs H Q=>∃i:Int,xs=[.int i]/\i.natAbs.log2<1920/\Q (.str (toString i)) H) (Qae (Qbq 0) Qej)) rfl (by rfl) (QcH (pv 1)) (λcl ex s3 H3 C=>⟨Yv (i:=0) QAS rfl (Qx rfl) (QL rfl),QaV,ZT Qax (by rfl) Tg.str Qff (Qk (pv 0) Qq)⟩))) Qq))),?_⟩;refine⟨rfl,_,rfl,by show 1<=1000;decide,λl1 H1 s1 n1 a1=>?_⟩;have e0:=s1 _ _ ht;refine⟨_,rfl,t,rfl,⟨_,SqL.of e0⟩,λpl hpl=>?_⟩;have at_:∀i,i<ns.length->(ns.map V.int)[i]? = some (.int (ns.getD i 0)):=λi hi=>by
  rw[Qz,Qg,Qd hi];rfl
 have gm:∀i,i<ns.length->ns.getD i 0∈ns:=λi hi=>by
  rw[Qg,Qd hi];exact Jz _
 refine Y6 ns.length (ZB (by omega)) (λi=>some (.str (Qe (toString (ns.getD i 0))))) hpl (λi H2 hi s2=>?_) (λH2 s2=>?_) λH2 s2 e3=>?_
 ·refine⟨⟨_,_,SqL.of (s2 _ _ e0),at_ i hi⟩,λx H3 ⟨eH,ev⟩ kn kv h1 h2=>?_⟩;subst eH;have ex:=ev _ (SqL.of (s2 _ _ e0));rw[at_ i hi] at ex;cases ex;refine⟨trivial,?_⟩;refine(QbZ (B:=kn H3) ?_:if true=true then _ else kn H3);have nb':=nb _ (gm i hi);exact⟨_,rfl,_,rfl,Qcd nb'.1 (by omega),h2 _ rfl H3 λ_ _ z=>z⟩
 ·exact⟨_,SqL.of (s2 _ _ e0),by rw[Qc];exact Qf _⟩
 ·rw[fmS] at e3;have e4:H2 pl=some (.lst ((ns.map λn=>Qe (toString n)).map V.str)):=by
   rw[e3,Q8];exact congrArg (λz=>some (HO.lst z)) (QeX (λn=>V.str (Qe (toString n))) 0 ns)
  refine⟨l1,pl,_,_,rfl,rfl,s2 _ _ a1,e4,by rw[Qc,Qc];show 1+_<=1000;omega,λl3 H5 s5 n5 e5=>?_⟩;have e6:H5 l3=some (.lst ((wd::ns.map λn=>Qe (toString n)).map V.str)):=e5;refine⟨_,l3,_,rfl,rfl,SqL.of e6,QdP (B:=34) (λy hy=>?_) ?_,q H5 ((s1.trans s2).trans s5)⟩
  ·rcases QM.mp hy with z | z
   ·rw[z];omega
   ·obtain⟨n,hn,rfl⟩:=Qw.mp z;have nb':=nb n hn;exact QcK nb'.1 (by omega)
  ·rw[Qu,Qc];show _*34+_*1<=_;omega
def QrX:Sp:=λvs H Q _=>∃(v:V)(k:Bo),vs=[v]/\DA N0 H v k.d/\k.ok/\∀H',Same H H'->Q (.str (Qg9 k.h k.w (Qv k.h k.w k.f))) H'
theorem Qu7:(["_law_column", "_law_board", "_law_row"]:List Str).Nodup:=by decide
theorem QCQ:(Qe ".#").cps.toList=[46,35]:=by decide
theorem QpB(F:DefC P w K mg base "_law_text" QsA)(Tg:GlbA mg) :
  Cal P w K mg base CX0 1 "_law_text" QrX:=by
 refine okv ["_law_board", "_law_lines", "_law_row"] 1 F λcdv A outer s H vs Q E nD hr h=>?_
 obtain⟨v,k,rfl,hv,o,q⟩:=h;refine⟨_,Qr (Qba 1 nD (Za Qq))
  (Qr (Qhw J3 rfl (Qau (by rfl) Tg.range (Qk (Yo Qdo (pv 0) Jd (λ_ _=>rfl)) Qq)) (Qcu 2 nD)
   (QQ (Zf (Qbb PySem.F.plainAttrs_list PySem.F.slot_list_append PySem.F.type_list_append Qcc (pv 1) (Qk (Qbb PySem.F.plainAttrs_str PySem.F.slot_str_join PySem.F.type_str_join QbN Jb (Qk (Y3 (M:=["_law_column", "_law_board", "_law_row"]) (cap:=[none,some 0,some 2]) (g:=Qbc 0) (tc:=QaR) (te:=(tOp QBO (tC (.str (Qe ".#"))) (tCB QtM (Qae (tX .F K E0 (dOp (inD false) (Qwk (Qbu (Qk9 2) (Qbu (Qk9 0) QnG))) (dOp ixD (dPk 1) (dC (.int 2))))) Qej)))) rfl (by rfl) (Qau (by rfl) Tg.range (Qk (Yo Qdo (pv 0) Jd (λ_ _=>rfl)) Qq)) (λcl ex s3 H3 C=>⟨Yv (i:=0) Qu7 rfl (Qx rfl) (QL rfl),QaV,Yo Qne Jb (ZT Qfe (by rfl) Tg.int Qdv (Qk (QE.h (E:=E0) (Qmj QhD (QeR (Room.i60 hr)) (Jp (ZZ (J8 (qv 2) (J8 (qv 0) Ja)))) (Q9 (QaO JO Zx (qp 1) (Q9 Jo) (λ_ _=>rfl))) (by rfl))) Qq)) (λ_ _=>rfl)⟩)) Qq)) Qq)))))
  (QQ (JI (Qbb PySem.F.plainAttrs_str PySem.F.slot_str_join PySem.F.type_str_join QbN Jb (Qk (pv 1) Qq))))),?_⟩
 obtain⟨a,c,ps,rfl,e1,e2,dc⟩:=QkW hv;have h6:=o.h6;have w6:=o.w6;refine⟨by show 0<=1000;decide,λtl H1 s1 n1 a1=>?_⟩;refine⟨_,rfl,a,_,0,.int k.h,rfl,rfl,SqT.of (s1 _ _ e1),rfl,(k.h:Int),rfl,by omega,by omega,?_⟩;rw[QB];refine Qe4 (λi σ H'=>∃x2,σ=[some (.ref a),some (.ref tl),x2]/\Same H H'/\H' tl=some (.lst ((QN i).map λr=>V.str (Qr8 (Qv k.h k.w k.f) k.w r)))) ⟨_,rfl,s1,a1⟩ ?_ ?_
 ·rintro i σ H' hi ⟨x2,rfl,sH,et⟩;rw[QaP];have hv':=DA.same hv sH;refine⟨_,rfl,.inl ⟨rfl,_,SqL.of et⟩,rfl,_,rfl,a,_,1,.int k.w,rfl,rfl,SqT.of (sH _ _ e1),rfl,(k.w:Int),rfl,by omega,by omega,λpl hpl=>?_⟩;rw[QB];refine Y6 k.w (ZB (by omega)) (λj=>some (.str (Qek (Qv k.h k.w k.f) i j))) hpl (λj H2 hj s2=>?_) (λH2 s2=>?_) λH2 s2 e3=>?_
  ·refine⟨?_,λv H3 ⟨eH,ev⟩ kn kv h1 h2=>?_⟩
   ·show j<_;omega
   subst eH ev;refine⟨⟨rfl,rfl,trivial⟩,?_⟩;refine(QbZ (B:=kn H3) ?_:if true=true then _ else kn H3);rw[QaP];refine hyF [.v (.int j),.v k.d,.v (.int i)] (.cons ⟨_,rfl,.int _⟩ (.cons ⟨_,rfl,DA.same hv' s2⟩ (.cons ⟨_,rfl,.int _⟩ .nil))) ?_
   refine⟨_,Q3 (j:=2) rfl,⟨ZK _,rfl,by have:=ZI ((i:Int),(j:Int));exact Qt (YA this) (by decide)⟩,λv H4 s4 dv=>?_⟩;have dv:DA N0 H4 v (.bool (((Qv k.h k.w k.f).map pairD).any λe=>QY e (pairD ((i:Int),(j:Int))))):=dv;rw[YE] at dv;cases dv;have h2':=h2 _ rfl H4 s4;unfold Qek at h2';refine .inr ⟨_,rfl,Qe ".#",_,(if((i:Int),(j:Int))∈Qv k.h k.w k.f then 35 else 46:Nat),rfl,rfl,by decide,?_,?_⟩
   ·rw[QCQ];by_cases hm:((i:Int),(j:Int))∈Qv k.h k.w k.f
    ·rw[decide_eq_true hm,if_pos hm];exact Q3 (j:=1) rfl
    ·rw[decide_eq_false hm,if_neg hm];exact Q3 (j:=0) rfl
   ·by_cases hm:((i:Int),(j:Int))∈Qv k.h k.w k.f
    ·rw[if_pos hm] at h2' ⊢;exact h2'
    ·rw[if_neg hm] at h2' ⊢;exact h2'
  ·show _<=_;omega
  ·rw[fmS] at e3;have e4:H2 pl=some (.lst (((QN k.w).map (Qek (Qv k.h k.w k.f) i)).map V.str)):=by rw[e3,Q8];rfl
   have et2:=s2 _ _ et;refine⟨_,pl,_,rfl,rfl,SqL.of e4,by rw[show(Qe "" : Str)=csE from QoH];exact QeK _ w6 i,tl,_,_,rfl,rfl,et2,QeJ (by rw[Qc,Q5];omega),?_⟩;refine⟨_,rfl,λx u e=>?_,?_⟩
   ·have nx:x≠tl:=Q7 e n1;rw[QK nx];exact s2 _ _ (sH _ _ e)
   ·rw[upd_same,QgU,Je];rw[show(Qe "" : Str)=csE from QoH];rfl
 ·rintro σ H' ⟨x2,rfl,sH,et⟩;have et:H' tl=some (.lst ((QcB k.h k.w (Qv k.h k.w k.f)).map V.str)):=by rw[et];unfold QcB;rw[Q8];rfl
  refine⟨rfl,_,rfl,_,tl,_,rfl,rfl,SqL.of et,?_,?_⟩
  ·rw[show(Qe "/" : Str)=csB from QwU];exact Qdm _ h6 w6
  ·rw[show(Qe "/" : Str)=csB from QwU];exact q H' sH
abbrev QsD:J7:=top 86
structure Qzo (p t l:Addr) (wd:Str) (ns:List Int) (H H':Hp):Prop where
 wl:QoB wd=true
 nl:ns.length<=2
 nb:∀n∈ns,0<=n/\n<100
 k1:K1 p H H'
 hp:∃m:Int,H' p=some (.lst [.int m])
 ht:H' t=some (.tup [.str wd,.ref l])
 hl:H' l=some (.lst (ns.map V.int))
 lp:l≠p
def Qr1:Sp:=λvs H Q _=>∃(p:Addr)(m:Int)(v:V)(k:Bo),vs=[.ref p,v]/\H p=some (.lst [.int m])/\DA N0 H v k.d/\k.ok/\∀t l wd ns H',Qzo p t l wd ns H H'->Q (.ref t) H'
theorem QnA{A:Addr->Prop}{H:Hp}:∀{xs:List V}{ns:List Int},DAs A H xs (ns.map QJ)->xs=ns.map V.int
 |_,[],.nil=>rfl
 |_,n::ns,.cons (.int _) q=>by rw[QnA q];rfl
theorem QuW(F:DefC P w K mg base "_law_good_deed" QsD)(Tg:GlbA mg)
   (c1:Cal P w K mg base CX0 2 "_law_deed" (ZN false QsP))
   (c2:Cal P w K mg base CX0 1 "_law_take" Qc9) :
  Cal P w K mg base CX0 3 "_law_good_deed" Qr1:=by
 refine okv ["_law_pot_here", "_law_board", "_law_word", "_law_told", "_law_far"] 2 F λcdv A outer s H vs Q E nD hr h=>?_
 obtain⟨p,m,v,k,rfl,hp,hv,o,Q0⟩:=h;refine⟨_,Qr (Qde (Zj c1 hr (Qk (pv 0) (Qk (pv 1) (Qk Jd Qq)))) (QeO rfl (ZR (Qcu 2 nD) (ZR (Qcu 3 nD) QcI))))
  (Qr (Qba 4 nD (Yo Zu (Za (Zo Jd (Zo Jd (Zo Jd (Zo Jd (Zo Jd (Zo Jd Qq))))))) (Zj c2 hr (Qk (pv 0) (Qk Jd Qq))) (λ_ _=>rfl)))
  (Qr (Qat (PW.pt (Qht (Ze QmI (pv 3) (Za Qq) (JZ _)) (QeN (Ze QiB (Zj c2 hr (Qk (pv 0) (Qk Jd Qq))) Jd (JZ _))))) (QQ (Qde (pv 4) (Qms (pv 3) (Zj c2 hr (Qk (pv 0) (Qk Jd Qq))) Qeq))) Zs)
  (QQ (JI (Ym (Zo (pv 2) (Zo (pv 3) Qq))))))),?_⟩
 have hU:=Room.u60 hr;have dm:∀x,(∃xs,H x=some (.lst xs))->∃ys,H x=some (.lst ys):=λx hx=>hx
 refine⟨_,rfl,_,rfl,(λx=>∃xs,H x=some (.lst xs)),(λx=>x=p),[.pot,.v k.d,.v (.int 0)],(λd=>∃(wd:Str)(ns:List Int),d=.tuple [.str wd,.list (ns.map QJ)]/\QoB wd=true/\(ns=[]∨∃x y,ns=[x,y])/\∀n∈ns,0<=n/\n<100),XF,dm,λx hx=>⟨⟨[.int m],by rw[hx];exact hp⟩,m,by rw[hx];exact hp⟩,.cons ⟨p,rfl,rfl⟩ (.cons (QvG (λ_ _ e=>e) dm _ _ (Qvx _) hv) (.cons (.int _) .nil)),⟨_,rfl,o,λwd hw=>⟨wd,[],rfl,hw,.inl rfl,λn hn=>by cases hn⟩,λwd x y hw x0 x6 y0 y6=>⟨wd,[x,y],rfl,hw,.inr ⟨x,y,rfl⟩,λn hn=>?_⟩⟩,λd hd v3 H3 kq dv _=>?_,λ_ z=>z.elim⟩
 ·rcases QM.mp hn with rfl | hn
  ·omega
  ·rw[Qy.mp hn];omega
 obtain⟨wd,ns,rfl,hw,hn2,nb⟩:=hd;obtain⟨n0,e0⟩:=kq.2 p rfl;obtain⟨ct,tl,rfl,ec,et,na⟩:∃ct tl,v3=.ref ct/\H3 ct=some (.tup [.str wd,.ref tl])/\H3 tl=some (.lst (ns.map V.int))/\¬ ∃xs,H tl=some (.lst xs):=by
  cases dv with
  |tup _ e q=>cases q with
   |cons q1 q=>cases q with
    |cons q2 q=>
     cases q;cases q1;cases q2 with
     |lst n2 e2 q2=>exact⟨_,_,rfl,e,by rw[QnA q2] at e2;exact e2,n2⟩
 have tp:tl≠p:=λe=>na ⟨_,by rw[e];exact hp⟩
 have nt:H tl=none:=by
  cases z:H tl with
  |none=>rfl
  |some u=>
   have h3:=kq.1 _ _ tp z;rw[et] at h3;cases h3;exact(na ⟨_,z⟩).elim
 have cp:ct≠p:=QaY ec e0 (λz=>nomatch z);have k3:K1 p H H3:=λa u h e=>kq.1 a u h e
 refine⟨ct,_,rfl,SqT.of ec,rfl,_,_,rfl,_,_,rfl,rfl,?_⟩;refine⟨by show 6<=1000;decide,λl1 H4 s4 n4 e4=>?_⟩;refine⟨_,rfl,p,n0,6,rfl,s4 _ _ e0,by decide,by decide,λr m1 r0 r6=>?_⟩;have lp:l1≠p:=(Q7 e0 n4).symm;obtain⟨fv,f0,f1,hf⟩:∃fv:Int,0<=fv/\fv<100/\atI [V.int 0,.int 5,.int 6,.int 9,.int 10,.int 99] r=some (.int fv):=by
  obtain⟨j,rfl⟩:=Zc r0
  match j,r6 with
  |0,_=>exact⟨0,by decide,by decide,rfl⟩
  |1,_=>exact⟨5,by decide,by decide,rfl⟩
  |2,_=>exact⟨6,by decide,by decide,rfl⟩
  |3,_=>exact⟨9,by decide,by decide,rfl⟩
  |4,_=>exact⟨10,by decide,by decide,rfl⟩
  |5,_=>exact⟨99,by decide,by decide,rfl⟩
  |j+6,h=>omega
 refine⟨l1,_,r,.int fv,rfl,rfl,SqL.of (by rw[QK lp];exact e4),hf,?_⟩;have k4:K1 p H (upd H4 p (.lst [.int m1])):=λa u h e=>by rw[QK h];exact s4 _ _ (k3 a u h e)
 have t4:(upd H4 p (.lst [.int m1])) tl=some (.lst (ns.map V.int)):=by rw[QK tp];exact s4 _ _ et
 have p4:(upd H4 p (.lst [.int m1])) p=some (.lst [.int m1]):=upd_same;generalize upd H4 p (.lst [.int m1])=H5 at k4 t4 p4;have fin:∀(ns':List Int)(m':Int)(H5:Hp),ns'.length<=2->(∀n∈ns',0<=n/\n<100)->K1 p H H5->H5 p=some (.lst [.int m'])->H5 tl=some (.lst (ns'.map V.int))->(QwJ (Qae (Qbq 2) (Qae (Qbq 3) Qej))) [some (.ref p),some v,some (.str wd),some (.ref tl),some (.int fv)] H5 Q:=λns' m' H5 l5 b5 k5 p5 t5=>
  ⟨_,rfl,_,rfl,by show 2<=1000;decide,λt H6 s6 n6 e6=>Q0 t tl wd ns' H6 ⟨hw,l5,b5,λa u h e=>s6 _ _ (k5 a u h e),⟨m',s6 _ _ p5⟩,e6,s6 _ _ t5,tp⟩⟩
 refine⟨_,rfl,by show 0<=1000;decide,λl2 H6 s6 n6 e6=>⟨tl,l2,ns.map V.int,rfl,rfl,s6 _ _ t4,e6,Jt (Qa3 _ 60) hU,_,rfl,?_⟩⟩;have k6:K1 p H H6:=λa u h e=>s6 _ _ (k4 a u h e)
 have t6:=s6 _ _ t4;have p6:=s6 _ _ p4;rcases hn2 with rfl | ⟨x,y,rfl⟩
 ·exact Qb0 (fin [] m1 H6 (by decide) nb k6 p6 t6)
 ·refine QbZ ?_
  refine⟨_,rfl,p,m1,10,rfl,p6,by decide,by decide,λr2 m2 _ _=>?_⟩;refine⟨rfl,_,rfl,?_⟩;have k7:∀m:Int,K1 p H (upd H6 p (.lst [.int m])):=λm a u h e=>by rw[QK h];exact k6 a u h e
  have t7:∀m:Int,(upd H6 p (.lst [.int m])) tl=some (.lst [.int x,.int y]):=λm=>by rw[QK tp];exact t6
  cases decide (V.int r2=V.int 0) with
  |false=>exact Qb0 (fin [x,y] m2 _ (Qf _) nb (k7 m2) upd_same (t7 m2))
  |true=>
   refine QbZ ⟨_,rfl,_,rfl,_,rfl,p,m2,2,rfl,upd_same,by decide,by decide,λr3 m3 c0 c2=>?_⟩;rw[Qtr];have kk:∀z:List V,K1 p H (upd (upd H6 p (.lst [.int m3])) tl (.lst z)):=λz a u h e=>by rw[QK (Q7 e nt)];exact k7 m3 a u h e
   have pp:∀z:List V,(upd (upd H6 p (.lst [.int m3])) tl (.lst z)) p=some (.lst [.int m3]):=λz=>by rw[QK tp.symm];exact upd_same
   have bx:=nb x (Jl ..);have bY:=nb y (QX _ (Qy.mpr rfl));rcases(show r3=0∨r3=1 by omega) with rfl | rfl
   ·exact⟨tl,_,0,0,rfl,rfl,t7 m3,QiG (n:=2) (by decide),fin [fv,y] m3 _ (Qf _) (λn hn=>by
     rcases QM.mp hn with rfl | hn
     ·omega
     ·rw[Qy.mp hn];omega) (kk _) (pp _) upd_same⟩
   ·exact⟨tl,_,1,1,rfl,rfl,t7 m3,QiG (n:=2) (by decide),fin [x,fv] m3 _ (Qf _) (λn hn=>by
     rcases QM.mp hn with rfl | hn
     ·omega
     ·rw[Qy.mp hn];omega) (kk _) (pp _) upd_same⟩
abbrev QjQ:J7:=top 97
abbrev QjP:J7:=top 98
def dig(c:Nat):Bool:=decide (c∈(Qe "0123456789").cps.toList)
theorem Qnv{c:Nat}(h:dig c=true):∃d:Fin 10,c=d.val+48:=by
 have h:=of_decide_eq_true h;rw[show(Qe "0123456789").cps.toList=[48,49,50,51,52,53,54,55,56,57] by decide] at h;have:48<=c/\c<58:=by simp at h;omega
 exact⟨⟨c - 48,by omega⟩,by show c=c - 48+48;omega⟩
theorem QAO:∀c:Fin 10,QbH ⟨#[c.val+48]⟩=true:=by decide
theorem QAN:∀c d:Fin 10,QbH ⟨#[c.val+48,d.val+48]⟩ = !decide (c.val+48=48):=by decide
def QeU(z:Str):Bool:=(decide (z.length=1∨z.length=2)&&z.cps.toList.all dig) && !(decide (z.length=2)&&decide (z.cps.toList.getD 0 0=48))
theorem Qu4:nums.all QeU=true:=by decide
theorem QmY(z:Str):QbH z=QeU z:=by
 cases e:QeU z with
 |false=>
  cases e2:QbH z with
  |false=>rfl
  |true=>
   have:=JA.mp Qu4 z (of_decide_eq_true e2);rw[e] at this;cases this
 |true=>
  unfold QeU at e;obtain⟨e1,e3⟩:=QP.mp e;obtain⟨e1,e2⟩:=QP.mp e1;have e1:=of_decide_eq_true e1;obtain⟨⟨l⟩⟩:=z
  match l,e1,e2,e3 with
  |[c],_,e2,_=>
   obtain⟨d,rfl⟩:=Qnv (JA.mp e2 c (Qy.mpr rfl));exact QAO d
  |[c,c'],_,e2,e3=>
   obtain⟨d,rfl⟩:=Qnv (JA.mp e2 c (Jl ..));obtain⟨d',rfl⟩:=Qnv (JA.mp e2 c' (QX _ (Qy.mpr rfl)));rw[QAN];exact e3
  |[],e1,_,_=>exact absurd e1 (by decide)
  |a::b::c::l,e1,_,_=>
   have e1:(a::b::c::l).length=1∨(a::b::c::l).length=2:=e1;simp at e1
def nV(z:Str):V:=if QbH z=true then .int (QeT z) else .non
def Qgk:Sp:=λvs H Q _=>∃z:Str,vs=[.str z]/\z.length<=100000/\∀H',Same H H'->Q (nV z) H'
theorem QAQ:(["_law_sign"]:List Str).Nodup:=by decide
theorem QCM(n:Nat):inV (.int (n:Int)) [.int 1,.int 2]=decide (n=1∨n=2):=by
 show(((1:Int) == (n:Int))||(((2:Int) == (n:Int))||false))=_;rw[JD,decide_eq_true_eq];simp;omega
theorem Qvy{α β:Type}(p:α->Bool)(g:α->β)(d:α)(l:List α):((QN l.length).filterMap λi=>if p (l.getD i d)=true then none else some (g (l.getD i d))).isEmpty=l.all p:=by
 have e:(QN l.length).map (λi=>l.getD i d)=l:=by rw[QeX (λx=>x) d l,List.map_id']
 have e2:((QN l.length).filterMap λi=>if p (l.getD i d)=true then none else some (g (l.getD i d)))=l.filterMap λx=>if p x=true then none else some (g x):=by
  conv=>rhs;rw[<- e,ZP]
  rfl
 rw[e2];clear e e2;induction l with
 |nil=>rfl
 |cons a l ih=>
  rw[Y9,Qcj];cases h:p a with
  |true=>simpa [h] using ih
  |false=>simp[h]
theorem Qev{n:Nat}(h:n<=100000):n<sizeLine:=Jt h (by decide)
theorem QmP(F:DefC P w K mg base "_law_number" QjQ)(Tg:GlbA mg) :
  Cal P w K mg base CX0 1 "_law_number" Qgk:=by
 refine okv ["_law_word"] 1 F λcdv A outer s H vs Q E nD hr h=>?_
 obtain⟨z,rfl,hz,q⟩:=h;refine⟨_,Qr (Qat (PW.pt (Qml (Ze Qd9 (ZD Qbk (by rfl) Tg.len Qbm (Qk (pv 0) Qq)) (Ym (Zo Jd (Zo Jd Qq))) (by rfl)) (Qhs (Ze QmI (Y3 (M:=["_law_sign"]) (cap:=[none]) (g:=Qbc 0) (tc:=QwL (tOp (λx y H Q=>∃i j,x=.str i/\y=.str j/\Q (.bl (!(!(ZY j i 0 j.length 1).isEmpty))) H) (Qbq 0) (tC (.str (Qe "0123456789"))))) (te:=Qbq 0) rfl (by rfl) (QxB (pv 0)) (λcl ex s3 H3 C=>⟨Yv (i:=0) QAQ rfl (Qx rfl) (QL rfl),Qmn (Ze QhA (pv 0) Jb (by rfl)),pv 0⟩)) (Za Qq) (JZ _))))) (QQ (JI QbE)) Zs)
  (Qr (Qat (PW.pt (Qht (Ze QiB (ZD Qbk (by rfl) Tg.len Qbm (Qk (pv 0) Qq)) Jd (JZ _)) (QeN (Ze QiB (Yo Qne (pv 0) Jd (λ_ _=>rfl)) Jb (JZ _))))) (QQ (JI QbE)) Zs)
  (QQ (JI (ZT Qbl (by rfl) Tg.int Qdv (Qk (pv 0) Qq))))),?_⟩
 have hU:=Room.u60 hr;have n0:QeU z=false->∀H',Same H H'->Q .non H':=λe H' s'=>by
  have:=q H' s';unfold nV at this;rw[QmY,e] at this;exact this
 refine⟨_,rfl,z,rfl,Ji (Qev hz),by show 2<=1000;decide,λt1 H1 s1 _ a1=>⟨t1,_,rfl,.inr (SqT.of a1),rfl,rfl,_,rfl,?_⟩⟩;show if(!inV (.int (z.length:Int)) [.int 1,.int 2])=true then _ else _
 rw[QCM];cases e1:decide (z.length=1∨z.length=2) with
 |false=>exact QbZ (n0 (by unfold QeU;rw[e1];rfl) H1 s1)
 |true=>
  have l2:=of_decide_eq_true e1;refine Qb0 ?_
  refine⟨_,rfl,z,rfl,λpl hpl=>?_⟩;have hz2:z.cps.size=z.cps.toList.length:=Jh.symm;have zl:z.length=z.cps.size:=rfl;refine Y6 z.cps.toList.length (ZB (by omega)) (λi=>if dig (z.cps.toList.getD i 0)=true then none else some (.str ⟨#[z.cps.toList.getD i 0]⟩)) hpl (λi H2 hi s2=>?_) (λH2 s2=>?_) λH2 s2 e3=>?_
  ·refine⟨by show i<z.cps.size;omega,λx H3 ⟨eH,c,hc,ev⟩ kn kv h1 h2=>?_⟩;subst eH ev;have ec:z.cps.toList.getD i 0=c:=by rw[Qg,Qkl,hc];rfl
   rw[ec] at h1 h2;refine⟨trivial,?_⟩;refine⟨_,rfl,_,_,rfl,rfl,_,rfl,?_⟩;rw[PySem.StrLaws.found_one];show if(!dig c)=true then _ else _
   cases hd:dig c with
   |true=>exact Qb0 (h1 (by rw[hd];rfl) H3 λ_ _ z=>z)
   |false=>exact QbZ ⟨_,rfl,h2 _ (by rw[hd];rfl) H3 λ_ _ z=>z⟩
  ·exact hz2.symm
  ·refine⟨by show 0<=1000;decide,λl3 H3 s3 _ a3=>⟨pl,l3,_,rfl,rfl,s3 _ _ e3,a3,Jt (Qa3 _ 60) hU,_,rfl,?_⟩⟩;rw[Qvy dig (λc=>V.str ⟨#[c]⟩) 0 z.cps.toList];have s13:=(s1.trans s2).trans s3;cases e2:z.cps.toList.all dig with
   |false=>exact QbZ (n0 (by unfold QeU;rw[e1,e2];rfl) H3 s13)
   |true=>
    refine Qb0 ⟨_,rfl,z,rfl,Ji (Qev hz),rfl,_,rfl,?_⟩;have fin:QeU z=true->∃n,PySem.intText? z=some n/\z.length<=640/\Q (.int n) H3:=λe=>by
     have en:QbH z=true:=by rw[QmY];exact e
     obtain⟨n,_,hi,hl⟩:=QjI en;have:=q H3 s13;unfold nV at this;rw[en] at this;have this:Q (.int (QeT z)) H3:=this;unfold QeT at this;rw[hi] at this;exact⟨_,hi,by omega,this⟩
    have el:decide (V.int (z.length:Int)=V.int 2)=decide (z.length=2):=by
     rw[JD,decide_eq_true_eq,decide_eq_true_eq];exact⟨λz=>by have:=V.int.inj z;omega,λz=>by rw[z];rfl⟩
    rw[el];cases e4:decide (z.length=2) with
    |false=>
     obtain⟨n,h1,h2,h3⟩:=fin (by unfold QeU;rw[e1,e2,e4];rfl);exact Qb0 ⟨_,rfl,z,n,rfl,h1,h2,h3⟩
    |true=>
     refine QbZ ⟨_,rfl,z,0,z.cps.toList.getD 0 0,rfl,rfl,Ji (Qev hz),Q3 (j:=0) ?_,rfl,_,rfl,?_⟩
     ·have:=of_decide_eq_true e4;rw[Qg,Qd (by omega)];rfl
     have ez:decide (V.str ⟨#[z.cps.toList.getD 0 0]⟩=V.str (Qe "0"))=decide (z.cps.toList.getD 0 0=48):=by
      rw[JD,decide_eq_true_eq,decide_eq_true_eq];constructor
      ·intro h;have h:=congrArg Str.cps (V.str.inj h);have h:#[z.cps.toList.getD 0 0]=#[48]:=h;exact(Qf8 (congrArg Qkj h)).1
      ·intro h;rw[h];rfl
     rw[ez];cases e5:decide (z.cps.toList.getD 0 0=48) with
     |true=>exact QbZ (n0 (by unfold QeU;rw[e1,e2,e4,e5];rfl) H3 s13)
     |false=>
      obtain⟨n,h1,h2,h3⟩:=fin (by unfold QeU;rw[e1,e2,e4,e5];rfl);exact Qb0 ⟨_,rfl,z,n,rfl,h1,h2,h3⟩
def QoM:Rw->Str
 |.alone i=>Yp.getD i csE
 |.place j _ _=>Y2.getD j csE
def Ql0:Rw->List V
 |.alone _=>[]
 |.place _ n m=>[.int n,.int m]
def QBv(H:Hp)(Q:VK):Option Rw->Prop
 |none=>∀H',Same H H'->Q .non H'
 |some r=>∀t l H',Same H H'->H l=none->H' t=some (.tup [.str (QoM r),.ref l])->H' l=some (.lst (Ql0 r))->Q (.ref t) H'
def Qjl:Sp:=λvs H Q _=>∃(x:V)(d:Qb),vs=[x]/\DA N0 H x d/\(∀t,d=.str t->t.length<=3000)/\QBv H Q (QfB d)
theorem Qyi:(["_law_word"]:List Str).Nodup:=by decide
theorem Qnl{l:List Str}{z:Str}{i:Nat}(h:Qco l z=some i):l.getD i csE=z:=by
 unfold Qco at h;obtain⟨hl,e,_⟩:=Qen.mp h;rw[Qg,Qd hl];exact of_decide_eq_true e
theorem Qdp{l:List Str}{z:Str}:Qco l z=none↔z∉l:=by
 unfold Qco;rw[List.findIdx?_eq_none_iff];constructor
 ·intro h hz;have:=h z hz;simp at this
 ·intro h x hx;exact decide_eq_false λe=>h (e ▸ hx)
theorem QpO{z:Str}(h:z∈Y2):Qco Yp z=none:=by
 have:∀z∈Y2,Qco Yp z=none:=by decide
 exact this z h
theorem Ql2{z:Str}{ns:List Str}{j:Nat}(hj:Qco Y2 z=some j):QoO (z::ns)=if Qim ns=true then some (.place j (QeT (ns.getD 0 csE)) (QeT (ns.getD 1 csE))) else none:=by
 have hz:z∈Y2:=Qbp λh=>by rw[Qdp.mpr h] at hj;cases hj
 show(match Qco Yp z,ns with | some i,[]=>some (Rw.alone i) | _,ns=>match Qco Y2 z with | some j=>if Qim ns=true then some (.place j (QeT (ns.getD 0 csE)) (QeT (ns.getD 1 csE))) else none | none=>none)=_;rw[QpO hz,hj]
theorem Ql3{z:Str}{ns:List Str}(hj:Qco Y2 z=none):QoO (z::ns)=if ns.isEmpty=true then(Qco Yp z).map Rw.alone else none:=by
 show(match Qco Yp z,ns with | some i,[]=>some (Rw.alone i) | _,ns=>match Qco Y2 z with | some j=>if Qim ns=true then some (.place j (QeT (ns.getD 0 csE)) (QeT (ns.getD 1 csE))) else none | none=>none)=_;rw[hj];cases ns<;>cases Qco Yp z<;>rfl
theorem Qu5(ns:List Str):inV V.non (ns.map nV) = !ns.all QbH:=by
 unfold inV;induction ns with
 |nil=>rfl
 |cons a l ih=>
  rw[JB,Qap,Qcj,ih];unfold nV;cases QbH a<;>rfl
theorem Qvw(ns:List Str):(ns.map nV).all QfE=true:=by
 rw[Qk6];refine JA.mpr λz _=>?_
 show QfE (nV z)=true;unfold nV;cases QbH z<;>rfl
theorem QmO(F:DefC P w K mg base "_law_parsed" QjP)(Tg:GlbA mg)
   (c1:Cal P w K mg base CX0 1 "_law_number" Qgk) :
  Cal P w K mg base CX0 3 "_law_parsed" Qjl:=by
 refine okv ["_law_row", "_law_words", "_law_numbers", "_law_some"] 1 F λcdv A outer s H vs Q E nD hr h=>?_
 obtain⟨x,d,rfl,hx,ht,q⟩:=h;refine' ⟨_,Qr (Qat (QT.h (E:=E0) (QbD (QbC (Jp (Qd7 .str (by rfl) Tg.isinstance (qp 0) (by rfl) Tg.str Qff))))) (QQ (JI QbE)) Zs) ?p1,?rd⟩
 case p1=>
  show PSs _ _ _;refine' Qr (Qba 1 nD (Qbb PySem.F.plainAttrs_str PySem.F.slot_str_split PySem.F.type_str_split Qdi (pv 0) (Qk Jb Qq))) ?_
  show PSs _ _ _;refine' Qr (Qjy (i:=2) (M:=["_law_word"]) (cap:=[none]) (g:=Qbc 0) (tc:=QaR) (te:=Qkr Qgk [] E0 (Qae (Qbq 0) Qej)) nD rfl rfl rfl (by rfl) (QcH (Yd Qbf (pv 1) (Y0 Jd) Y1)) (λcl ex s3 H3 C=>⟨Yv (i:=0) Qyi rfl (Qx rfl) (QL rfl),QaV,(Zj c1 hr (Qk (pv 0) Qq))⟩)) ?_
  show PSs _ _ _;refine' Qr (Qat (Ze Qdg (Yo Zu (pv 1) Jd (λ_ _=>rfl)) (Ym (Zo Jb (Zo Jb Qq))) (by rfl)) (Qr (Qat (PW.pt (Qml (Ze Qpr (ZD Z0 (by rfl) Tg.len Qbm (Qk (pv 2) Qq)) Jd (JZ _)) (Qhs (Ze Qdg QbE (pv 2) (by rfl))))) (QQ (JI QbE)) Zs) (QQ (JI (Ym (Zo (Yo Zu (pv 1) Jd (λ_ _=>rfl)) (Zo (pv 2) Qq)))))) Zs) ?_
  show PSs _ _ _;refine' Qr ?a3 ?_
  case a3=>
   refine' Yk (i:=3) (hs:=?hh) (hf:=?hf) ?hN ?hi ?hx ?he
   case hN=>exact nD
   case hi=>exact rfl
   case hx=>exact Qx rfl
   case hf=>exact Qx rfl
   case hh=>kernel_rfl
   case he=>exact(Za (Zo Jb (Zo Jb (Zo Jb (Zo Jb (Zo Jb (Zo Jb (Zo Jb (Zo Jb (Zo Jb (Zo Jb Qq)))))))))))
  show PSs _ _ _;refine' Qr (Qat (PW.pt (Qml (Ze QmI (pv 2) (Za Qq) (JZ _)) (Qhs (Ze Qd9 (Yo Zu (pv 1) Jd (λ_ _=>rfl)) (pv 3) (by rfl))))) (QQ (JI QbE)) Zs) ?_
  show PSs _ _ _;exact QQ (JI (Ym (Zo (Yo Zu (pv 1) Jd (λ_ _=>rfl)) (Zo (Za Qq) Qq))))
 case rd=>
  have hU:=Room.u60 hr;refine hyT [.v d,.no,.no,.no] (.cons ⟨_,rfl,hx⟩ (.cons JF (.cons JF (.cons JF .nil)))) ?_
  have no:∀H',Same H H'->QfB d=none->Q .non H':=λH' s' e=>by rw[e] at q;exact q H' s'
  cases d with
  |str t=>
   refine λH1 s1=>?_
   show if(false:Bool)=true then _ else _
   refine Qb0 ?_
   have xt:x=.str t:=by cases hx;rfl
   subst xt;have ht:=ht t rfl;refine⟨_,rfl,rfl,t,Qe " ",rfl,rfl,rfl,by omega,λlw H2 s2 n2 a2=>?_⟩;have up:∀{a:Addr}{H':Hp},Same H H'->H' a=none->H a=none:=λ{a H'} s' h=>by
    cases e:H a with
    |none=>rfl
    |some o=>rw[s' _ _ e] at h;cases h
   obtain⟨z,ns,ew⟩:=Qgi t (Qe " ");have sl:=L2.split_le t (Qe " ");have sp:∀u∈z::ns,u.length<=3000:=λu hu=>Qt (QfM (y:=Qe " ") (by rw[ew];exact hu)) ht
   have er:QfB (.str t)=QoO (z::ns):=by show QoO (Zy t (Qe " "))=_;rw[ew]
   rw[er] at q no;rw[ew] at a2 sl;have nl:ns.length<=3002:=by rw[Qu] at sl;omega
   refine⟨_,rfl,_,rfl,lw,_,rfl,SqL.of a2,λln H3 s3 n3 a3=>⟨ln,rfl,⟨_,SqL.of a3⟩,λpl hpl=>?_⟩⟩;have a3:H3 ln=some (.lst (ns.map V.str)):=by rw[a3];exact congrArg (λq=>some (HO.lst q)) (QBn (.str z) (ns.map V.str))
   have at_:∀i,i<ns.length->(ns.map V.str)[i]? = some (.str (ns.getD i csE)):=λi hi=>by
    rw[Qz,Qg,Qd hi];rfl
   have s13:=(s1.trans s2).trans s3;refine Y6 ns.length (Qev (by omega)) (λi=>some (nV (ns.getD i csE))) hpl (λi H4 hi s4=>?_) (λH4 s4=>?_) λH4 s4 e4=>?_
   ·refine⟨⟨_,_,SqL.of (s4 _ _ a3),at_ i hi⟩,λx H5 ⟨eH,ev⟩ kn kv h1 h2=>?_⟩;subst eH;have ex:=ev _ (SqL.of (s4 _ _ a3));rw[at_ i hi] at ex;cases ex;refine⟨trivial,?_⟩;refine(QbZ (B:=kn H5) ?_:if true=true then _ else kn H5);refine⟨_,rfl,_,rfl,?_,λH6 s6=>h2 _ rfl H6 s6⟩;refine Qt (sp _ (QX _ ?_)) (by decide);rw[Qg,Qd hi];exact Jz _
   ·exact⟨_,SqL.of (s4 _ _ a3),by rw[Qc];exact Qf _⟩
   ·rw[fmS,QeX nV csE ns] at e4;have aw:=s4 _ _ (s3 _ _ a2);have s14:=s13.trans s4;refine⟨_,rfl,lw,_,0,.str z,rfl,rfl,SqL.of aw,Q3 (j:=0) rfl,by show 2<=1000;decide,λt5 H5 s5 _ a5=>⟨t5,_,rfl,.inr (SqT.of a5),rfl,rfl,_,rfl,?_⟩⟩;show if inV (V.str z) (Y2.map V.str)=true then _ else _
    rw[QgC];have s15:=s14.trans s5;have e5:=s5 _ _ e4;cases hj:Qco Y2 z with
    |some j=>
     have hz:z∈Y2:=Qbp λh=>by rw[Qdp.mpr h] at hj;cases hj
     rw[decide_eq_true hz];rw[Ql2 hj] at q no;refine QbZ ⟨_,rfl,pl,_,rfl,.inl (SqL.of e5),rfl,_,rfl,?_⟩;rw[Qc];have el:decide (V.int (ns.length:Int)=V.int 2)=decide (ns.length=2):=by
      rw[JD,decide_eq_true_eq,decide_eq_true_eq];exact⟨λz=>by have:=V.int.inj z;omega,λz=>by rw[z];rfl⟩
     rw[el];cases e2:decide (ns.length=2) with
     |false=>exact QbZ (no H5 s15 (by unfold Qim;rw[e2];rfl))
     |true=>
      refine Qb0 ⟨_,rfl,pl,_,rfl,.inl (SqL.of e5),rfl,Qvw ns,_,rfl,?_⟩;show if inV V.non (ns.map nV)=true then _ else _
      rw[Qu5];cases e3:ns.all QbH with
      |false=>exact QbZ (no H5 s15 (by unfold Qim;rw[e2,e3];rfl))
      |true=>
       refine Qb0 ⟨_,rfl,lw,_,0,.str z,rfl,rfl,SqL.of (s5 _ _ aw),Q3 (j:=0) rfl,_,rfl,by show 2<=1000;decide,λt6 H6 s6 n6 a6=>?_⟩;have w2:Qim ns=true:=by unfold Qim;rw[e2,e3];rfl
       rw[w2] at q;have l2:=of_decide_eq_true e2;refine q t6 pl H6 (s15.trans s6) (up ?_ hpl) (by rw[a6];show some (HO.tup [.str z,.ref pl])=some (HO.tup [.str (Y2.getD j csE),.ref pl]);rw[Qnl hj]) ?_
       ·exact s13
       ·rw[s6 _ _ e5]
        match ns,l2,e3 with
        |[u1,u2],_,hall=>
         have h1:QbH u1=true/\QbH u2=true:=by simpa using hall
         show some (HO.lst [nV u1,nV u2])=some (HO.lst [V.int (QeT u1),V.int (QeT u2)]);unfold nV;rw[h1.1,h1.2];rfl
    |none=>
     have hz:z∉Y2:=Qdp.mp hj;rw[decide_eq_false hz];rw[Ql3 hj] at q no;refine Qb0 ⟨by show 10<=1000;decide,λl6 H6 s6 n6 a6=>?_⟩;refine⟨_,rfl,by show 0<=1000;decide,λl7 H7 s7 _ a7=>⟨pl,l7,_,rfl,rfl,s7 _ _ (s6 _ _ e5),a7,Jt (Qa3 _ 60) hU,_,rfl,?_⟩⟩;have s17:=(s15.trans s6).trans s7;cases ns with
     |cons n ns=>exact QbZ (no H7 s17 rfl)
     |nil=>
      refine Qb0 ⟨_,rfl,lw,_,0,.str z,rfl,rfl,SqL.of (s7 _ _ (s6 _ _ (s5 _ _ aw))),Q3 (j:=0) rfl,_,rfl,l6,_,rfl,.inl (SqL.of (s7 _ _ a6)),rfl,rfl,_,rfl,?_⟩;show if(!inV (V.str z) (Yp.map V.str))=true then _ else _
      rw[QgC];cases hi:Qco Yp z with
      |none=>
       rw[decide_eq_false (Qdp.mp hi)];exact QbZ (no H7 s17 (by rw[hi];rfl))
      |some i=>
       have hz:z∈Yp:=Qbp λh=>by rw[Qdp.mpr h] at hi;cases hi
       rw[decide_eq_true hz];rw[hi] at q;refine Qb0 ⟨_,rfl,lw,_,0,.str z,rfl,rfl,SqL.of (s7 _ _ (s6 _ _ (s5 _ _ aw))),Q3 (j:=0) rfl,by show 0<=1000;decide,λl8 H8 s8 n8 a8=>⟨by show 2<=1000;decide,λt9 H9 s9 n9 a9=>?_⟩⟩;exact q t9 l8 H9 ((s17.trans s8).trans s9) (up s17 n8) (by rw[a9];show some (HO.tup [.str z,.ref l8])=some (HO.tup [.str (Yp.getD i csE),.ref l8]);rw[Qnl hi]) (s9 _ _ a8)
  |_=>exact λH1 s1=>no H1 s1 rfl
abbrev lOdd:J7:=top 96
abbrev QsE:J7:=top 99
def shT(d:Qb):Prop:=∀t,d=.str t->t.length<=3000
theorem Qda{d:Qb}(h:match d with | .str _=>False | _=>True):shT d:=λt e=>by subst e;exact h.elim
theorem QwZ{t:Str}(h:t.length<=3000):shT (.str t):=λu e=>by cases e;exact h
def QBV:DF:=λargs R _=>args=[.pot]/\∀d,shT d->R d
theorem QuQ(F:DefC P w K mg base "_law_odd" lOdd)(T:GlbA mg)
  (c1:Cal P w K mg base CX0 1 "_law_take" (ZN true QoE)) :
  Cal P w K mg base CX0 2 "_law_odd" (ZN false QBV):=by
 refine okq ["_law_pot_here", "_law_some"] 1 false F λcdv A outer s H E nD hr hU hI=>?_
 refine⟨_,QF (Z8 1 (JV (QcG (J8 QtS (J8 Qwi (J8 Qwi (J8 (JV (QoX (Q9 Jo))) (J8 Jo (J8 (JV (YC QjG QiD (Q9 Jo) (Q9 Jo))) (J8 Qaj (J8 Qaj (J8 Qaj (J8 (JV (ZZ Ja)) (J8 (JV (ZZ (J8 Jo Ja))) (J8 (JV (ZZ (J8 Jo (J8 Jo Ja)))) (J8 (JV (QcG (J8 Jo Ja))) (J8 Qxv (J8 (JV (ZZ (J8 (JV (ZZ (J8 Jo (J8 Jo Ja)))) Ja))) (J8 (JV (QcG (J8 (JV (ZZ (J8 Jo (J8 Jo Ja)))) Ja))) Ja)))))))))))))))))) nD)
  (Jf (QaU (QaO JO Zx (qp 1) (Jp (QbW c1 hr (Qd5 0 (Yz Jo Zi)))) (λ_ _=>rfl)))),λargs R EX h=>?_⟩
 obtain⟨rfl,hR⟩:=h;refine⟨⟨by decide,by decide⟩,_,rfl,by decide,by decide,λr r0 r1=>Qp3 r0 r1 λd hd=>hR d ?_⟩;exact ZG (p:=shT) (Qda trivial) (ZG (Qda trivial) (ZG (Qda trivial) (ZG (Qda trivial) (ZG (Qda trivial) (ZG (Qda trivial) (ZG (QwZ (by decide)) (ZG (QwZ (by decide)) (ZG (QwZ (by decide)) (ZG (Qda trivial) (ZG (Qda trivial) (ZG (Qda trivial) (ZG (Qda trivial) (ZG (Qda trivial) (ZG (Qda trivial) (ZG (Qda trivial) (Qs4)))))))))))))))) d hd
def Qxn:R2:=λx y H Q=>∃i j,x=.str i/\y=.str j/\i.length+j.length<=sizeLine/\Q (.str (i++j)) H
theorem Qbt{X:Cx}:OpR X (binaryOp .Add) Qxn:=QkA
structure BT (σ:L2.St) (H:Hp):Prop where
 row:∃z:Str,σ[1]? = some (some (.str z))/\z.length<=20/\asc z=true
 at_:∃i:Int,σ[3]? = some (some (.int i))
 sg:∃z:Str,σ[4]? = some (some (.str z))/\z.length<=1/\asc z=true
 wd:∃(l:Addr)(ws:List Str),σ[5]? = some (some (.ref l))/\H l=some (.lst (ws.map V.str))/\ws.length<=22/\∀w∈ws,w.length<=20/\asc w=true
 sp:∃i:Int,σ[6]? = some (some (.int i))
theorem BT.same{σ:L2.St}{H H':Hp}(b:BT σ H)(s:Same H H'):BT σ H':=by
 obtain⟨l,ws,e,h,r⟩:=b.wd;exact⟨b.row,b.at_,b.sg,⟨l,ws,e,s _ _ h,r⟩,b.sp⟩
def Yl(B:Nat)(t:TE):Prop:=∀σ H Q,BT σ H->(∀y H',asc y=true->y.length<=B->Same H H'->Q (.str y) H')->t σ H Q
theorem Qg8:Yl 20 (Qbq 1):=λσ H Q b k=>by
 obtain⟨z,e,hl,ha⟩:=b.row;exact⟨_,e,k z H ha hl λ_ _ z=>z⟩
theorem Qwy:Yl 1 (Qbq 4):=λσ H Q b k=>by
 obtain⟨z,e,hl,ha⟩:=b.sg;exact⟨_,e,k z H ha hl λ_ _ z=>z⟩
theorem Qd2{c:Str}(h:asc c=true):Yl c.length (tC (.str c)):=λσ H Q b k=>k c H h (Qf _) λ_ _ z=>z
theorem Qc7{a b n:Nat}{t u:TE}(ht:Yl a t)(hu:Yl b u)(hn:a+b<=n)(h:n<=1000):Yl n (tOp Qxn t u):=λσ H Q x k=>
 ht σ H _ x λy H1 hy ly s1=>hu σ H1 _ (x.same s1) λw H2 hw lw s2=>⟨y,w,rfl,rfl,Ji (ZB (by omega)),k _ H2 (QiW hy hw) (by rw[Str.length_append];omega) (s1.trans s2)⟩
def Po(t:TO):Prop:=∀σ H Q,BT σ H->(∀o,Q o H)->t σ H Q
theorem Qoj:Po QlG:=λσ H Q _ k=>k _
theorem Qzz:Po (QlE (Qbq 3)):=λσ H Q b k=>by
 obtain⟨i,e⟩:=b.at_;exact⟨_,e,i,rfl,k _⟩
theorem QxA:Po (QlE (tOp (rI0 λi j=>.int (i+j)) (Qbq 3) (tC (.int 1)))):=λσ H Q b k=>by
 obtain⟨i,e⟩:=b.at_;exact⟨_,e,i,1,rfl,rfl,_,rfl,k _⟩
theorem QBU:Po (QlE (Qbq 6)):=λσ H Q b k=>by
 obtain⟨i,e⟩:=b.sp;exact⟨_,e,i,rfl,k _⟩
theorem Qxz:Po (QlE (tOp (rI0 λi j=>.int (i+j)) (Qbq 6) (tC (.int 1)))):=λσ H Q b k=>by
 obtain⟨i,e⟩:=b.sp;exact⟨_,e,i,1,rfl,rfl,_,rfl,k _⟩
theorem Qkm{lo hi:TO}(hl:Po lo)(hh:Po hi):Yl 20 (tSl Qxf (Qbq 1) lo hi):=λσ H Q b k=>by
 obtain⟨z,e,hz,ha⟩:=b.row;exact⟨_,e,hl σ H _ b λl=>hh σ H _ b λu=>⟨z,rfl,by omega,λy ly hy=>k y H (hy ha) (by omega) λ_ _ z=>z⟩⟩
def Ls(t:TE):Prop:=∀σ H Q,BT σ H->(∀l us H',Same H H'->H' l=some (.lst ((us:List Str).map V.str))->us.length<=22->(∀w∈us,w.length<=20/\asc w=true)->Q (.ref l) H')->t σ H Q
theorem QpZ{K:PySem.W.Frag}{lo hi:TO}(hl:Po lo)(hh:Po hi):Ls (tSl (QtK K) (Qbq 5) lo hi):=λσ H Q b k=>by
 obtain⟨l,ws,e,hw,wl,wa⟩:=b.wd;refine⟨_,e,hl σ H _ b λo=>hh σ H _ b λu=>⟨l,_,rfl,SqL.of hw,λp H' s' n' e'=>?_⟩⟩;unfold QhS at e';rw[<- List.map_drop,<- Qi1] at e';exact k p _ H' s' e' (by rw[YY,Qcs];omega) λw hw=>wa w (List.mem_of_mem_drop (List.mem_of_mem_take hw))
theorem Qlp{K:PySem.W.Frag}{t u:TE}(ht:Ls t)(hu:Ls u):Yl 1000 (tBM K "str" (Qxk K) (tC (.str (Qe " "))) (Qae (tOp Qxl t u) Qej)):=λσ H Q b k=>by
 refine⟨rfl,ht σ H _ b λl us H1 s1 e1 n1 w1=>hu σ H1 _ (b.same s1) λm vs H2 s2 e2 n2 w2=>⟨l,m,_,_,rfl,rfl,s2 _ _ e1,e2,by rw[Qc,Qc];omega,λa H3 s3 _ e3=>?_⟩⟩;rw[<- Je] at e3;have wb:∀w∈us++vs,w.length<=20/\asc w=true:=λw hw=>(QC.mp hw).elim (w1 w) (w2 w)
 refine⟨_,a,us++vs,rfl,rfl,SqL.of e3,QdP (B:=20) (λy hy=>(wb y hy).1) ?_,k _ H3 (Qn3 (by decide) λw hw=>(wb w hw).2) ?_ ((s1.trans s2).trans s3)⟩
 ·rw[Qj];show _*20+_*1<=_;omega
 ·show(Qc6 (Qe " ") (us++vs)).length<=1000;rw[QaA];refine Qt (Qh8 _ _) ?_
  have:∀(l:List Str),(∀w∈l,w.length<=20)->(l.map (·.length)).sum<=l.length*20:=λl=>by
   induction l with
   |nil=>exact λ_=>Qf _
   |cons a l ih=>
    intro h;have h1:=h a (Jl ..);have h2:=ih λw hw=>h w (QX _ hw)
    rw[JB,Qi0,Qu];omega
  have:=this (us++vs) λw hw=>(wb w hw).1
  rw[Qj] at this ⊢;show _+_*1<=1000;omega
theorem QAh{K:PySem.W.Frag}:Yl 60 (QBF K "str" Ql7 (Qbq 1)):=λσ H Q b k=>by
 obtain⟨z,e,hz,ha⟩:=b.row;exact⟨_,e,rfl,z,rfl,rfl,by omega,λy ly hy=>k y H (hy ha) (by omega) λ_ _ z=>z⟩
def QAm(n:Nat):TA:=λσ H Q=>BT σ H/\∀(ys:List Str) H',ys.length=n->(∀y∈ys,asc y=true/\y.length<=1000)->Same H H'->Q (ys.map V.str) H'
theorem Quv{X:Cx}:PA X [] (QAm 0):=PA.imp Qq λσ H Q ⟨_,k⟩=>k [] H rfl (λy hy=>nomatch hy) λ_ _ z=>z
theorem Qiz{X:Cx}{e:QV}{es:List QV}{t:TE}{B n:Nat}(h:PE X e t)(y:Yl B t)(r:PA X es (QAm n))(hB:B<=1000:=by decide)(hs:notStar e=true:=by rfl):PA X (e::es) (QAm (n+1)):=
 PA.imp (Zo h r hs) λσ H Q ⟨b,k⟩=>y σ H _ b λu H1 ha hl s1=>⟨b.same s1,λys H2 hn hy s2=>k (u::ys) H2 (by rw[Qu,hn]) (λw hw=>by
  rcases QM.mp hw with rfl | hw
  ·exact⟨ha,by omega⟩
  ·exact hy w hw) (s1.trans s2)⟩
def QlT:Sp:=λvs H Q _=>∃(p:Addr)(m:Int)(z:Str),vs=[.ref p,.str z]/\H p=some (.lst [.int m])/\z.length<=20/\asc z=true/\∀x d H',K1 p H H'->(∃m:Int,H' p=some (.lst [.int m]))->DA (λa=>∃xs,H a=some (.lst xs)) H' x d->shT d->Q x H'
theorem Qu1(F:DefC P w K mg base "_law_bent" QsE)(Tg:GlbA mg)
   (c1:Cal P w K mg base CX0 1 "_law_take" Qc9)
   (c2:Cal P w K mg base CX0 2 "_law_odd" (ZN false QBV)) :
  Cal P w K mg base CX0 3 "_law_bent" QlT:=by
 refine okv ["_law_pot_here", "_law_row", "_law_signs", "_law_at", "_law_sign", "_law_words", "_law_spot", "_law_some"] 2 F λcdv A outer s H vs Q E nD hr h=>?_
 obtain⟨p,m,z,rfl,hp,hz,ha,q⟩:=h;refine' ⟨_,Qr (Qba 2 nD Jb) ?p1,?rd⟩
 case p1=>
  show PSs _ _ _;refine' Qr (Qba 2 nD (ZF Qbt (pv 2) Jb)) ?_
  show PSs _ _ _;refine' Qr (Qba 3 nD (Zj c1 hr (Qk (pv 0) (Qk (ZF Qca (ZD Qbk (by rfl) Tg.len Qbm (Qk (pv 1) Qq)) Jd) Qq)))) ?_
  show PSs _ _ _;refine' Qr ?a4 ?_
  case a4=>
   refine' Yk (i:=4) (hs:=?hh) (hf:=?hf) ?hN ?hi ?hx ?he
   case hN=>exact nD
   case hi=>exact rfl
   case hx=>exact Qx rfl
   case hf=>exact Qx rfl
   case hh=>kernel_rfl
   case he=>exact(Yo Zu (Za (Zo Jb (Zo Jb (Zo Jb (Zo (Yo Qne (pv 2) (Zj c1 hr (Qk (pv 0) (Qk (ZD Qbk (by rfl) Tg.len Qbm (Qk (pv 2) Qq)) Qq))) (λ_ _=>rfl)) Qq))))) (Zj c1 hr (Qk (pv 0) (Qk Jd Qq))) (λ_ _=>rfl))
  show PSs _ _ _;refine' Qr (Qba 5 nD (Qbb PySem.F.plainAttrs_str PySem.F.slot_str_split PySem.F.type_str_split Qdi (pv 1) (Qk Jb Qq))) ?_
  show PSs _ _ _;refine' Qr (Qba 6 nD (Zj c1 hr (Qk (pv 0) (Qk (ZD Z0 (by rfl) Tg.len Qbm (Qk (pv 5) Qq)) Qq)))) ?_
  show PSs _ _ _;refine' Qr ?a5 ?_
  case a5=>
   refine' Yk (i:=7) (hs:=?hh) (hf:=?hf) ?hN ?hi ?hx ?he
   case hN=>exact nD
   case hi=>exact rfl
   case hx=>exact Qx rfl
   case hf=>exact Qx rfl
   case hh=>kernel_rfl
   case he=>exact(Za (Qiz (pv 1) Qg8 (Qiz (ZF Qbt (ZF Qbt (Yd QdH (pv 1) Y1 (Y0 (pv 3))) (pv 4)) (Yd QdH (pv 1) (Y0 (pv 3)) Y1)) (Qc7 (n:=41) (Qc7 (n:=21) (Qkm Qoj Qzz) Qwy (by decide) (by decide)) (Qkm Qzz Qoj) (by decide) (by decide)) (Qiz (ZF Qbt (Yd QdH (pv 1) Y1 (Y0 (pv 3))) (Yd QdH (pv 1) (Y0 (ZF Qca (pv 3) Jd)) Y1)) (Qc7 (n:=40) (Qkm Qoj Qzz) (Qkm QxA Qoj) (by decide) (by decide)) (Qiz (ZF Qbt (ZF Qbt (Yd QdH (pv 1) Y1 (Y0 (pv 3))) (pv 4)) (Yd QdH (pv 1) (Y0 (ZF Qca (pv 3) Jd)) Y1)) (Qc7 (n:=41) (Qc7 (n:=21) (Qkm Qoj Qzz) Qwy (by decide) (by decide)) (Qkm QxA Qoj) (by decide) (by decide)) (Qiz (ZF Qbt (pv 1) Jb) (Qc7 (n:=22) Qg8 (Qd2 (by decide)) (by decide) (by decide)) Quv))))))
  show PSs _ _ _;refine' Qr ?a6 ?_
  case a6=>
   refine' Yk (i:=7) (hs:=?hh) (hf:=?hf) ?hN ?hi ?hx ?he
   case hN=>exact nD
   case hi=>exact rfl
   case hx=>exact Qx rfl
   case hf=>exact Qx rfl
   case hh=>kernel_rfl
   case he=>exact(ZF QaW (pv 7) (Za (Qiz (Qbb PySem.F.plainAttrs_str PySem.F.slot_str_join PySem.F.type_str_join QbN Jb (Qk (ZF QaW (Yd Qbf (pv 5) Y1 (Y0 (ZF Qca (pv 6) Jd))) (Yd Qbf (pv 5) (Y0 (pv 6)) Y1)) Qq)) (Qlp (QpZ Qoj Qxz) (QpZ QBU Qoj)) (Qiz (Qbb PySem.F.plainAttrs_str PySem.F.slot_str_join PySem.F.type_str_join QbN Jb (Qk (ZF QaW (Yd Qbf (pv 5) Y1 (Y0 (pv 6))) (Yd Qbf (pv 5) (Y0 (ZF Qca (pv 6) Jd)) Y1)) Qq)) (Qlp (QpZ Qoj QBU) (QpZ Qxz Qoj)) Quv))))
  show PSs _ _ _;refine' Qr ?a7 ?_
  case a7=>
   refine' Yk (i:=7) (hs:=?hh) (hf:=?hf) ?hN ?hi ?hx ?he
   case hN=>exact nD
   case hi=>exact rfl
   case hx=>exact Qx rfl
   case hf=>exact Qx rfl
   case hh=>kernel_rfl
   case he=>exact(ZF QaW (pv 7) (Za (Qiz (Qmv PySem.F.plainAttrs_str PySem.F.slot_str_upper PySem.F.type_str_upper Qm2 (pv 1)) QAh (Qiz (ZF Qbt Jb (pv 1)) (Qc7 (n:=21) (Qd2 (by decide)) Qg8 (by decide) (by decide)) (Qiz (ZF Qbt (pv 1) Jb) (Qc7 (n:=21) Qg8 (Qd2 (by decide)) (by decide) (by decide)) (Qiz (ZF Qbt (pv 1) Jb) (Qc7 (n:=21) Qg8 (Qd2 (by decide)) (by decide) (by decide)) (Qiz Jb (Qd2 (by decide)) (Qiz Jb (Qd2 (by decide)) (Qiz Jb (Qd2 (by decide)) (Qiz Jb (Qd2 (by decide)) Quv))))))))))
  show PSs _ _ _;refine' Qr ?a8 ?_
  case a8=>
   refine' Yk (i:=7) (hs:=?hh) (hf:=?hf) ?hN ?hi ?hx ?he
   case hN=>exact nD
   case hi=>exact rfl
   case hx=>exact Qx rfl
   case hf=>exact Qx rfl
   case hh=>kernel_rfl
   case he=>exact(ZF QaW (pv 7) (Za (Zo Jb (Zo Jb (Zo Jb (Zo Jb (Zo (Zj c2 hr (Qk (pv 0) Qq)) (Zo (Za (Zo (pv 1) Qq)) (Zo Jb Qq)))))))))
  show PSs _ _ _;exact QQ (JI (Yo Zu (pv 7) (Zj c1 hr (Qk (pv 0) (Qk Jd Qq))) (λ_ _=>rfl)))
 case rd=>
  have pick:∀{l:Str}{r:Int},0<=r->r<l.length->asc l=true->∃c,atI l.cps.toList r=some c/\c<128:=λ{l r} h0 h1 h2=>by
   obtain⟨j,rfl⟩:=Zc h0;have hj:j<l.cps.toList.length:=by rw[Jh];exact Int.ofNat_lt.mp h1
   exact⟨_,Q3 (Qd hj),QaE.mp h2 _ (Jz hj)⟩
  refine⟨_,rfl,_,_,rfl,rfl,by decide,?_⟩;generalize hS:(Qe _++Qe _:Str)=S;have aS:asc S=true:=by rw[<- hS];decide
  have nS:S.length<=200/\0<S.length:=by rw[<- hS];decide
  clear hS;refine⟨_,rfl,_,rfl,z,rfl,Ji (ZB (by omega)),_,_,rfl,rfl,p,m,_,rfl,hp,by omega,by omega,λr1 m1 _ _=>?_⟩;have k1:K1 p H (upd H p (.lst [.int m1])):=λa u h e=>by rw[QK h];exact e
  have p1:(upd H p (.lst [.int m1])) p=some (.lst [.int m1]):=upd_same;generalize upd H p (.lst [.int m1])=H1 at k1 p1;refine⟨_,rfl,_,rfl,_,rfl,S,rfl,Ji (ZB (by omega)),p,m1,_,rfl,p1,by omega,by omega,λr2 m2 c0 c1=>?_⟩;obtain⟨c,hc,c8⟩:=pick c0 c1 aS;refine⟨S,r2,c,rfl,rfl,Ji (ZB (by omega)),hc,by show 4<=1000;decide,λl1 H4 s4 n4 e4=>?_⟩;have k4:K1 p H H4:=λa u h e=>s4 _ _ (by rw[QK h];exact k1 a u h e)
  have p4:H4 p=some (.lst [.int m2]):=s4 _ _ upd_same;have lp:l1≠p:=(Q7 (H:=upd H1 p (.lst [.int m2])) upd_same n4).symm;refine⟨_,rfl,p,m2,4,rfl,p4,by decide,by decide,λr3 m3 d0 d1=>?_⟩;obtain⟨sg,hg,gl,ga⟩:∃sg:Str,atI [V.str (Qe " "),.str (Qe "0"),.str (Qe "1"),.str ⟨#[c]⟩] r3=some (.str sg)/\sg.length<=1/\asc sg=true:=by
   obtain⟨j,rfl⟩:=Zc d0
   match j,d1 with
   |0,_=>exact⟨_,rfl,by decide,by decide⟩
   |1,_=>exact⟨_,rfl,by decide,by decide⟩
   |2,_=>exact⟨_,rfl,by decide,by decide⟩
   |3,_=>exact⟨_,rfl,Qf _,by show(decide (c<128)&&true)=true;rw[decide_eq_true c8];rfl⟩
   |j+4,h=>omega
  refine⟨l1,_,r3,.str sg,rfl,rfl,SqL.of (by rw[QK lp];exact e4),hg,?_⟩;have k5:K1 p H (upd H4 p (.lst [.int m3])):=λa u h e=>by rw[QK h];exact k4 a u h e
  have p5:(upd H4 p (.lst [.int m3])) p=some (.lst [.int m3]):=upd_same;generalize upd H4 p (.lst [.int m3])=H5 at k5 p5;refine⟨_,rfl,rfl,z,Qe " ",rfl,rfl,rfl,by omega,λl6 H6 s6 n6 a6=>?_⟩;have wl:=L2.split_le z (Qe " ");have wa:∀w∈Zy z (Qe " "),w.length<=20/\asc w=true:=λw hw=>⟨Qt (QfM hw) hz,Qn4 ha w hw⟩
  obtain⟨w0,ws0,ew⟩:=Qgi z (Qe " ");have w1:0<(Zy z (Qe " ")).length:=by rw[ew];exact Qll _
  generalize Zy z (Qe " ")=ws at wl wa w1 a6;have wn:(ws.map V.str).length=ws.length:=Qc _;refine⟨_,rfl,_,rfl,l6,_,rfl,.inl (SqL.of a6),p,m3,_,rfl,s6 _ _ p5,by omega,by omega,λr7 m7 _ _=>?_⟩;have lp6:l6≠p:=(Q7 p5 n6).symm;have k7:K1 p H (upd H6 p (.lst [.int m7])):=λa u h e=>by rw[QK h];exact s6 _ _ (k5 a u h e)
  have p7:(upd H6 p (.lst [.int m7])) p=some (.lst [.int m7]):=upd_same;have a7:(upd H6 p (.lst [.int m7])) l6=some (.lst (ws.map V.str)):=by rw[QK lp6];exact a6
  generalize upd H6 p (.lst [.int m7])=H7 at k7 p7 a7;have bt:∀x7 H',Same H7 H'->BT [some (.ref p),some (.str z),some (.str S),some (.int r1),some (.str sg),some (.ref l6),some (.int r7),x7] H':=λx7 H' s'=>
   ⟨⟨z,rfl,hz,ha⟩,⟨_,rfl⟩,⟨sg,rfl,gl,ga⟩,⟨l6,ws,rfl,s' _ _ a7,by omega,wa⟩,⟨_,rfl⟩⟩
  refine⟨bt _ _ λ_ _ z=>z,λy1 H8 n8 b8 s8=>⟨by rw[Qc];omega,λl9 H9 s9 _ e9=>?_⟩⟩;have s79:=s8.trans s9;refine⟨_,rfl,bt _ _ s79,λy2 H10 n10 b10 s10=>⟨by rw[Qc];omega,λl11 H11 s11 _ e11=>⟨l9,l11,_,_,rfl,rfl,s11 _ _ (s10 _ _ e9),e11,by rw[Qc,Qc];omega,λl12 H12 s12 _ e12=>?_⟩⟩⟩;have s7c:=((s79.trans s10).trans s11).trans s12;refine⟨_,rfl,bt _ _ s7c,λy3 H13 n13 b13 s13=>⟨by rw[Qc];omega,λl14 H14 s14 _ e14=>⟨l12,l14,_,_,rfl,rfl,s14 _ _ (s13 _ _ e12),e14,by rw[Qj,Qc,Qc,Qc];omega,λl15 H15 s15 _ e15=>?_⟩⟩⟩;have s7f:=((s7c.trans s13).trans s14).trans s15;have k15:K1 p H H15:=λa u h e=>s7f _ _ (k7 a u h e)
  have p15:=s7f _ _ p7;rw[<- Je,<- Je] at e15;have b15:∀y∈(y1++y2)++y3,asc y=true/\y.length<=1000:=λy hy=>by
   rcases QC.mp hy with hy | hy
   ·rcases QC.mp hy with hy | hy
    ·exact b8 y hy
    ·exact b10 y hy
   ·exact b13 y hy
  have n15:((y1++y2)++y3).length=15:=by rw[Qj,Qj];omega
  generalize (y1++y2)++y3=ys at e15 b15 n15;clear b8 b10 b13 n8 n10 n13 e9 e11 e12 e14 s8 s9 s10 s11 s12 s13 s14 s15 s79 s7c bt a7 k7 p7;have dm:∀x,(∃xs,H15 x=some (.lst xs))->∃ys,H15 x=some (.lst ys):=λx hx=>hx
  refine⟨_,rfl,_,rfl,(λx=>∃xs,H15 x=some (.lst xs)),(λx=>x=p),[.pot],shT,XF,dm,λx hx=>⟨⟨[.int m7],by rw[hx];exact p15⟩,m7,by rw[hx];exact p15⟩,.cons ⟨p,rfl,rfl⟩ .nil,⟨rfl,λd hd=>hd⟩,λd hd v H16 kq dv _=>?_,λ_ z=>z.elim⟩;have k16:K1 p H15 H16:=λa u h e=>kq.1 a u h e
  obtain⟨n0,p16⟩:=kq.2 p rfl;refine⟨_,rfl,by show 1<=1000;decide,λl17 H17 s17 n17 e17=>⟨by show 7<=1000;decide,λl18 H18 s18 n18 e18=>?_⟩⟩;have lpf:l15≠p:=λe=>by rw[e,p15] at e15;cases ys with
   |nil=>cases n15
   |cons a l=>cases e15
  have e16:=k16 _ _ lpf e15;refine⟨l15,l18,_,_,rfl,rfl,s18 _ _ (s17 _ _ e16),e18,by rw[Qc,n15];show 15+7<=1000;decide,λl19 H19 s19 n19 e19=>?_⟩;refine⟨_,rfl,_,rfl,p,n0,22,rfl,s19 _ _ (s18 _ _ (s17 _ _ p16)),by decide,by decide,λr m20 r0 r1=>?_⟩;have s1e:=(s17.trans s18).trans s19;have lp9:l19≠p:=(Q7 (s18 _ _ (s17 _ _ p16)) n19).symm;have up:∀a u,a≠p->H16 a=some u->(upd H19 p (.lst [.int m20])) a=some u:=λa u h e=>by rw[QK h];exact s1e _ _ e
  have kF:K1 p H (upd H19 p (.lst [.int m20])):=λa u h e=>up a u h (k16 a u h (k15 a u h e))
  have eF:(upd H19 p (.lst [.int m20])) l19=some (.lst (ys.map V.str++[.str (Qe ""),.str (Qe " "),.str (Qe "board 0"),.str (Qe "undo undo"),v,.ref l17,.str (Qe "put 100 0")])):=by rw[QK lp9];exact e19
  have lA:∀a,(∃xs,H a=some (.lst xs))->∃xs,H15 a=some (.lst xs):=λa ⟨xs,e⟩=>by
   by_cases hap:a=p
   ·exact⟨[.int m7],by rw[hap];exact p15⟩
   ·exact⟨_,k15 _ _ hap e⟩
  have l7p:l17≠p:=(Q7 p16 n17).symm;have e7F:(upd H19 p (.lst [.int m20])) l17=some (.lst [.str z]):=by rw[QK l7p];exact s19 _ _ (s18 _ _ e17)
  have pF:(upd H19 p (.lst [.int m20])) p=some (.lst [.int m20]):=upd_same;have nA:∀a,¬(∃xs,H15 a=some (.lst xs))->a≠p:=λa h e=>h ⟨[.int m7],by rw[e];exact p15⟩
  have dF:=dv.mv (A':=λa=>∃xs,H a=some (.lst xs)) (H':=upd H19 p (.lst [.int m20])) (λa u h e=>up a u (nA a h) e) λa h=>.inl (lA a h)
  have n7:¬ ∃xs,H l17=some (.lst xs):=λ⟨xs,e⟩=>by
   have:=k16 _ _ l7p (k15 _ _ l7p e);rw[this] at n17;cases n17
  generalize upd H19 p (.lst [.int m20])=HF at kF eF e7F pF dF;have lit:∀s:Str,asc s=true->s.length<=3000->∃d,DA (λa=>∃xs,H a=some (.lst xs)) HF (.str s) d/\shT d:=λs h1 h2=>⟨_,.str _ (QiV h1),QwZ h2⟩
  have items:∀u∈ys.map V.str++[.str (Qe ""),.str (Qe " "),.str (Qe "board 0"),.str (Qe "undo undo"),v,.ref l17,.str (Qe "put 100 0")],∃d,DA (λa=>∃xs,H a=some (.lst xs)) HF u d/\shT d:=λu hu=>by
   rcases QC.mp hu with hu | hu
   ·obtain⟨y,hy,rfl⟩:=Qw.mp hu;exact lit y (b15 y hy).1 (by have:=(b15 y hy).2;omega)
   ·simp only[QM,Yi,or_false] at hu;rcases hu with rfl | rfl | rfl | rfl | rfl | rfl | rfl
    ·exact lit _ (by decide) (by decide)
    ·exact lit _ (by decide) (by decide)
    ·exact lit _ (by decide) (by decide)
    ·exact lit _ (by decide) (by decide)
    ·exact⟨d,dF,hd⟩
    ·exact⟨.list [.str z],.lst n7 e7F (.cons (.str _ (QiV ha)) .nil),Qda trivial⟩
    ·exact lit _ (by decide) (by decide)
  have nx:(ys.map V.str++[.str (Qe ""),.str (Qe " "),.str (Qe "board 0"),.str (Qe "undo undo"),v,.ref l17,.str (Qe "put 100 0")]).length=22:=by rw[Qj,Qc,n15];rfl
  generalize ys.map V.str++[.str (Qe ""),.str (Qe " "),.str (Qe "board 0"),.str (Qe "undo undo"),v,.ref l17,.str (Qe "put 100 0")]=xs at eF items nx;obtain⟨j,rfl⟩:=Zc r0;have hj:j<xs.length:=by rw[nx];exact Int.ofNat_lt.mp r1
  obtain⟨dd,hdd,hsd⟩:=items _ (Jz hj);exact⟨l19,xs,_,_,rfl,rfl,SqL.of eF,Q3 (Qd hj),q _ dd HF kF ⟨_,pF⟩ hdd hsd⟩
theorem BnAt.keep{C:Addr}{H H':Hp}{b l:Addr}{es:List Bo}{k:Bo}(F:Addr->Prop)(x:BnAt C H b l es k)(kp:∀a o,¬F a->H a=some o->H' a=some o)(nb:¬F b)(nl:¬F l)(nt:∀a ys,H a=some (.tup ys)->¬F a):BnAt C H' b l es k:=by
 obtain⟨dx,v,xs,e1,e2,d1,d2⟩:=x.at_;have tp:∀a ys,H a=some (.tup ys)->H' a=some (.tup ys):=λa ys e=>kp a _ (nt a ys e) e
 exact⟨dx,v,xs,kp _ _ nb e1,kp _ _ nl e2,QgL tp d1,Qe9 tp d2⟩
theorem RwAt.keep{H H':Hp}{r:Addr}{es:List Bo}{k:Bo}(F:Addr->Prop)(x:RwAt H r es k)(kp:∀a o,¬F a->H a=some o->H' a=some o)(nr:¬F r)(nt:∀a ys,H a=some (.tup ys)->¬F a):RwAt H' r es k:=by
 obtain⟨xs,v,e,d2,d1⟩:=x.at_;have tp:∀a ys,H a=some (.tup ys)->H' a=some (.tup ys):=λa ys e=>kp a _ (nt a ys e) e
 exact⟨xs,v,kp _ _ nr e,Qe9 tp d2,QgL tp d1⟩
theorem RwAt.same{H H':Hp}{r:Addr}{es:List Bo}{k:Bo}(x:RwAt H r es k)(s:Same H H'):RwAt H' r es k:=x.keep (λ_=>False) (λa o _ e=>s a o e) id λ_ _ _=>id
theorem Qsu{d:Deed}{es:List Bo}{k:Bo}(h:∀x∈es++[k],x.ok):∀x∈(QjK d es k).1++[(QjK d es k).2],x.ok:=by
 cases hd:QdT d es k with
 |some wd=>rw[Qdh hd];exact h
 |none=>
  rw[Qaw hd];by_cases hu:d.wd = "undo"
  ·have e:=Qik hu;subst e;cases es with
   |nil=>cases hd
   |cons a as=>
    obtain⟨ep,kl,ee⟩:∃ep kl,a::as=ep++[kl]:=⟨(a::as).dropLast,(a::as).getLast (by simp),(JP _).symm⟩
    rw[ee] at h ⊢;have en:QdE .undo (ep++[kl]) k=(ep,kl):=by
     show((ep++[kl]).dropLast,(ep++[kl]).getLastD k)=_;rw[YM];simp
    rw[en];exact λx hx=>h x (QC.mpr (.inl hx))
  ·rw[Qgg hu];rw[QgG hu] at hd;intro x hx;rcases QC.mp hx with hx | hx
   ·exact h x hx
   ·rw[Qy.mp hx];exact QpP (h k (by simp)) hd
theorem QmZ{d:Deed}{es:List Bo}{k:Bo}{n:Nat}(h:es.length<=n):(QjK d es k).1.length<=n+1:=by
 cases hd:QdT d es k with
 |some wd=>rw[Qdh hd];exact Qtf h
 |none=>
  rw[Qaw hd];by_cases hu:d.wd = "undo"
  ·have e:=Qik hu;subst e;show es.dropLast.length<=n+1;rw[Qln];omega
  ·rw[Qgg hu];show(es++[k]).length<=n+1;rw[Qj];show es.length+1<=n+1;omega
def QCp:TE:=λ_ H Q=>∀r H' v,Same H H'->H r=none->H' r=some (.lst [v])->DA N0 H' v B0.d->Q (.ref r) H'
theorem QxC{X:Cx}{j1 p1 j2 p2 x3 p3 x4 p4 p5}:PE X (.List [.Tuple [.Constant (.int 1) j1 p1,.Constant (.int 1) j2 p2,.Tuple [] x3 p3] x4 p4] p5) QCp:=by
 refine PE.imp (Za (Zo (Ym (Zo Jd (Zo Jd (Zo (Ym Qq) Qq)))) Qq)) λσ H Q h=>?_
 refine⟨by show 0<=1000;decide,λt1 H1 s1 n1 a1=>⟨by show 3<=1000;decide,λt2 H2 s2 n2 a2=>⟨by show 1<=1000;decide,λr H3 s3 n3 a3=>?_⟩⟩⟩;refine h r H3 (.ref t2) ((s1.trans s2).trans s3) ?_ a3 (.tup (λz=>z) (s3 _ _ a2) (.cons (.int _) (.cons (.int _) (.cons (.tup (λz=>z) (s3 _ _ (s2 _ _ a1)) .nil) .nil))))
 cases z:H r with
 |none=>rfl
 |some o=>rw[s2 _ _ (s1 _ _ z)] at n3;cases n3
structure Sep (H0:Hp) (s b l r:Addr):Prop where
 sb:s≠b
 rl:r≠l
 hs:H0 s=none
 hb:H0 b=none
 hl:H0 l=none
 hr:H0 r=none
structure Wr (D C:Addr) (H0 H:Hp) (s b l r:Addr) (es:List Bo) (k:Bo) (n:Nat):Prop where
 dk:DkAt D C H s b l es k
 rw:RwAt H r es k
 ok:∀x∈es++[k],x.ok
 len:es.length<=n
 sm:Same H0 H
theorem DkAt.same{D C:Addr}{H H':Hp}{s b l:Addr}{es:List Bo}{k:Bo}(x:DkAt D C H s b l es k)(z:Same H H'):DkAt D C H' s b l es k:=by
 obtain⟨dx,e⟩:=x.dk;exact⟨⟨dx,z _ _ e⟩,x.bn.same z⟩
theorem Wr.same{D C:Addr}{H0 H H':Hp}{s b l r:Addr}{es:List Bo}{k:Bo}{n:Nat}(x:Wr D C H0 H s b l r es k n)(z:Same H H'):Wr D C H0 H' s b l r es k n:=⟨x.dk.same z,x.rw.same z,x.ok,x.len,x.sm.trans z⟩
theorem Wr.okk{D C:Addr}{H0 H:Hp}{s b l r:Addr}{es:List Bo}{k:Bo}{n:Nat}(x:Wr D C H0 H s b l r es k n):k.ok:=x.ok _ (by simp)
theorem Sep.deed{D C:Addr}{H0 H H':Hp}{s b l r:Addr}{es e0 es':List Bo}{k k0 k':Bo}(S:Sep H0 s b l r)(x:DkAt D C H s b l es k)(y:RwAt H r e0 k0)(sm:Same H0 H)(k2:K2 b l H H')(B:BnAt C H' b l es' k'):DkAt D C H' s b l es' k'/\RwAt H' r e0 k0/\Same H0 H':=by
 obtain⟨dx,e⟩:=x.dk;obtain⟨dx1,v1,xs1,e1,e2,_,_⟩:=id x.bn.at_;obtain⟨xs,v,f,_,_⟩:=id y.at_;refine⟨⟨⟨dx,k2 _ _ S.sb (QaY e e2 (λz=>nomatch z)) e⟩,B⟩,y.keep (λa=>a=b∨a=l) (λa o h e=>k2 a o (λz=>h (.inl z)) (λz=>h (.inr z)) e) (λz=>?_) (λa ys e z=>?_),λa u e=>k2 _ _ (λz=>by rw[z,S.hb] at e;cases e) (λz=>by rw[z,S.hl] at e;cases e) (sm _ _ e)⟩
 ·rcases z with z | z
  ·exact QaY f e1 (λz=>nomatch z) z
  ·exact S.rl z
 ·rcases z with z | z
  ·exact QaY e e1 (λz=>nomatch z) z
  ·exact QaY e e2 (λz=>nomatch z) z
theorem Sep.book{D C:Addr}{H0 H H':Hp}{s b l r:Addr}{es e0:List Bo}{k k0:Bo}(S:Sep H0 s b l r)(x:DkAt D C H s b l es k)(y:RwAt H r e0 k0)(sm:Same H0 H)(k1:K1 r H H'):DkAt D C H' s b l es k/\Same H0 H':=by
 obtain⟨dx,e⟩:=x.dk;obtain⟨dx1,v1,xs1,e1,e2,_,_⟩:=id x.bn.at_;obtain⟨xs,v,f,_,_⟩:=id y.at_;exact⟨⟨⟨dx,k1 _ _ (QaY e f (λz=>nomatch z)) e⟩,x.bn.keep (λa=>a=r) (λa o h e=>k1 a o h e) (QaY e1 f (λz=>nomatch z)) S.rl.symm λa ys e=>QaY e f (λz=>nomatch z)⟩,λa u e=>k1 _ _ (λz=>by rw[z,S.hr] at e;cases e) (sm _ _ e)⟩
theorem QjZ{H:Hp}:∀ws:List Str,DAs N0 H (ws.map λn=>V.int (QeT n)) (ws.map λn=>QJ (QeT n))
 |[]=>.nil
 |_::ws=>.cons (.int _) (QjZ ws)
def QzH:Option Str->Str×Str
 |some wd=>("refused",wd)
 |none=>("told", "ok")
def QBr:List Str:=["board", "counts", "most", "stand", "pieces"]
theorem Qts{r:Rw}{R:Bo->Str->Prop}(h:Qhg r=some R):QoM r∈QBr:=by
 unfold Qhg at h;split at h<;>first | (cases h;done) | (cases h;decide)
theorem QvF{r:Rw}{dd:Deed}(h:Qdt r=some dd):QoM r=dd.wd/\QoM r∉QBr/\∀H:Hp,DAs N0 H (Ql0 r) dd.told:=by
 unfold Qdt at h;split at h<;>first | (cases h;done) | (cases h;exact⟨by decide,by decide,λH=>.nil⟩) | (cases h;exact⟨rfl,by simp only[QoM];decide,λH=>.cons (.int _) (.cons (.int _) .nil)⟩)
inductive Fnd (D C:Addr) (H0 H:Hp) (s b l r:Addr) (es:List Bo) (k:Bo) (n:Nat) (d:Qb) (t:Addr):Prop
 |no:QfB d=none->Res t "refused" "row" H->Wr D C H0 H s b l r es k n->Fnd D C H0 H s b l r es k n d t
 |tell (rr:Rw) (R:Bo->Str->Prop) (u:Str):QfB d=some rr->Qhg rr=some R->Res t "told" u H->Wr D C H0 H s b l r es k n->Fnd D C H0 H s b l r es k n d t
 |deed (rr:Rw) (dd:Deed):QfB d=some rr->Qdt rr=some dd->Res t (QzH (QdT dd es k)).1 (QzH (QdT dd es k)).2 H->DkAt D C H s b l (QjK dd es k).1 (QjK dd es k).2->RwAt H r es k->(∀x∈es++[k],x.ok)->es.length<=n->Same H0 H->Fnd D C H0 H s b l r es k n d t
theorem Fnd.same{D C:Addr}{H0 H H':Hp}{s b l r:Addr}{es:List Bo}{k:Bo}{n:Nat}{d:Qb}{t:Addr}(z:Same H H'):Fnd D C H0 H s b l r es k n d t->Fnd D C H0 H' s b l r es k n d t
 |.no h e w=>.no h (z _ _ e) (w.same z)
 |.tell rr R u h h2 e w=>.tell rr R u h h2 (z _ _ e) (w.same z)
 |.deed rr dd h h2 e x y o l sm=>.deed rr dd h h2 (z _ _ e) (x.same z) (y.same z) o l (sm.trans z)
theorem Fnd.book{D C:Addr}{H0 H:Hp}{s b l r:Addr}{es:List Bo}{k:Bo}{n:Nat}{d:Qb}{t:Addr}:Fnd D C H0 H s b l r es k n d t->RwAt H r es k
 |.no _ _ w=>w.rw
 |.tell _ _ _ _ _ _ w=>w.rw
 |.deed _ _ _ _ _ _ y _ _ _=>y
theorem Wr.mono{D C:Addr}{H0 H:Hp}{s b l r:Addr}{es:List Bo}{k:Bo}{n m:Nat}(x:Wr D C H0 H s b l r es k n)(h:n<=m):Wr D C H0 H s b l r es k m:=⟨x.dk,x.rw,x.ok,Qt x.len h,x.sm⟩
theorem QtE{d:Qb}{r:Rw}(h:QfB d=some r):∃t,d=.str t:=by
 cases d<;>first | exact⟨_,rfl⟩ | cases h
theorem QyK{H H':Hp}{x:V}{d:Qb}{r:Rw}(h:QfB d=some r)(q:DA N0 H x d):DA N0 H' x d:=by
 obtain⟨t,rfl⟩:=QtE h;cases q with
 |str _ c=>exact .str _ c
def QBu(H:Hp)(d:Qb)(r:Addr)(y:V):Prop:=(QfB d=none/\y=.non)∨∃rr t l,QfB d=some rr/\y=.ref t/\H t=some (.tup [.str (QoM rr),.ref l])/\H l=some (.lst (Ql0 rr))/\l≠r
def pr2(a b:Str):Qb:=.tuple [.str a,.str b]
theorem Qb9{t:Addr}{a b:Str}{H:Hp}(e:H t=some (.tup [.str a,.str b]))(ha:Jx (.str a)=true)(hb:Jx (.str b)=true):Dat H (.ref t) (pr2 a b):=.tup e (.cons (.str _ ha) (.cons (.str _ hb) .nil))
theorem Qgt{a b:Str}:QY (pr2 a b) (pr2 a b)=true:=by
 unfold pr2;simp[QY,PyData.eqvAll]
theorem Qgu{u:Nat}{a b c d:Str}(h:u+60<cLine):u+min (pr2 a b).depth (pr2 c d).depth<cLine:=by
 have:(pr2 a b).depth<=60:=by unfold pr2;simp[Qcw,QrF]
 omega
def Qtp:List Str:=["row", "column", "column", "put 0 1", "put 1 2"]
def warmS:Nat->List Bo×Bo
 |0=>([],B0)
 |i+1=>QdE (([.row,.col,.col,.put (.int 0) (.int 1),.put (.int 1) (.int 2)]:List Deed).getD i .undo) (warmS i).1 (warmS i).2
structure Warm (i:Nat) (z:Str) (d:Deed) (ns:List Str) (r:Rw):Prop where
 at_:Qtp[i]? = some z
 sp:Zy z (Qe " ")=d.wd::ns
 len:z.length<=20
 as_:asc z=true
 nums:ns.all QbH=true
 nl:ns.length<=2
 told:d.told=ns.map λn=>QJ (QeT n)
 row:QfB (.str z)=some r
 deed:Qdt r=some d
 due:QdT d (warmS i).1 (warmS i).2=none
 step:QdE d (warmS i).1 (warmS i).2=warmS (i+1)
theorem Qto:∀i,i<5->∃z d ns r,Warm i z d ns r
 |0,_=>⟨_,.row,[],.alone 0,rfl,by decide,by decide,by decide,rfl,by decide,rfl,by kernel_rfl,rfl,by decide,rfl⟩
 |1,_=>⟨_,.col,[],.alone 1,rfl,by decide,by decide,by decide,rfl,by decide,rfl,by kernel_rfl,rfl,by decide,rfl⟩
 |2,_=>⟨_,.col,[],.alone 1,rfl,by decide,by decide,by decide,rfl,by decide,rfl,by kernel_rfl,rfl,by decide,rfl⟩
 |3,_=>⟨_,.put (.int 0) (.int 1),["0", "1"],.place 0 0 1,rfl,by decide,by decide,by decide,by decide,by decide,by kernel_rfl,by kernel_rfl,rfl,by decide,rfl⟩
 |4,_=>⟨_,.put (.int 1) (.int 2),["1", "2"],.place 0 1 2,rfl,by decide,by decide,by decide,by decide,by decide,by kernel_rfl,by kernel_rfl,rfl,by decide,rfl⟩
 |i+5,h=>absurd h (by omega)
theorem QoL{C:Addr}{xc:Str->Addr}{b l:Addr}{r:Rw}{dd:Deed}{H:Hp}{Q:VK}{E:XK}{es:List Bo}{k:Bo}(hd:Qdt r=some dd)(B:BnAt C H b l es k)(o:k.ok)(hl:es.length<=1000)(p:∀H',Same H H'->Qrz C xc H' Q E b l es k dd):Qv1 C xc b (some r) H Q E:=by
 unfold Qdt at hd;split at hd<;>first | (cases hd;done) | skip
 all_goals intro H1 sp s1 hsp
 all_goals cases hd
 all_goals cases hsp
 ·exact⟨b,l,es,k,rfl,B.same s1,o,hl,p _ s1⟩
 ·exact⟨b,l,es,k,rfl,B.same s1,o,hl,p _ s1⟩
 ·exact⟨b,l,es,k,rfl,B.same s1,o,hl,p _ s1⟩
 ·exact⟨b,l,es,k,rfl,B.same s1,o,hl,p _ s1⟩
 ·exact⟨b,l,es,k,rfl,B.same s1,o,hl,p _ s1⟩
 ·exact⟨b,l,es,k,_,_,_,_,rfl,B.same s1,o,hl,.int _,.int _,p _ s1⟩
 ·exact⟨b,l,es,k,_,_,_,_,rfl,B.same s1,o,hl,.int _,.int _,p _ s1⟩
theorem QhE{n:Int}(h0:0<=n)(h1:n<100):(Qe (toString n)).length<=2/\asc (Qe (toString n))=true:=by
 obtain⟨j,rfl⟩:=Zc h0;have:∀j:Fin 100,(Qe (toString ((j.val:Nat):Int))).length<=2/\asc (Qe (toString ((j.val:Nat):Int)))=true:=by decide
 exact this ⟨j,by omega⟩
theorem QtF{wd:Str}{ns:List Int}(hw:QoB wd=true)(nl:ns.length<=2)(nb:∀n∈ns,0<=n/\n<100):(rowT wd ns).length<=20/\asc (rowT wd ns)=true:=by
 have hw:=Qi8 hw;unfold rowT;refine⟨?_,Qn3 (by decide) λt ht=>?_⟩
 ·show(Qc6 _ _).length<=20;rw[QaA];refine Qt (Qh8 _ _) ?_
  have l1:∀n∈ns,(Qe (toString n)).length<=2:=λn hn=>(QhE (nb n hn).1 (nb n hn).2).1
  rw[show(Qe " ").length=1 by decide,JB,Qi0,Qu,Qc,Q8]
  match ns,nl,l1 with
  |[],_,_=>show wd.length+0+(0+1)*1<=20;omega
  |[a],_,l1=>
   have:=l1 a (Jl ..);show wd.length+((Qe (toString a)).length+0)+(1+1)*1<=20;omega
  |[a,b],_,l1=>
   have h1:=l1 a (Jl ..);have h2:=l1 b (QX _ (Jl ..));show wd.length+((Qe (toString a)).length+((Qe (toString b)).length+0))+(2+1)*1<=20;omega
  |_::_::_::_,h,_=>exact absurd h (by simp)
 ·rcases QM.mp ht with rfl | ht
  ·exact hw.2
  ·obtain⟨n,hn,rfl⟩:=Qw.mp ht;exact(QhE (nb n hn).1 (nb n hn).2).2
theorem QbA:Yb ["_law_script", "_law_desk", "_law_rows", "_law_row", "_law_number_here", "_law_pot_here", "_law_word", "_law_told", "_law_asked", "_law_thing", "_law_found", "_law_parsed_here", "_law_due"] ["_law_script"] (QU sLaw):=⟨rfl,rfl,rfl,by decide,rfl,by decide,by decide⟩
theorem Qyf{f D C:Addr}{fd:JQ}{xc:Str->Addr}(F:Fun K "law" "law" sLaw f fd)(Tg:GlbA mg)(Td:Dcl K D)(GD:CalI P w K mg base 3 D "Desk" (QlS D C))(DS:CalM P w K mg base (Rx.CXE P w) 9 D "say" (Qtz D C xc))
   (c1:Cal P w K mg base CX0 1 "_law_cell_at" (Qjo K))
   (c2:Cal P w K mg base CX0 1 "_law_pot" QwW)
   (c3:Cal P w K mg base CX0 1 "_law_take" Qc9)
   (c4:Cal P w K mg base CX0 3 "_law_good_deed" Qr1)
   (c5:Cal P w K mg base CX0 4 "_law_kept" QrZ)
   (c6:Cal P w K mg base CX0 1 "_law_row_of" QlQ)
   (c7:Cal P w K mg base CX0 3 "_law_bent" QlT)
   (c8:Cal P w K mg base CX0 10 "_law_said" (QrY D C))
   (c9:Cal P w K mg base CX0 3 "_law_parsed" Qjl)
   (c10:Cal P w K mg base CX0 1 "_law_text" QrX) :
  FnOk P w K mg base CX0 11 f fd ["_law_script"] (Qjm K):=by
 refine F.ok QbA (λvs H Q E h=>?_) (λcdv A outer s H vs Q E hr h=>?_)
 ·obtain⟨a,ns,rfl,_⟩:=h;rfl
 ·obtain⟨a,ns,rfl,hS,hlen,k⟩:=h;have hU:=Room.u60 hr;have hI:=Room.i60 hr;refine' ⟨_,Qr (Qba 1 QbA.nd (Qsn GD hr)) ?p1,?rd⟩
  case p1=>
   show PSs _ _ _;refine' Qr ?ar2 ?_
   case ar2=>
    refine' Yk (i:=2) (hs:=?hh) (hf:=?hf) ?hN ?hi ?hx ?he
    case hN=>exact QbA.nd
    case hi=>exact rfl
    case hx=>exact Qx rfl
    case hf=>exact Qx rfl
    case hh=>kernel_rfl
    case he=>exact QxC
   show PSs _ _ _;refine' Qr (Qhw J3 rfl (QcH (Za (Zo Jb (Zo Jb (Zo Jb (Zo Jb (Zo Jb Qq))))))) (Qcu 3 QbA.nd) ?wb) ?_
   case wb=>
    show PSs _ _ _;refine' Qr (Zf (Zj c5 hr (Qk (pv 2) (Qk (Yo Zu (Qbb PySem.F.plainAttrs_str PySem.F.slot_str_split PySem.F.type_str_split Qdi (pv 3) (Qk Jb Qq)) Jd (λ_ _=>rfl)) (Qk (Y3 (M:=["_law_word"]) (cap:=[none]) (g:=Qbc 0) (tc:=QaR) (te:=tCB (λxs H Q=>∃z n,xs=[.str z]/\PySem.intText? z=some n/\z.length<=640/\Q (.int n) H) (Qae (Qbq 0) Qej)) rfl (by rfl) (QcH (Yd Qbf (Qbb PySem.F.plainAttrs_str PySem.F.slot_str_split PySem.F.type_str_split Qdi (pv 3) (Qk Jb Qq)) (Y0 Jd) Y1)) (λcl ex s3 H3 C=>⟨Yv (i:=0) Qyi rfl (Qx rfl) (QL rfl),QaV,ZT Qbl (by rfl) Tg.int Qdv (Qk (pv 0) Qq)⟩)) Qq))))) ?_
    show PSs _ _ _;exact QQ (Zf (QaK (pv 1) Td.cl DS hr Rx.QAK (Qk (pv 3) Qq)))
   show PSs _ _ _;refine' Qr (Qhw J3 rfl (Qau (by rfl) Tg.range (Qk (ZD (QnQ rfl) (by rfl) Tg.max Qs0 (Qk Jd (Qk (ZD (QhZ rfl) (by rfl) Tg.min QsZ (Qk (ZD Z0 (by rfl) Tg.len Qbm (Qk (pv 0) Qq)) (Qk Jd Qq))) Qq))) Qq)) (Qcu 4 QbA.nd) ?body) ?_
   case body=>
    show PSs _ _ _;refine' Qr (Qba 5 QbA.nd (Zj c2 hr (Qk (Zj c1 hr (Qk (pv 0) (Qk (pv 4) Qq))) Qq))) ?_
    show PSs _ _ _;refine' Qr (Qde (Zj c4 hr (Qk (pv 5) (Qk (Yo Zu (pv 2) (Qmt Qhd Jd) (λ_ _=>rfl)) Qq))) (QeO rfl (ZR (Qcu 6 QbA.nd) (ZR (Qcu 7 QbA.nd) QcI)))) ?_
    show PSs _ _ _;refine' Qr ?ar8 ?_
    case ar8=>
     refine' Yk (i:=8) (hs:=?hh) (hf:=?hf) ?hN ?hi ?hx ?he
     case hN=>exact QbA.nd
     case hi=>exact rfl
     case hx=>exact Qx rfl
     case hf=>exact Qx rfl
     case hh=>kernel_rfl
     case he=>exact(Yo Zu (Za (Zo Jb (Zo Jb (Zo Jb (Zo Jb (Zo Jb (Zo Jb Qq))))))) (Zj c3 hr (Qk (pv 5) (Qk Jd Qq))) (λ_ _=>rfl))
    show PSs _ _ _;refine' Qr (Qjz (Qba 9 QbA.nd (Zj c7 hr (Qk (pv 5) (Qk (Yo Zu (Za (Zo (Zj c6 hr (Qk (pv 6) (Qk (pv 7) Qq))) (Zo (pv 8) Qq))) (Zj c3 hr (Qk (pv 5) (Qk Jd Qq))) (λ_ _=>rfl)) Qq))))) ?_
    show PSs _ _ _;refine' Qr (Qjz (Qba 10 QbA.nd (Zj c8 hr (Qk (pv 1) (Qk (pv 9) Qq))))) ?_
    show PSs _ _ _;refine' Qr (Qjz (Qba 11 QbA.nd (Zj c9 hr (Qk (pv 9) Qq)))) ?_
    show PSs _ _ _;refine' Qr (Qjz (Qat (Ze QmK (pv 11) QbE (JZ _)) (QQ (Qat (Ze QjH (pv 10) (Ym (Zo Jb (Zo Jb Qq))) (JZ _)) (QQ (JI Qhy)) Zs)) (QQ (Qat (Ze Qdg (Yo Qdo (pv 11) Jd (λ_ _=>rfl)) (Ym (Zo Jb (Zo Jb (Zo Jb (Zo Jb (Zo Jb Qq)))))) (by rfl)) (QQ (Qat (Ze Qpr (Yo Qdo (pv 10) Jd (λ_ _=>rfl)) Jb (JZ _)) (QQ (JI Qhy)) Zs)) (Qr (Qba 12 QbA.nd (Zj c5 hr (Qk (pv 2) (Qk (Yo Qdo (pv 11) Jd (λ_ _=>rfl)) (Qk (Yo Qdo (pv 11) Jd (λ_ _=>rfl)) Qq))))) (QQ (Qat (Ze QjH (pv 10) (Yo Zu (Za (Zo (Ym (Zo Jb (Zo (pv 12) Qq))) (Zo (Ym (Zo Jb (Zo Jb Qq))) Qq))) (ZT Qfe (by rfl) Tg.int Qdv (Qk (Qgw QmK (pv 12) QbE (JZ _)) Qq)) (λ_ _=>rfl)) (JZ _)) (QQ (JI Qhy)) Zs))))))) ?_
    show PSs _ _ _;exact QQ (Qat (Ze QjH (Zj c8 hr (Qk (pv 1) (Qk Jb Qq))) (Ym (Zo Jb (Zo (Zj c10 hr (Qk (Yo Zu (pv 2) (Qmt Qhd Jd) (λ_ _=>rfl)) Qq)) Qq))) (JZ _)) (QQ (JI Qhy)) Zs)
   show PSs _ _ _;exact QQ (JI Qhy)
  case rd=>
   intro s0 dx0 ns0 ndx0 ne0;refine⟨s0,dx0,rfl,upd_same,λb l H1 nb nl kp1 DK=>⟨rfl,?_⟩⟩;have s0a:Same H (upd (upd H dx0 (.own s0)) s0 (.ins D dx0 [])):=λa u e=>by rw[QK (Q7 e ns0),QK (Q7 e ndx0)];exact e
   have s01:Same H H1:=λa u e=>kp1 a u (Q7 e ns0) (s0a a u e)
   have up:∀{x:Addr}{H':Hp},Same H H'->H' x=none->H x=none:=λ{x H'} s' h=>by
    cases z:H x with
    |none=>rfl
    |some u=>rw[s' _ _ z] at h;cases h
   have sb:s0≠b:=Q7 upd_same nb;have hb0:=up s0a nb;have hl0:=up s0a nl;refine λr H2 v0 s2 n2 e2 q2=>?_
   obtain⟨dxa,va,xa,ea1,ea2,_,_⟩:=id DK.bn.at_;have S:Sep H s0 b l r:=⟨sb,(Q7 ea2 n2).symm,ns0,hb0,hl0,up s01 n2⟩;have W0:Wr D C H H2 s0 b l r [] B0 0:=⟨DK.same s2,⟨[],v0,e2,.nil,q2⟩,λx hx=>by rw[Qy.mp hx];exact QBB,Qf _,s01.trans s2⟩;clear kp1 DK s0a ea1 ea2 q2 e2;refine⟨by show 5<=1000;decide,λlw H3 s3 n3 e3=>⟨lw,rfl,⟨_,SqL.of e3⟩,?_⟩⟩;have lwr:lw≠r:=λz=>by
    obtain⟨xs,v,f,_,_⟩:=W0.rw.at_;rw[<- z,n3] at f;cases f
   have lwl:lw≠l:=λz=>by
    obtain⟨_,_,_,_,f,_,_⟩:=W0.dk.bn.at_;rw[<- z,n3] at f;cases f
   refine Qrd (K:=K) (a:=lw) (xs:=Qtp.map V.str) (λi σ H'=>∃x3,σ=[some (.ref a),some (.ref s0),some (.ref r),x3,none,none,none,none,none,none,none,none,none]/\Wr D C H H' s0 b l r (warmS i).1 (warmS i).2 i/\H' lw=some (.lst (Qtp.map V.str))) ⟨_,rfl,W0.same s3,e3⟩ (λ_ _ _ _ ⟨_,_,_,e⟩=>SqL.of e) ?_ ?_
   ·rintro i x σ H' hx ⟨x3,rfl,W,el⟩;have hi:i<5:=by
     have:=Q6.mp hx;exact this.1
    obtain⟨z,d,ws,rw_,Wm⟩:=Qto i hi;rw[Qz,Wm.at_] at hx;cases hx;have zl:=Wm.len;refine⟨_,rfl,_,rfl,rfl,z,Qe " ",rfl,rfl,rfl,by omega,λl1 H4 s4 n4 a4=>?_⟩;rw[Wm.sp] at a4;refine⟨l1,_,0,.str d.wd,rfl,rfl,SqL.of a4,Q3 (j:=0) rfl,?_⟩;refine⟨_,rfl,rfl,z,Qe " ",rfl,rfl,rfl,by omega,λl2 H5 s5 n5 a5=>?_⟩;rw[Wm.sp] at a5;refine⟨_,rfl,l2,_,rfl,SqL.of a5,λl3 H6 s6 n6 a6=>⟨l3,rfl,⟨_,SqL.of a6⟩,λpl hpl=>?_⟩⟩;have a6:H6 l3=some (.lst (ws.map V.str)):=by rw[a6];exact congrArg (λq=>some (HO.lst q)) (QBn (.str d.wd) (ws.map V.str))
    have at_:∀i,i<ws.length->(ws.map V.str)[i]? = some (.str (ws.getD i csE)):=λi hi=>by
     rw[Qz,Qg,Qd hi];rfl
    have wl:=Wm.nl;have s46:=(s4.trans s5).trans s6;refine Y6 ws.length (ZB (by omega)) (λi=>some (.int (QeT (ws.getD i csE)))) hpl (λi H7 hi s7=>?_) (λH7 s7=>?_) λH7 s7 e7=>?_
    ·refine⟨⟨_,_,SqL.of (s7 _ _ a6),at_ i hi⟩,λx H8 ⟨eH,ev⟩ kn kv h1 h2=>?_⟩;subst eH;have ex:=ev _ (SqL.of (s7 _ _ a6));rw[at_ i hi] at ex;cases ex;refine⟨trivial,?_⟩;refine(QbZ (B:=kn H8) ?_:if true=true then _ else kn H8);obtain⟨n,_,en,ln⟩:=QjI (z:=ws.getD i csE) (JA.mp Wm.nums _ (by rw[Qg,Qd hi];exact Jz _));refine⟨_,rfl,_,_,rfl,en,by omega,?_⟩;have:=h2 _ rfl H8 λ_ _ z=>z
     unfold QeT at this;rw[en] at this;exact this
    ·exact⟨_,SqL.of (s7 _ _ a6),by rw[Qc];exact Qf _⟩
    ·rw[fmS,QeX (λn=>V.int (QeT n)) csE ws] at e7;have W7:=W.same (s46.trans s7);have dl:DA N0 H7 (.ref pl) (.list d.told):=by
      rw[Wm.told];exact .lst (λz=>z) e7 (QjZ ws)
     refine⟨r,_,_,d,.ref pl,rfl,W7.rw,W7.okk,by have:=W7.len;omega,dl,λH8 k8 R8=>?_⟩;obtain⟨D8,s8⟩:=S.book W7.dk W7.rw W7.sm k8;rw[Qaw Wm.due,Wm.step] at R8;obtain⟨⟨dx,ed⟩,B8⟩:=id D8;have el8:=k8 _ _ lwr ((s46.trans s7) _ _ el);refine⟨_,rfl,s0,dx,_,rfl,ed,QsO _ (by decide),_,rfl,s0,b,.str z,.str z,rfl,⟨dx,ed⟩,.str _ (QiV Wm.as_),λt e=>by cases e;omega,?_⟩;rw[Wm.row];refine QoL Wm.deed B8 W7.okk (by have:=W7.len;omega) λH9 s9=>⟨λwd hw=>(by rw[Wm.due] at hw;cases hw),λ_ H10 k10 B10=>?_⟩
     rw[Wm.step] at B10;have k2:K2 b l H8 H10:=(K2.of s9).trans k10;obtain⟨D10,R10,s10⟩:=S.deed D8 R8 s8 k2 B10;refine⟨_,rfl,⟨D10,R10,λx hx=>?_,?_,s10⟩,k2 _ _ (λz=>by rw[z] at el8;exact QaY el8 B8.at_.choose_spec.choose_spec.choose_spec.1 (λz=>nomatch z) rfl) lwl el8⟩
     ·have:=Qsu (d:=d) W7.ok x;rw[Qaw Wm.due,Wm.step] at this;exact this hx
     ·have:=QmZ (d:=d) (k:=(warmS i).2) W7.len;rw[Qaw Wm.due,Wm.step] at this;exact this
   ·rintro σ H' ⟨x3,rfl,W,_⟩;have mx:∀n:Int,0<=n->(if(if 30<n then 30 else n) > 1 then(if 30<n then 30 else n) else 1)<=30/\0<=(if(if 30<n then 30 else n) > 1 then(if 30<n then 30 else n) else 1):=λn hn=>by
     split<;>split<;>omega
    have mx:=mx ((ns.map V.int).length:Int) (by omega);refine⟨_,rfl,a,_,rfl,.inl (W.sm.seq hS),_,_,rfl,_,_,rfl,_,rfl,?lo,?hi,?lp⟩
    case lo=>have:=mx.2;omega
    case hi=>have:=mx.1;omega
    replace W:Wr D C H H' s0 b l r (warmS 5).1 (warmS 5).2 (0+5):=W
    generalize (warmS 5).1=es0 at W;generalize (warmS 5).2=k0 at W;clear lwr lwl e3 s3 n3 W0 s2 n2;refine Qe4 (λi σ H'=>∃es k x3 x4 x5 x6 x7 x8 x9 x10 x11 x12,σ=[some (.ref a),some (.ref s0),some (.ref r),x3,x4,x5,x6,x7,x8,x9,x10,x11,x12]/\Wr D C H H' s0 b l r es k (i+5)) ⟨_,_,_,_,_,_,_,_,_,_,_,_,rfl,W⟩ ?_ λ_ _ _=>k _
    rintro i σ H' hi ⟨es,k,x3,x4,x5,x6,x7,x8,x9,x10,x11,x12,rfl,W⟩;have hi:i<30:=by have:=mx.1;have:=mx.2;omega
    clear mx;refine⟨_,rfl,_,rfl,a,ns,_,rfl,W.sm.seq hS,by omega,by omega,λc=>⟨c,rfl,λp n np=>?_⟩⟩;have s1:Same H' (upd H' p (.lst [.int n])):=λx u e=>by rw[QK (Q7 e np)];exact e
    have W1:=W.same s1;obtain⟨xs,v,er,_,dr1⟩:=W1.rw.at_;refine⟨_,rfl,_,rfl,_,rfl,r,_,_,v,rfl,rfl,SqL.of er,Qdw _ _,p,n,v,k,rfl,upd_same,dr1,W1.okk,λt l1 wd ns' H2 G=>?_⟩;have s2:Same H' H2:=λx u e=>G.k1 x u (Q7 e np) (s1 _ _ e)
    obtain⟨m0,hp2⟩:=G.hp;refine⟨t,_,rfl,SqT.of G.ht,rfl,_,_,rfl,_,_,rfl,rfl,?_⟩;refine⟨by show 6<=1000;decide,λl2 H3 s3 n3 e3=>⟨_,rfl,p,m0,6,rfl,s3 _ _ hp2,by decide,by decide,λr1 m1 c0 c6=>?_⟩⟩;have lp2:l2≠p:=(Q7 hp2 n3).symm;obtain⟨ak,hak,al,aa⟩:∃ak:Str,atI [V.str (Qe "board"),.str (Qe "counts"),.str (Qe "most"),.str (Qe "stand"),.str (Qe "pieces"),.str (Qe "undo")] r1=some (.str ak)/\ak.length<=20/\asc ak=true:=by
     obtain⟨j,rfl⟩:=Zc c0
     match j,c6 with
     |0,_=>exact⟨_,rfl,by decide,by decide⟩
     |1,_=>exact⟨_,rfl,by decide,by decide⟩
     |2,_=>exact⟨_,rfl,by decide,by decide⟩
     |3,_=>exact⟨_,rfl,by decide,by decide⟩
     |4,_=>exact⟨_,rfl,by decide,by decide⟩
     |5,_=>exact⟨_,rfl,by decide,by decide⟩
     |j+6,h=>omega
    refine⟨l2,_,r1,.str ak,rfl,rfl,SqL.of (by rw[QK lp2];exact e3),hak,?_⟩;have lp1:=G.lp;have s4:Same H' (upd H3 p (.lst [.int m1])):=λx u e=>by rw[QK (Q7 e np)];exact s3 _ _ (s2 _ _ e)
    have h4:(upd H3 p (.lst [.int m1])) p=some (.lst [.int m1]):=upd_same;have hl4:(upd H3 p (.lst [.int m1])) l1=some (.lst (ns'.map V.int)):=by rw[QK lp1];exact s3 _ _ G.hl
    generalize upd H3 p (.lst [.int m1])=H4 at s4 h4 hl4;have hw:=Qi8 G.wl;refine⟨λσ' H6=>∃x d,σ'=[some (.ref a),some (.ref s0),some (.ref r),x3,some (.int (0+(i:Int))),some (.ref p),some (.str wd),some (.ref l1),some (.str ak),some x,x10,x11,x12]/\Wr D C H H6 s0 b l r es k (i+5)/\DA N0 H6 x d/\shT d,?_,?_⟩
    ·refine⟨_,rfl,_,rfl,_,rfl,wd,l1,ns',rfl,hl4,G.nb,G.nl,hw.1,λH5 s5=>⟨_,rfl,by show 2<=1000;decide,λl4 H6 s6 n6 e6=>⟨_,rfl,p,m1,2,rfl,s6 _ _ (s5 _ _ h4),by decide,by decide,λr2 m2 d0 d2=>?_⟩⟩⟩;have lp4:l4≠p:=(Q7 (s5 _ _ h4) n6).symm;obtain⟨rl,ra⟩:=QtF G.wl G.nl G.nb;obtain⟨z,hz,zl,za⟩:∃z:Str,atI [V.str (rowT wd ns'),.str ak] r2=some (.str z)/\z.length<=20/\asc z=true:=by
      rcases(show r2=0∨r2=1 by omega) with rfl | rfl
      ·exact⟨_,Q3 (j:=0) rfl,rl,ra⟩
      ·exact⟨_,Q3 (j:=1) rfl,al,aa⟩
     refine⟨l4,_,r2,.str z,rfl,rfl,SqL.of (by rw[QK lp4];exact e6),hz,p,m2,z,rfl,upd_same,zl,za,λx d H7 k7 _ dx sh=>⟨x,d,rfl,W.same λy u e=>k7 _ _ (Q7 e np) (by rw[QK (Q7 e np)];exact s6 _ _ (s5 _ _ (s4 _ _ e))),dx.mv (λ_ _ _ e=>e) λ_ z=>z.elim,sh⟩⟩
    rintro σ' H6 ⟨x,d,rfl,W6,hx,sh⟩;clear W W1 dr1 er s1 s2 s3 s4 h4 hl4 hp2 n3 e3 hak np;have l6:=W6.len;refine⟨λσ' H7=>∃t,σ'=[some (.ref a),some (.ref s0),some (.ref r),x3,some (.int (0+(i:Int))),some (.ref p),some (.str wd),some (.ref l1),some (.str ak),some x,some (.ref t),x11,x12]/\Fnd D C H H7 s0 b l r es k (i+5) d t/\DA N0 H7 x d,?_,?_⟩
    ·refine⟨_,rfl,_,rfl,s0,b,l,es,k,x,d,rfl,W6.dk,W6.okk,by omega,hx,sh,⟨λh t H7 s7 e=>⟨t,rfl,.no h e (W6.same s7),hx.same s7⟩,λrr dd wd h hd hw t H7 s7 e=>⟨t,rfl,?_,hx.same s7⟩,λrr dd h hd hn t H7 k7 B7 e=>⟨t,rfl,?_,QyK h hx⟩,λrr R u h hR hu t H7 s7 e=>⟨t,rfl,.tell rr R u h hR e (W6.same s7),hx.same s7⟩⟩⟩
     ·refine .deed rr dd h hd ?_ ?_ (W6.rw.same s7) W6.ok W6.len (W6.sm.trans s7)
      ·rw[hw];exact e
      ·rw[Qdh hw];exact W6.dk.same s7
     ·obtain⟨D7,R7,s7⟩:=S.deed W6.dk W6.rw W6.sm k7 B7;refine .deed rr dd h hd ?_ ?_ R7 W6.ok W6.len s7
      ·rw[hn];exact e
      ·rw[Qaw hn];exact D7
    rintro σ' H7 ⟨t,rfl,F7,hx⟩;clear W6;refine⟨λσ' H8=>∃x11,σ'=[some (.ref a),some (.ref s0),some (.ref r),x3,some (.int (0+(i:Int))),some (.ref p),some (.str wd),some (.ref l1),some (.str ak),some x,some (.ref t),some x11,x12]/\Fnd D C H H8 s0 b l r es k (i+5) d t/\QBu H8 d r x11,?_,?_⟩
    ·refine⟨_,rfl,x,d,rfl,hx,sh,?_⟩;cases hrow:QfB d with
     |none=>exact λH8 s8=>⟨_,rfl,F7.same s8,.inl ⟨hrow,rfl⟩⟩
     |some rr=>
      refine λt8 l8 H8 s8 n8 e8 e9=>⟨_,rfl,F7.same s8,.inr ⟨rr,t8,l8,hrow,rfl,e8,e9,λz=>?_⟩⟩
      obtain⟨_,_,f,_,_⟩:=F7.book.at_;rw[<- z,n8] at f;cases f
    rintro σ' H8 ⟨y,rfl,F8,P8⟩;clear F7 hx;refine⟨λσ' H9=>∃es k x12,σ'=[some (.ref a),some (.ref s0),some (.ref r),x3,some (.int (0+(i:Int))),some (.ref p),some (.str wd),some (.ref l1),some (.str ak),some x,some (.ref t),some y,x12]/\Wr D C H H9 s0 b l r es k (i+1+5),?_,?_⟩
    ·rcases P8 with⟨hrow,rfl⟩ | ⟨rr,t8,l8,hrow,rfl,e8,e9,nr⟩
     ·cases F8 with
      |no _ e W8=>
       refine⟨_,rfl,rfl,_,rfl,QbZ ⟨_,rfl,by show 2<=1000;decide,λt9 H9 s9 _ a9=>⟨_,_,Qb9 (s9 _ _ e) (by decide) (by decide),Qb9 a9 (by decide) (by decide),?_,_,rfl,?_⟩⟩⟩
       ·exact Qgu hU
       ·rw[Qgt];exact Qb0 ⟨es,k,_,rfl,(W8.same s9).mono (by omega)⟩
      |tell rr R u h=>rw[hrow] at h;cases h
      |deed rr dd h=>rw[hrow] at h;cases h
     ·refine⟨_,rfl,rfl,_,rfl,Qb0 ⟨_,rfl,t8,_,0,.str (QoM rr),rfl,rfl,SqT.of e8,Q3 (j:=0) rfl,by show 5<=1000;decide,λt9 H9 s9 _ a9=>⟨t9,_,rfl,.inr (SqT.of a9),rfl,rfl,_,rfl,?_⟩⟩⟩;show if inV (V.str (QoM rr)) (QBr.map V.str)=true then _ else _
      rw[QgC];cases F8 with
      |no h=>rw[hrow] at h;cases h
      |tell r' R u h hR e W8=>
       rw[hrow] at h;cases h;rw[decide_eq_true (Qts hR)];exact QbZ ⟨_,rfl,t,_,0,.str "told",rfl,rfl,SqT.of (s9 _ _ e),Q3 (j:=0) rfl,rfl,_,rfl,Qb0 ⟨es,k,_,rfl,(W8.same s9).mono (by omega)⟩⟩
      |deed r' dd h hd e D8 R8 ok8 len8 sm8=>
       rw[hrow] at h;cases h;obtain⟨ew,na,dt⟩:=QvF hd;rw[decide_eq_false na];have R9:=R8.same s9;have D9:=D8.same s9;refine Qb0 ⟨_,rfl,_,rfl,t8,_,0,.str (QoM rr),rfl,rfl,SqT.of (s9 _ _ e8),Q3 (j:=0) rfl,_,rfl,t8,_,1,.ref l8,rfl,rfl,SqT.of (s9 _ _ e8),Q3 (j:=1) rfl,r,es,k,dd,.ref l8,by rw[ew];rfl,R9,ok8 _ (by simp),by omega,.lst (λz=>z) (s9 _ _ e9) (dt _),λH10 k10 R10=>?_⟩;obtain⟨D10,s10⟩:=S.book D9 R9 (sm8.trans s9) k10;have W10:Wr D C H H10 s0 b l r (QjK dd es k).1 (QjK dd es k).2 (i+1+5):=⟨D10,R10,Qsu ok8,Qt (QmZ len8) (by omega),s10⟩;have te:H10 t=some (.tup [.str (QzH (QdT dd es k)).1,.str (QzH (QdT dd es k)).2]):=by
        obtain⟨_,_,f,_,_⟩:=R9.at_;exact k10 _ _ (QaY (s9 _ _ e) f (λz=>nomatch z)) (s9 _ _ e)
       refine⟨_,rfl,_,rfl,by show 2<=1000;decide,λta Ha sa na ea=>⟨by show 2<=1000;decide,λtb Hb sb nb eb=>⟨by show 2<=1000;decide,λlc Hc sc nc ec=>⟨_,rfl,rfl,.inr ⟨_,rfl,?_⟩⟩⟩⟩⟩;have sac:=(sa.trans sb).trans sc;have WC:=W10.same sac;cases hdue:QdT dd es k with
       |none=>
        have te:H10 t=some (.tup [.str "told",.str "ok"]):=by rw[hdue] at te;exact te
        refine⟨lc,_,1,.ref tb,rfl,rfl,SqL.of ec,Q3 (j:=1) rfl,_,_,Qb9 (sac _ _ te) (by decide) (by decide),Qb9 (sc _ _ eb) (by decide) (by decide),Qgu hU,_,rfl,?_⟩;rw[Qgt];exact Qb0 ⟨_,_,_,rfl,WC⟩
       |some wd'=>
        have te:H10 t=some (.tup [.str "refused",.str wd']):=by rw[hdue] at te;exact te
        rw[hdue] at ea;have wl:Jx (.str wd')=true:=by rcases Qls hdue with rfl | rfl | rfl | rfl | rfl<;>decide
        refine⟨lc,_,0,.ref ta,rfl,rfl,SqL.of ec,Q3 (j:=0) rfl,_,_,Qb9 (sac _ _ te) (by decide) wl,Qb9 (sc _ _ (sb _ _ ea)) (by decide) wl,Qgu hU,_,rfl,?_⟩;rw[Qgt];exact Qb0 ⟨_,_,_,rfl,WC⟩
    ·rintro σ' H9 ⟨es',k',y12,rfl,W9⟩;have l9:=W9.len;have hb:QfB (.str (Qe "board"))=some (.alone 5):=by kernel_rfl
     obtain⟨_,v7,e7,_,d7⟩:=W9.rw.at_;refine⟨_,rfl,s0,b,l,es',k',.str (Qe "board"),.str (Qe "board"),rfl,W9.dk,W9.okk,by omega,.str _ (by decide),QwZ (by decide),⟨λh=>?_,λrr dd wd h hd=>?_,λrr dd h hd=>?_,λrr R u h hR hu t' H10 s10 e=>?_⟩⟩
     ·rw[hb] at h;cases h
     ·rw[hb] at h;cases h;cases hd
     ·rw[hb] at h;cases h;cases hd
     ·rw[hb] at h;cases h;cases hR;have hu:u=Qg9 k'.h k'.w (Qv k'.h k'.w k'.f):=hu;have wo:=Qtm (w:=k'.w) (Qv k'.h k'.w k'.f) W9.okk.h1;rw[<- hu] at wo;refine⟨_,rfl,_,rfl,r,_,_,v7,rfl,rfl,SqL.of (s10 _ _ e7),Qdw _ _,v7,k',rfl,d7.same s10,W9.okk,λH11 s11=>⟨by show 2<=1000;decide,λt12 H12 s12 _ e12=>?_⟩⟩;rw[<- hu] at e12;refine⟨_,_,Qb9 (s12 _ _ (s11 _ _ e)) (by decide) wo,Qb9 e12 (by decide) wo,Qgu hU,_,rfl,?_⟩;rw[Qgt];exact Qb0 ⟨es',k',_,_,_,_,_,_,_,_,_,_,rfl,W9.same ((s10.trans s11).trans s12)⟩
end
end Rk
namespace Rk
open L2 _root_.Rd
section
variable{P:Qm}{w:QZ}{K:PySem.W.Frag}{mg:Str->Option Value}{base:JS}
theorem Qd4:Yb ["_law_e", "_law_some", "_law_words"] ["_law_e"] (QU Qvl):=⟨rfl,rfl,rfl,by decide,rfl,by decide,by decide⟩
theorem QuS{f c1 c2 c3 c4 c5 c6 c7 c8 c9 c10 c11 c12 c13 c14 c15 c16 c17 c18 c19:Addr}{fd:JQ}(F:Fun K "_law_kind_of" "_law_kind_of" Qvl f fd)(T:GlbA mg)(mV:mg "ValueError" = none)
  (m1:mg "NoText" = some (.ref c1))(m2:mg "NoOrder" = some (.ref c2))(m3:mg "NoLines" = some (.ref c3))(m4:mg "TooFew" = some (.ref c4))(m5:mg "NoSize" = some (.ref c5))(m6:mg "TooMany" = some (.ref c6))(m7:mg "NoNumber" = some (.ref c7))(m8:mg "NoStand" = some (.ref c8))(m9:mg "NoCell" = some (.ref c9))(m10:mg "NotSquare" = some (.ref c10))(m11:mg "NoHits" = some (.ref c11))(m12:mg "NoCounts" = some (.ref c12))(m13:mg "NoStairs" = some (.ref c13))(m14:mg "NotAlike" = some (.ref c14))(m15:mg "NoParting" = some (.ref c15))(m16:mg "NoPlace" = some (.ref c16))(m17:mg "Double" = some (.ref c17))(m18:mg "NoDeed" = some (.ref c18))(m19:mg "NoRow" = some (.ref c19)) :
  Rx.FnM P w K mg base 1 f fd ["_law_e"] (QfN K [c1,c2,c3,c4,c5,c6,c7,c8,c9,c10,c11,c12,c13,c14,c15,c16,c17,c18,c19]):=by
 refine Rx.okM F Qd4 (λvs H Q E h=>?_) (λcdv A outer s H vs Q E hr h=>?_)
 ·obtain⟨a,C,bs,j,wd,rfl,_⟩:=h;rfl
 ·obtain⟨a,C,bs,j,wd,rfl,ha,hc,pb,eV,hcnt,hj,hm,hw,k⟩:=h;refine' ⟨_,Qr (Yk (i:=1) Qd4.nd rfl (Qx rfl) (Za (QfS (x := "_law_e") (ns:=["NoText", "NoOrder", "NoLines", "TooFew"]) (cs:=[c1,c2,c3,c4]) rfl (Qx rfl) (by decide) (by decide) (by rfl) T.isinstance (by decide) (by rfl) (.cons m1 (.cons m2 (.cons m3 (.cons m4 .nil))))))) ?p1,?rd⟩
  case p1=>
   show PSs _ _ _;refine' Qr (Yk (i:=1) Qd4.nd rfl (Qx rfl) (ZF QaW (pv 1) (Za (QfS (x := "_law_e") (ns:=["NoSize", "TooMany", "NoNumber", "NoStand"]) (cs:=[c5,c6,c7,c8]) rfl (Qx rfl) (by decide) (by decide) (by rfl) T.isinstance (by decide) (by rfl) (.cons m5 (.cons m6 (.cons m7 (.cons m8 .nil)))))))) ?_
   show PSs _ _ _;refine' Qr (Yk (i:=1) Qd4.nd rfl (Qx rfl) (ZF QaW (pv 1) (Za (QfS (x := "_law_e") (ns:=["NoCell", "NotSquare", "NoHits", "NoCounts"]) (cs:=[c9,c10,c11,c12]) rfl (Qx rfl) (by decide) (by decide) (by rfl) T.isinstance (by decide) (by rfl) (.cons m9 (.cons m10 (.cons m11 (.cons m12 .nil)))))))) ?_
   show PSs _ _ _;refine' Qr (Yk (i:=1) Qd4.nd rfl (Qx rfl) (ZF QaW (pv 1) (Za (QfS (x := "_law_e") (ns:=["NoStairs", "NotAlike", "NoParting", "NoPlace"]) (cs:=[c13,c14,c15,c16]) rfl (Qx rfl) (by decide) (by decide) (by rfl) T.isinstance (by decide) (by rfl) (.cons m13 (.cons m14 (.cons m15 (.cons m16 .nil)))))))) ?_
   show PSs _ _ _;refine' Qr (Yk (i:=1) Qd4.nd rfl (Qx rfl) (ZF QaW (pv 1) (Za (QfS (x := "_law_e") (ns:=["Double", "NoDeed", "NoRow"]) (cs:=[c17,c18,c19]) rfl (Qx rfl) (by decide) (by decide) (by rfl) T.isinstance (by decide) (by rfl) (.cons m17 (.cons m18 (.cons m19 .nil))))))) ?_
   show PSs _ _ _;refine' Qr (Qat (Qml (Ze Qpr (Qbb PySem.F.plainAttrs_list PySem.F.slot_list_count PySem.F.type_list_count Rx.QpV (pv 1) (Qk Qhy Qq)) Jd (JZ _)) (Qhs (Qhv (Qmo (ZD Rx.Qh1 (by rfl) T.isinstance QbR (Qk (pv 0) (Qk (Qmw (v:=.ty "ValueError") (by rfl) mV QBo rfl) Qq))))))).pt (QQ (JI Jb)) Zs) ?_
   show PSs _ _ _;refine' Qr ?a1 ?_
   case a1=>
    refine' Yk (i:=2) (hs:=?hh) (hf:=?hf) ?hN ?hi ?hx ?he
    case hN=>exact Qd4.nd
    case hi=>exact rfl
    case hx=>exact Qx rfl
    case hf=>exact Qx rfl
    case hh=>kernel_rfl
    case he=>
     refine' Za ?ww
     case ww=>exact Qix (ws:=QfL.take 10) (by kernel_rfl)
   show PSs _ _ _;refine' Qr ?a2 ?_
   case a2=>
    refine' Yk (i:=2) (hs:=?hh) (hf:=?hf) ?hN ?hi ?hx ?he
    case hN=>exact Qd4.nd
    case hi=>exact rfl
    case hx=>exact Qx rfl
    case hf=>exact Qx rfl
    case hh=>kernel_rfl
    case he=>
     refine' ZF QaW (pv 2) ?ww
     case ww=>
      refine' Za ?w2
      case w2=>exact Qix (ws:=QfL.drop 10) (by kernel_rfl)
   show PSs _ _ _;exact QQ (JI (Yo Zu (pv 2) (Qbb PySem.F.plainAttrs_list PySem.F.slot_list_index PySem.F.type_list_index Rx.QpU (pv 1) (Qk Qhy Qq)) (λ_ _=>rfl)))
  obtain⟨b1,bs1,rfl,q1,pb1⟩:=JH pb;obtain⟨b2,bs2,rfl,q2,pb2⟩:=JH pb1;obtain⟨b3,bs3,rfl,q3,pb3⟩:=JH pb2;obtain⟨b4,bs4,rfl,q4,pb4⟩:=JH pb3;obtain⟨b5,bs5,rfl,q5,pb5⟩:=JH pb4;obtain⟨b6,bs6,rfl,q6,pb6⟩:=JH pb5;obtain⟨b7,bs7,rfl,q7,pb7⟩:=JH pb6;obtain⟨b8,bs8,rfl,q8,pb8⟩:=JH pb7;obtain⟨b9,bs9,rfl,q9,pb9⟩:=JH pb8;obtain⟨b10,bs10,rfl,q10,pb10⟩:=JH pb9;obtain⟨b11,bs11,rfl,q11,pb11⟩:=JH pb10;obtain⟨b12,bs12,rfl,q12,pb12⟩:=JH pb11;obtain⟨b13,bs13,rfl,q13,pb13⟩:=JH pb12;obtain⟨b14,bs14,rfl,q14,pb14⟩:=JH pb13;obtain⟨b15,bs15,rfl,q15,pb15⟩:=JH pb14;obtain⟨b16,bs16,rfl,q16,pb16⟩:=JH pb15;obtain⟨b17,bs17,rfl,q17,pb17⟩:=JH pb16;obtain⟨b18,bs18,rfl,q18,pb18⟩:=JH pb17;obtain⟨b19,bs19,rfl,q19,pb19⟩:=JH pb18;cases Qkx pb19;refine⟨a,C,[b1,b2,b3,b4],rfl,ha,hc,(.cons q1 (.cons q2 (.cons q3 (.cons q4 .nil)))),by show 4<=1000;decide,λl1 H1 s1 n1 e_1=>?_⟩;have h1:=s1 _ _ ha;refine⟨_,rfl,a,C,[b5,b6,b7,b8],rfl,h1,hc,(.cons q5 (.cons q6 (.cons q7 (.cons q8 .nil)))),by show 4<=1000;decide,λl2 H2 s2 n2 e_2=>⟨l1,l2,_,_,rfl,rfl,s2 _ _ e_1,e_2,by show 8<=1000;decide,λl3 H3 s3 n3 e_3=>?_⟩⟩;have h3:=s3 _ _ (s2 _ _ h1);refine⟨_,rfl,a,C,[b9,b10,b11,b12],rfl,h3,hc,(.cons q9 (.cons q10 (.cons q11 (.cons q12 .nil)))),by show 4<=1000;decide,λl4 H4 s4 n4 e_4=>⟨l3,l4,_,_,rfl,rfl,s4 _ _ e_3,e_4,by show 12<=1000;decide,λl5 H5 s5 n5 e_5=>?_⟩⟩;have h5:=s5 _ _ (s4 _ _ h3);refine⟨_,rfl,a,C,[b13,b14,b15,b16],rfl,h5,hc,(.cons q13 (.cons q14 (.cons q15 (.cons q16 .nil)))),by show 4<=1000;decide,λl6 H6 s6 n6 e_6=>⟨l5,l6,_,_,rfl,rfl,s6 _ _ e_5,e_6,by show 16<=1000;decide,λl7 H7 s7 n7 e_7=>?_⟩⟩;have h7:=s7 _ _ (s6 _ _ h5);refine⟨_,rfl,a,C,[b17,b18,b19],rfl,h7,hc,(.cons q17 (.cons q18 (.cons q19 .nil))),by show 3<=1000;decide,λl8 H8 s8 n8 e_8=>⟨l7,l8,_,_,rfl,rfl,s8 _ _ e_7,e_8,by show 19<=1000;decide,λl9 H9 s9 n9 e_9=>?_⟩⟩;have h9:=s9 _ _ (s8 _ _ h7);have S:=((((((((s1.trans s2).trans s3).trans s4).trans s5).trans s6).trans s7).trans s8).trans s9);have EL:H9 l9=some (.lst (([b1,b2,b3,b4,b5,b6,b7,b8,b9,b10,b11,b12,b13,b14,b15,b16,b17,b18,b19]:List Bool).map V.bl)):=e_9;refine⟨_,rfl,.inl ⟨rfl,_,SqL.of EL⟩,l9,_,rfl,rfl,EL,rfl,_,rfl,?_⟩;rw[hcnt];refine QAY rfl ?_
  refine⟨_,rfl,a,C,.ty "ValueError",.type "ValueError",true,rfl,h9,hc,(λu r=>r),eV,_,rfl,?_⟩;refine⟨by show 10<=1000;decide,λl10 H10 s10 n10 e_10=>?_⟩;refine⟨_,rfl,by show 9<=1000;decide,λl11 H11 s11 n11 e_11=>⟨l10,l11,_,_,rfl,rfl,s11 _ _ e_10,e_11,by show 19<=1000;decide,λl12 H12 s12 n12 e_12=>?_⟩⟩;have EL2:=s12 _ _ (s11 _ _ (s10 _ _ EL));refine⟨_,rfl,_,rfl,.inl ⟨rfl,_,SqL.of EL2⟩,l9,_,j,rfl,rfl,EL2,hj,hm,?_⟩;have EW:H12 l12=some (.lst (QfL.map V.str)):=e_12;exact⟨l12,_,_,.str wd,rfl,rfl,SqL.of EW,Q3 (by rw[Qz,hw];rfl),k H12 (((S.trans s10).trans s11).trans s12)⟩
end
end Rk
namespace L2
section
variable{K:PySem.W.Frag}{x:Str}{f:Addr}{h:JS}{mg:Str->Option Value}{P:Qm}{w:QZ}{base:JS}
theorem Cal.al{CX:CXT}{k:Nat}{y:Str}{sp:Sp}(c:Cal P w K mg base CX k x sp)(X:K.In h)(G:h.Ns mainGlobals mg)(e:PySem.W.nsIn K mainGlobals x=some (some (.ref f)))(e2:PySem.W.nsIn K mainGlobals y=some (some (.ref f))):Cal P w K mg base CX k y sp:=
 let ⟨g,fd,ps,hm,r⟩:=c.ex;⟨g,fd,ps,by rw[PySem.W.mg_of X G e2,<- hm,PySem.W.mg_of X G e],r⟩
theorem Cal.at_{CX:CXT}{k:Nat}{sp:Sp}(c:Cal P w K mg base CX k x sp)(X:K.In h)(G:h.Ns mainGlobals mg)(e:PySem.W.nsIn K mainGlobals x=some (some (.ref f)))(hk:k<=8:=by decide):∃k gd qs,k<=8/\FnOk P w K mg base CX k f gd qs sp/\PySem.W.keepIn K (.ref f)=true/\Binds K gd qs []:=by
 obtain⟨g,fd,ps,hm,F,b,kp⟩:=c.ex;rw[PySem.W.mg_of X G e] at hm;cases hm;exact⟨k,fd,ps,hk,F,kp,b⟩
theorem Cal.ex_{k:Nat}{sp:Sp}(c:Cal P w K mg base CX0 k x sp):Cal P w K mg base (Rx.CXE P w) k x sp:=let ⟨g,fd,ps,hm,F,r⟩:=c.ex;⟨g,fd,ps,hm,F.ex,r⟩
theorem Cal.imp{CX:CXT}{k:Nat}{sp sp':Sp}(c:Cal P w K mg base CX k x sp)(hs:∀vs H Q E,sp' vs H Q E->sp vs H Q E):Cal P w K mg base CX k x sp':=let ⟨g,fd,ps,hm,F,r⟩:=c.ex;⟨g,fd,ps,hm,F.imp hs,r⟩
end
end L2
namespace Rk
open L2
structure FnAt (K:PySem.W.Frag) (x:Str) (st:J7):Prop where
 ex:∃f fd,PySem.W.nsIn K mainGlobals x=some (some (.ref f))/\Fun K x x st f fd
structure MtAt (K:PySem.W.Frag) (C:Addr) (m q:Str) (st:J7):Prop where
 ex:∃f fd,Meth K C m f/\Fun K m q st f fd
structure ClA (K:PySem.W.Frag) (x:Str) (C:Addr):Prop where
 a:PySem.W.nsIn K mainGlobals x=some (some (.ref C))
 pg:PySem.W.plainGet K C Qc2=true
 hd:PySem.W.hasDictIn K C=true
 po:PySem.W.plainOver K C=true
 sa:PySem.W.findIn K (.ref C) "__setattr__" = some (some (.builtin "object.__setattr__"))
 ms:PySem.W.makesIn K C=true
 kc:PySem.W.keepIn K (.ref C)=true
structure GlbN (K:PySem.W.Frag):Prop where
 isinstance:PySem.W.nsIn K mainGlobals "isinstance" = some none
 int:PySem.W.nsIn K mainGlobals "int" = some none
 bool:PySem.W.nsIn K mainGlobals "bool" = some none
 str:PySem.W.nsIn K mainGlobals "str" = some none
 tuple:PySem.W.nsIn K mainGlobals "tuple" = some none
 list:PySem.W.nsIn K mainGlobals "list" = some none
 all:PySem.W.nsIn K mainGlobals "all" = some none
 len:PySem.W.nsIn K mainGlobals "len" = some none
 zip:PySem.W.nsIn K mainGlobals "zip" = some none
 enumerate:PySem.W.nsIn K mainGlobals "enumerate" = some none
 range:PySem.W.nsIn K mainGlobals "range" = some none
 max:PySem.W.nsIn K mainGlobals "max" = some none
 min:PySem.W.nsIn K mainGlobals "min" = some none
 sorted:PySem.W.nsIn K mainGlobals "sorted" = some none
 sum:PySem.W.nsIn K mainGlobals "sum" = some none
 set:PySem.W.nsIn K mainGlobals "set" = some none
 any:PySem.W.nsIn K mainGlobals "any" = some none
 reversed:PySem.W.nsIn K mainGlobals "reversed" = some none
 divmod:PySem.W.nsIn K mainGlobals "divmod" = some none
section
variable{K:PySem.W.Frag}{x m q:Str}{st:J7}{f C:Addr}{oc kV dc pm cd ct:Value}{od an:Option Addr}{sl:Array (Option Value)}{h:JS}{mg:Str->Option Value}{P:Qm}{w:QZ}{base:JS}
theorem QBa(a:PySem.W.nsIn K mainGlobals x=some (some (.ref f)))(l:K.lookup f=some ⟨oc,od,.func (PySem.W.fnOf x x (QcO st) (ZU st) (QU st) .none kV dc pm an cd ct),sl⟩)(c:PySem.W.codeIn K cd x=true)(k:PySem.W.keepIn K (.ref f)=true):FnAt K x st:=⟨f,_,a,QsJ l c k⟩
theorem QAT(a:PySem.W.findIn K (.ref C) m=some (some (.ref f)))(i:PySem.W.isFn K (.ref f)=true)(l:K.lookup f=some ⟨oc,od,.func (PySem.W.fnOf m q (QcO st) (ZU st) (QU st) .none kV dc pm an cd ct),sl⟩)(c:PySem.W.codeIn K cd q=true)(k:PySem.W.keepIn K (.ref f)=true):MtAt K C m q st:=⟨f,_,⟨a,i,k⟩,QsJ l c k⟩
theorem FnAt.c(d:FnAt K x st)(X:K.In h)(G:h.Ns mainGlobals mg):DefC P w K mg base x st:=let ⟨f,fd,a,F⟩:=d.ex;⟨f,fd,PySem.W.mg_of X G a,F⟩
theorem MtAt.c(d:MtAt K C m q st):MthC P w K mg base C m q st:=⟨d.ex⟩
theorem ClA.i{k:Nat}{sp:Sp}(d:ClA K x C)(X:K.In h)(G:h.Ns mainGlobals mg)(c:CalM P w K mg base CX0 k C "__init__" sp):CalI P w K mg base k C x sp:=let ⟨f,fd,ps,M,F,b⟩:=c.ex;⟨f,fd,ps,⟨d.ms,M.at_,M.fn,d.kc⟩,F,b,PySem.W.mg_of X G d.a⟩
theorem GlbN.c(n:GlbN K)(X:K.In h)(G:h.Ns mainGlobals mg):GlbA mg:=by
 have z:∀{y:Str},PySem.W.nsIn K mainGlobals y=some none->mg y=none:=λe=>PySem.W.mg_none_of X G e
 exact⟨z n.1,z n.2,z n.3,z n.4,z n.5,z n.6,z n.7,z n.8,z n.9,z n.10,z n.11,z n.12,z n.13,z n.14,z n.15,z n.16,z n.17,z n.18,z n.19⟩
def bsJ(j:Nat):List Bool:=Jc j false++true::Jc (18 - j) false
theorem QfW{R:Addr}{cs:List Addr}{wd:Str}{dR dC:_}(j:Nat)(r1:PySem.W.typeIn K (.ref R)=some (.type "type"))(r2:PySem.W.clsIn K R=some dR)(r3:PySem.W.mroIn K R (.type "BaseException")=some true)(qr:PySem.W.mroIn K C (.ref R)=some true)
  (qg:PySem.W.findIn K (.ref C) "__getattribute__" = some (some (.builtin "BaseException.__getattribute__")))(qh:PySem.W.findIn K (.ref C) "__getattr__" = some none)(qb:PySem.W.mroIn K C (.type "BaseException")=some true)(qc:PySem.W.clsIn K C=some dC)(qa:PySem.W.findIn K (.ref C) "__class__" = some (some (.builtin "object.__class__")))
  (u1:PySem.W.specialIn K (.builtin "object.__class__") "__get__" = some (some (.builtin "getset_descriptor.__get__")))(u2:PySem.W.takesIn K (.builtin "object.__class__")=some true)(qo:PySem.W.mroIn K C (.type "object")=some true)(qv:PySem.W.kitOne K (.ref C) (.type "ValueError")=some true)
  (p:Zw (λc b=>PySem.W.kitOne K (.ref C) (.ref c)=some b) cs (bsJ j))(hc:(bsJ j).countP id=1/\(bsJ j)[j]? = some true/\(∀m,m<j->(bsJ j)[m]? = some false)/\QfL[j]? = some wd):KOk K cs R C wd:=
 ⟨⟨r1,by rw[r2];rfl,r3,qr⟩,_,j,⟨qg,qh,qb,by rw[qc];rfl,qa,u1,u2,qo⟩,p,qv,hc⟩
end
end Rk
namespace PySem.W.Fast
def tw8219498314841556587:=0
def tw9725156744446027711:=0
def tw15691636250528332926:=0
def tw5611668385753831538:=0
def tw10443146402707000506:=0
def tw6005364335909812830:=0
def tw3255053390848575791:=0
def tw6477944734256316163:=0
def tw1243637338290835637:=0
def tw15089383210045500731:=0
def tw17156418320973140137:=0
def tw7686665024110356910:=0
def tw7215475168638082121:=0
def tw12501954810049068895:=0
def tw12573562825724959137:=0
def tw17663367157592433331:=0
def tw12932264705903404283:=0
def tw17612380713416992358:=0
def tw5988584586888267163:=0
def tw1014280887164939212:=0
def tw3243473316423211203:=0
def tw8454296836906646857:=0
def tw13099245613661467836:=0
def tw804270107683580657:=0
def tw3864527718750046892:=0
def tw10077758564193384078:=0
def tw13679937646399441390:=0
def tw13976831119620653653:=0
def tw9635387286263670928:=0
def tw8036693789853691812:=0
def tw1181477779784102237:=0
def tw15481969567690704510:=0
def tw18320905249481986820:=0
def tw17931442039211625684:=0
def tw9051604399694943664:=0
def tw17244195614443391815:=0
def tw8013416584134128457:=0
def tw3597822365183532819:=0
def tw2774011848864095709:=0
def tw9209191728858404807:=0
def tw17161702888228343070:=0
def tw9498045443246449888:=0
def tw7872988734801022423:=0
def tw4903524406421527716:=0
def tw7124321249195286832:=0
def tw2131034431866030455:=0
def tw2424189738395743526:=0
def tw16626241859294484937:=0
def tw14304906942113375376:=0
def tw10021423421403231490:=0
def tw3636290406373171788:=0
def tw14913661319013507605:=0
def tw9846745018681027977:=0
def tw5099786320555094594:=0
def tw16740157714220003072:=0
def tw4846445671286751549:=0
def tw14125586585416822130:=0
def tw11640328538054986808:=0
def tw17372790530827629302:=0
def tw8186389478287475854:=0
def tw173406924634461277:=0
def tw2705018370975817154:=0
def tw4050702879671484616:=0
def tw3684647893376812789:=0
def tw17795525619811246801:=0
def tw3725661233858028254:=0
def tw10006459103832116549:=0
def tw15840362336407965089:=0
def tw3812815713871122643:=0
def tw7707868302601502556:=0
def tw1683817603054253203:=0
def tw18325416640889396042:=0
def tw2877535388075518386:=0
def tw3340255921554261262:=0
def tw4767408467821776953:=0
def tw18434653201569969925:=0
def tw7279837274441851163:=0
def tw4946915535605134965:=0
def tw15354597460325711871:=0
def tw10138015904009246293:=0
def tw2367178410085602822:=0
def tw10141623527545014434:=0
def tw3416115465307141245:=0
def tw16174139067690258645:=0
def tw11756899035463268415:=0
def tw10236224413700386244:=0
def tw1290772145102953475:=0
def tw10842644427311107969:=0
def tw6138326027039209444:=0
def tw16304240551759324513:=0
def tw16652137448318099009:=0
def tw732821279831953359:=0
def tw14958851681787353763:=0
def tw16944074391538243439:=0
def tw6876020845005981031:=0
def tw9531705126109743628:=0
def tw2825631298398837930:=0
def tw16502258446825639990:=0
def tw1182304735808804924:=0
def tw18290889668051675121:=0
def tw6102101423761296133:=0
def tw12974523969741061878:=0
def tw4236138961570571839:=0
def tw18241125461783948752:=0
def tw15430837651527650780:=0
def tw9100962944471637590:=0
def tw223401015725713319:=0
def tw14904489537786247297:=0
def tw12957528468149057021:=0
def tw13542011690838640477:=0
def tw2144831035850554946:=0
def tw10910386351972831499:=0
def tw12864942459921216388:=0
def tw4621979899562772647:=0
def tw1656425184585972103:=0
def tw13232712925126807616:=0
def tw17036924828673094507:=0
def tw6854509418198198419:=0
def tw13736634585763090403:=0
def tw1210065280340682977:=0
def tw9698610744810063329:=0
def tw12957190752405047712:=0
def tw16879156853265930146:=0
def tw16090766540104274009:=0
def tw12988702506007953151:=0
def tw15166983800666505328:=0
def tw12216429680820026427:=0
def tw15851764132440784715:=0
def tw8125382501429231367:=0
def tw3355181713288386698:=0
def tw11809119975167128867:=0
def tw17101914926961767959:=0
def tw3029377754606559571:=0
def tw15761187001198686449:=0
def tw4337422125049109525:=0
def tw15950919892379284652:=0
def tw8384107496071186155:=0
def tw13316895694046390565:=0
def tw2511490935677925779:=0
def tw2440456548684555604:=0
def tw10058647421744927647:=0
def tw10431133716231025860:=0
def tw3208428143841312084:=0
def tw7848100276907976331:=0
def tw17710965874126398503:=0
def tw10128172891751583370:=0
def tw6232417105457248421:=0
def tw1538932243152411280:=0
def tw8856972921028798483:=0
def tw299176320649627713:=0
def tw3001573592246615300:=0
def tw5261662150829267467:=0
def tw791437148568307000:=0
def tw5412143562952474874:=0
def tw4849674971210862908:=0
def tw1255769160634955924:=0
def tw2440838616901882518:=0
def tw12024662404726928905:=0
def tw7987909793026811722:=0
def tw5262183970641240099:=0
def tw18202746969759805813:=0
def tw7338205708646061546:=0
def tw8525929842198686808:=0
def tw5071946948186369997:=0
def tw16330657448952710753:=0
def tw12008641014852199867:=0
def tw8346110833018714036:=0
def tw4196364732347053852:=0
def tw1296946343477412973:=0
def tw13591232977886701389:=0
def tw7143830303338640033:=0
def tw3646620531517957653:=0
def tw15889046389665840859:=0
def tw11618092786962162289:=0
def tw17492682235161597102:=0
def tw4539056498687615200:=0
def tw16995882043354024665:=0
def tw11526507034448186476:=0
def tw212902976546114682:=0
def tw13574051673839190697:=0
def tw16145448339827744792:=0
def tw3388723425997243748:=0
def tw6507498587203752789:=0
def tw1288040992263678274:=0
def tw15483963673678262617:=0
def tw5394503131294164078:=0
def tw18162390541093358391:=0
def tw9033309160419719506:=0
def tw3320213296935711295:=0
def tw270088574242103260:=0
def tw4777021779949301123:=0
def tw10707711758538675420:=0
def tw14383258138334163901:=0
def tw12336424275881931287:=0
def tw4597837432324762000:=0
def tw3009706154673328115:=0
def tw7672351084307790487:=0
def tw5669494372546924580:=0
def tw7600350640349657331:=0
def tw10311376263155952139:=0
def tw3366507348460881152:=0
def tw102828526293374558:=0
def tw12450249632514772540:=0
def tw17987341066501822781:=0
def tw1416897531162386850:=0
def tw13990787086107711355:=0
def tw12606487949141373637:=0
def tw75261194446641041:=0
def tw12974682935942464938:=0
def tw17342290230919757505:=0
def tw12791312009570548762:=0
def tw5802633862551226852:=0
def tw4487074793852504768:=0
def tw3794714523684386104:=0
def tw5556282584516090617:=0
def tw238080508649973747:=0
def tw8504267546249392894:=0
def tw15480568981286382566:=0
def tw8361075769490797704:=0
def tw13755097001945663077:=0
def tw1588072636638745860:=0
def tw12125021693421101230:=0
def tw5868768754494033333:=0
def tw1648421954855329742:=0
def tw16294312566783442283:=0
def tw12818973881291800597:=0
def tw9427289813481116435:=0
def tw13946563987406441324:=0
def tw5963418069893187804:=0
def tw16532832464926134748:=0
def tw2285817541741842417:=0
def tw2314671165865785514:=0
def tw10987987906379857142:=0
def tw9078805261604492426:=0
def tw7052961451732562295:=0
def tw6382706918346293160:=0
def tw13024724077147328113:=0
def tw11748705159812246323:=0
def tw14856548220110058546:=0
def tw2580913536683353568:=0
def tw5786378374332277223:=0
def tw6096260252612789012:=0
def tw2291865436073796991:=0
def tw3427264726649442315:=0
def tw6014824490086742644:=0
def tw14328361778896722359:=0
def tw15672450953298987948:=0
def tw11585713489508990619:=0
def tw8227282087302940174:=0
def tw1799034276151072101:=0
def tw3123601667870978597:=0
def tw945754491255885650:=0
def tw12312146552923131571:=0
def tw17690080971672052677:=0
def tw2708799713440395594:=0
def tw6118452630540239826:=0
def tw17265951824003564398:=0
def tw14618817268868494425:=0
def tw4181408777583369874:=0
def tw2231925790729993220:=0
def tw8143047802580190444:=0
def tw14629552632985145156:=0
def tw537566028851466227:=0
def tw8603283643581592398:=0
def tw13318975949331981332:=0
def tw3368224877043018988:=0
def tw7547181112919090445:=0
def tw8614888438151159479:=0
def tw1922651487179946799:=0
def tw6061096714773629717:=0
def tw15270027142243616427:=0
def tw18380834560071806694:=0
def tw8805275971446491449:=0
def tw8363994769896173349:=0
def tw9828007767797026336:=0
def tw14792903015273098897:=0
def tw13158544564845906718:=0
def tw5844471865938072133:=0
def tw9712114115418538398:=0
def tw9645939207145982695:=0
def tw9631884762612171074:=0
def tw11300949934776768963:=0
def tw13023033819708127257:=0
def tw7585421189389662184:=0
def tw4408175732763891534:=0
def tw16146567609624185847:=0
def tw5234541680192685684:=0
def tw2036038434918043794:=0
def tw11261249163414389507:=0
def tw14881340644733530141:=0
def tw8547275240121915123:=0
def tw6080270250554743295:=0
def tw15921418107864126991:=0
def tw2582068999427190627:=0
def tw8803172780978340351:=0
def tw4063384657254444723:=0
def tw3089362319152699701:=0
def tw16422434790228786901:=0
def tw3127541680074721466:=0
def tw17186631733294210028:=0
def tw5032440587422138584:=0
def tw16311979343475506879:=0
def tw5220131323484194778:=0
def tw7586999431434921195:=0
def tw3203836490631729539:=0
def tw2170328669899826384:=0
def tw16095473578243508046:=0
def tw2593431440984167549:=0
def tw2773412402453484907:=0
def tw2682390575775644788:=0
def tw5128190233658983750:=0
def tw8186799949335644607:=0
def tw16425919506765230316:=0
def tw9825865049740768688:=0
def tw17247514409444605786:=0
def tw14893767421328514790:=0
def tw17964315748820649566:=0
def tw17615637831283644986:=0
def tw12661666598965006821:=0
def tw17543229168874935175:=0
def tw8281537625915393532:=0
def tw1200641079712460154:=0
def tw1126521541308168686:=0
def tw4352051205006525581:=0
def tw594105780958558051:=0
def tw3804508757022850241:=0
def tw17640377702291408783:=0
def tw9029137719608099145:=0
def tw13915211623208172813:=0
def tw10773621308817153084:=0
def tw3182971591098475344:=0
def tw12097310828531108182:=0
def tw4142548811383074558:=0
def tw16109794069115488652:=0
def tw3439407843553050257:=0
def tw15817530198668615315:=0
def tw15095923135996394715:=0
def tw3373376563683706696:=0
def tw4304244020924427613:=0
def tw7191394256623071058:=0
def tw2412787833216309139:=0
def tw8360776443420324376:=0
def tw2259866400852312649:=0
def tw11282976563022256973:=0
def tw382679818090923511:=0
def tw11000608160798601491:=0
def tw10610866147612623193:=0
def tw2376666910807072091:=0
def tw12355231526352103890:=0
def tw293450491574043763:=0
def tw16290878970617233525:=0
def tw3350171605003983463:=0
def tw10693904140747045929:=0
def tw5928991809187096279:=0
def tw9029643856869823377:=0
def tw6583087988398058380:=0
def tw11673361229808993272:=0
def tw9435569642186301767:=0
def tw744548671342417687:=0
def tw13085427701129679849:=0
def tw15418768423109069758:=0
def tw18104754371265013257:=0
def tw6285411776358772830:=0
def tw3890512431835298630:=0
def tw4969924046891205916:=0
def tw1991894922376874251:=0
def tw17135704812081711964:=0
def tw13883911610406951064:=0
def tw5869691701197738336:=0
def tw4782597446158358624:=0
def tw5251185611282542189:=0
def tw14171930489435211972:=0
def tw3747141644162419099:=0
def tw7822420351665548291:=0
def tw15508147308254823551:=0
def tw2470223658856639264:=0
def tw12492461620886496485:=0
def tw5926830324896316612:=0
def tw14849380358098293291:=0
def tw14039252285643552257:=0
def tw461378367851962354:=0
def tw7213562104581794575:=0
def tw18293084673719257601:=0
def tw17437377415184904385:=0
def tw9895744947577018310:=0
def tw210391137269702904:=0
def tw5394229366545511477:=0
def tw17180656912874628151:=0
def tw14566178959624884462:=0
def tw3556017704294641358:=0
def tw10249560210496439560:=0
def tw7756483687909087980:=0
def tw7278047742264218609:=0
def tw15109734749011201964:=0
def tw8441497867051610014:=0
def tw16229052427360835099:=0
def tw13231701550903328205:=0
def tw14107441226099330240:=0
def tw6075687504707110294:=0
def tw16127852998186365134:=0
def tw18010495178479628865:=0
def tw15024262486866500496:=0
def tw11667824777078353639:=0
def tw5565933320467060503:=0
def tw5482128976068137885:=0
def tw11144712968025361713:=0
def tw7087258865389914826:=0
def tw14325354970085010519:=0
def tw7428822314419665639:=0
def tw10081612770594457063:=0
def tw5684750087073208518:=0
def tw16647467692362426249:=0
def tw17274598551641867011:=0
def tw10738573722760445235:=0
def tw18234871094307747928:=0
def tw10948970395213135153:=0
def tw7521086985180077107:=0
def tw164204555409372682:=0
def tw17658662286064757460:=0
def tw4968035222637633291:=0
def tw3761246558299484557:=0
def tw3215552739644117221:=0
def tw13763912951247929975:=0
def tw13137586773492191077:=0
def tw17576124405216410980:=0
def tw3929026540704086825:=0
def tw14487010585128106693:=0
def tw18037486927282015228:=0
def tw5401597448470662431:=0
def tw11986230800348731476:=0
def tw7565356205845453131:=0
def tw6296846330536548142:=0
def tw12852337148141360986:=0
def tw9680675958762363133:=0
end PySem.W.Fast
namespace Rk
open L2 Dl
def Qeo(a0 a1 a2 a3 a4 a5:Addr):Str->Addr:=λs=>if s = "place" then a0 else if s = "double" then a1 else if s = "cell" then a2 else if s = "many" then a3 else if s = "row" then a4 else a5
theorem Qoz(a0 a1 a2 a3 a4 a5:Addr):Qeo a0 a1 a2 a3 a4 a5 "place" = a0:=if_pos rfl
theorem Qlq(a0 a1 a2 a3 a4 a5:Addr):Qeo a0 a1 a2 a3 a4 a5 "double" = a1:=(if_neg (by decide)).trans (if_pos rfl)
theorem Qtl(a0 a1 a2 a3 a4 a5:Addr):Qeo a0 a1 a2 a3 a4 a5 "cell" = a2:=(if_neg (by decide)).trans ((if_neg (by decide)).trans (if_pos rfl))
theorem Qtj(a0 a1 a2 a3 a4 a5:Addr):Qeo a0 a1 a2 a3 a4 a5 "many" = a3:=(if_neg (by decide)).trans ((if_neg (by decide)).trans ((if_neg (by decide)).trans (if_pos rfl)))
theorem Qwz(a0 a1 a2 a3 a4 a5:Addr):Qeo a0 a1 a2 a3 a4 a5 "row" = a4:=(if_neg (by decide)).trans ((if_neg (by decide)).trans ((if_neg (by decide)).trans ((if_neg (by decide)).trans (if_pos rfl))))
theorem Qtk(a0 a1 a2 a3 a4 a5:Addr):Qeo a0 a1 a2 a3 a4 a5 "deed" = a5:=(if_neg (by decide)).trans ((if_neg (by decide)).trans ((if_neg (by decide)).trans ((if_neg (by decide)).trans ((if_neg (by decide))))))
theorem Qzi{l:PySem.W.OpenLaw}{w:QZ}{K:PySem.W.Frag}{h:JS}{mg:Str->Option Value}{fa CBench CDesk fR fC f_drow f_dcol f_dturn f_drest f_dundo f_tbrd f_tcnt f_tmost f_tstd f_tpcs f_dput f_dtake dA dW e1 e2 e3 e4 e5 e6 e7 e8 e9 e10 e11 e12 e13 e14 e15 e16 e17 e18 e19 eR:Addr}{tgM tgBl tgDn tgNo tgTw tgCe tgOt tgBe tA0 tA1 tA2 tA3 tA4 tA5 tA6 tA7 tA8 tA9 tW0 tW1:_}{zA zW:Nat}(X:K.In h)(G:h.Ns mainGlobals mg)(hfa:mg "law" = some (.ref fa))
  (clBench:ClA K "Bench" CBench)
  (naBenchkept:PySem.W.findIn K (.ref CBench) "kept" = some none)
  (naBenchearlier:PySem.W.findIn K (.ref CBench) "earlier" = some none)
  (clDesk:ClA K "Desk" CDesk)
  (naDeskbench:PySem.W.findIn K (.ref CDesk) "bench" = some none)
  (d5:FnAt K "is_whole" Qr2)
  (d6:FnAt K "is_whole_within" QlW)
  (d7:FnAt K "is_place" Qr5)
  (d8:FnAt K "turned" Qw5)
  (d9:FnAt K "rest" Qr3)
  (d10:FnAt K "without" sWo)
  (d11:FnAt K "refuse_no_cell" Qw7)
  (d12:FnAt K "pieces" QlX)
  (d13:FnAt K "piece_with" sPw)
  (d14:FnAt K "meets_one" Qr6)
  (d15:FnAt K "counts" QlY)
  (d16:FnAt K "most_size" Qw8)
  (d17:FnAt K "stand_at" Qjq)
  (d18:FnAt K "refuse_no_size" Qr4)
  (d19:FnAt K "followers" sFol)
  (d20:FnAt K "row_behind" Qw6)
  (d21:FnAt K "cell_at" QlZ)
  (d22:FnAt K "ways_behind" Qw3)
  (d23:FnAt K "ways_to_go_on" Qw2)
  (d24:FnAt K "ways_with_row" sRow)
  (d25:FnAt K "greatest_size" Qr7)
  (d26:FnAt K "refuse_no_place" sRnp)
  (d27:FnAt K "refuse_too_many" sRtm)
  (d28:MtAt K CBench "__init__" "Bench.__init__" Qzf)
  (d29:MtAt K CBench "put" "Bench.put" bPut)
  (d30:MtAt K CBench "take" "Bench.take" Qza)
  (d31:MtAt K CBench "row" "Bench.row" bRow)
  (d32:MtAt K CBench "column" "Bench.column" bCol)
  (d33:MtAt K CBench "turn" "Bench.turn" Qy9)
  (d34:MtAt K CBench "rest" "Bench.rest" Qzb)
  (d35:MtAt K CBench "undo" "Bench.undo" Qy8)
  (d36:MtAt K CBench "keep" "Bench.keep" Qze)
  (d37:MtAt K CBench "board" "Bench.board" Qs1)
  (d38:MtAt K CBench "counts" "Bench.counts" Qn1)
  (d39:MtAt K CBench "most" "Bench.most" Qzd)
  (d40:MtAt K CDesk "__init__" "Desk.__init__" Qyt)
  (d41:MtAt K CDesk "say" "Desk.say" kSay)
  (d42:FnAt K "written" Qw1)
  (d43:FnAt K "written_row" Qw0)
  (d44:FnAt K "put_cell" QyQ)
  (d45:FnAt K "take_cell" QsU)
  (d46:FnAt K "put_row" QyO)
  (d47:FnAt K "put_column" QyW)
  (d48:FnAt K "turn_board" QsT)
  (d49:FnAt K "put_rest" QsV)
  (d50:FnAt K "undo_deed" QsS)
  (d51:FnAt K "tell_board" QlI)
  (d52:FnAt K "tell_counts" Qjg)
  (d53:FnAt K "tell_most" QrS)
  (d54:FnAt K "tell_stand" QlD)
  (d55:FnAt K "tell_pieces" Qjf)
  (d56:FnAt K "are_two_numbers" Qw4)
  (d57:FnAt K "_law_cell_at" Qna)
  (d58:FnAt K "_law_pot" lPot)
  (d59:FnAt K "_law_take" Qym)
  (d60:FnAt K "_law_deed" Qyo)
  (d61:FnAt K "_law_good_deed" QsD)
  (d62:FnAt K "_law_whole" Qsz)
  (d63:FnAt K "_law_is_place" QsC)
  (d64:FnAt K "_law_refused_as" lRef)
  (d65:FnAt K "_law_behind" lBeh)
  (d66:FnAt K "_law_kept" Qyn)
  (d67:FnAt K "_law_row_of" Qm9)
  (d68:FnAt K "_law_kind_of" Qvl)
  (d69:FnAt K "_law_said" QsB)
  (d70:FnAt K "_law_text" QsA)
  (d71:FnAt K "_law_odd" lOdd)
  (d72:FnAt K "_law_number" QjQ)
  (d73:FnAt K "_law_parsed" QjP)
  (d74:FnAt K "_law_bent" QsE)
  (d75:FnAt K "law" sLaw)
  (gl:GlbN K)
  (vE:PySem.W.nsIn K mainGlobals "ValueError" = some none)
  (gM:PySem.W.nsIn K mainGlobals "MOST_LINES" = some (some (.int 6 tgM)))
  (gBl:PySem.W.nsIn K mainGlobals "BLANK" = some (some (.str " " tgBl)))
  (gDn:PySem.W.nsIn K mainGlobals "DONE" = some (some (.str "ok" tgDn)))
  (gNo:PySem.W.nsIn K mainGlobals "NO_CELLS" = some (some (.str "none" tgNo)))
  (gTw:PySem.W.nsIn K mainGlobals "BEYOND_TWO_FIGURES" = some (some (.int 100 tgTw)))
  (gCe:PySem.W.nsIn K mainGlobals "CELL" = some (some (.str csH tgCe)))
  (gOt:PySem.W.nsIn K mainGlobals "OTHER" = some (some (.str csO tgOt)))
  (gBe:PySem.W.nsIn K mainGlobals "BETWEEN" = some (some (.str csB tgBe)))
  (r1:PySem.W.nsIn K mainGlobals "rest" = some (some (.ref fR)))
  (r2:PySem.W.nsIn K mainGlobals "rest_boards" = some (some (.ref fR)))
  (r3:PySem.W.nsIn K mainGlobals "counts" = some (some (.ref fC)))
  (r4:PySem.W.nsIn K mainGlobals "counts_stands" = some (some (.ref fC)))
  (a_drow:PySem.W.nsIn K mainGlobals "put_row" = some (some (.ref f_drow)))
  (a_dcol:PySem.W.nsIn K mainGlobals "put_column" = some (some (.ref f_dcol)))
  (a_dturn:PySem.W.nsIn K mainGlobals "turn_board" = some (some (.ref f_dturn)))
  (a_drest:PySem.W.nsIn K mainGlobals "put_rest" = some (some (.ref f_drest)))
  (a_dundo:PySem.W.nsIn K mainGlobals "undo_deed" = some (some (.ref f_dundo)))
  (a_tbrd:PySem.W.nsIn K mainGlobals "tell_board" = some (some (.ref f_tbrd)))
  (a_tcnt:PySem.W.nsIn K mainGlobals "tell_counts" = some (some (.ref f_tcnt)))
  (a_tmost:PySem.W.nsIn K mainGlobals "tell_most" = some (some (.ref f_tmost)))
  (a_tstd:PySem.W.nsIn K mainGlobals "tell_stand" = some (some (.ref f_tstd)))
  (a_tpcs:PySem.W.nsIn K mainGlobals "tell_pieces" = some (some (.ref f_tpcs)))
  (a_dput:PySem.W.nsIn K mainGlobals "put_cell" = some (some (.ref f_dput)))
  (a_dtake:PySem.W.nsIn K mainGlobals "take_cell" = some (some (.ref f_dtake)))
  (nA:PySem.W.nsIn K mainGlobals "ALONE" = some (some (.ref dA)))
  (oA:K.lookup dA=some ⟨.type "dict",none,.dict (Qwj w.params [("row",tA0,f_drow),("column",tA1,f_dcol),("turn",tA2,f_dturn),("rest",tA3,f_drest),("undo",tA4,f_dundo),("board",tA5,f_tbrd),("counts",tA6,f_tcnt),("most",tA7,f_tmost),("stand",tA8,f_tstd),("pieces",tA9,f_tpcs)]).toArray zA,#[]⟩)
  (yA:(dA == sysModules)=false)
  (nW:PySem.W.nsIn K mainGlobals "WITH_PLACE" = some (some (.ref dW)))
  (oW:K.lookup dW=some ⟨.type "dict",none,.dict (Qwj w.params [("put",tW0,f_dput),("take",tW1,f_dtake)]).toArray zW,#[]⟩)
  (yW:(dW == sysModules)=false)
  (E1:PySem.W.nsIn K mainGlobals "NoText" = some (some (.ref e1)))
  (E2:PySem.W.nsIn K mainGlobals "NoOrder" = some (some (.ref e2)))
  (E3:PySem.W.nsIn K mainGlobals "NoLines" = some (some (.ref e3)))
  (E4:PySem.W.nsIn K mainGlobals "TooFew" = some (some (.ref e4)))
  (E5:PySem.W.nsIn K mainGlobals "NoSize" = some (some (.ref e5)))
  (E6:PySem.W.nsIn K mainGlobals "TooMany" = some (some (.ref e6)))
  (E7:PySem.W.nsIn K mainGlobals "NoNumber" = some (some (.ref e7)))
  (E8:PySem.W.nsIn K mainGlobals "NoStand" = some (some (.ref e8)))
  (E9:PySem.W.nsIn K mainGlobals "NoCell" = some (some (.ref e9)))
  (E10:PySem.W.nsIn K mainGlobals "NotSquare" = some (some (.ref e10)))
  (E11:PySem.W.nsIn K mainGlobals "NoHits" = some (some (.ref e11)))
  (E12:PySem.W.nsIn K mainGlobals "NoCounts" = some (some (.ref e12)))
  (E13:PySem.W.nsIn K mainGlobals "NoStairs" = some (some (.ref e13)))
  (E14:PySem.W.nsIn K mainGlobals "NotAlike" = some (some (.ref e14)))
  (E15:PySem.W.nsIn K mainGlobals "NoParting" = some (some (.ref e15)))
  (E16:PySem.W.nsIn K mainGlobals "NoPlace" = some (some (.ref e16)))
  (E17:PySem.W.nsIn K mainGlobals "Double" = some (some (.ref e17)))
  (E18:PySem.W.nsIn K mainGlobals "NoDeed" = some (some (.ref e18)))
  (E19:PySem.W.nsIn K mainGlobals "NoRow" = some (some (.ref e19)))
  (ER:PySem.W.nsIn K mainGlobals "RookError" = some (some (.ref eR)))
  (k6:KOk K [e1,e2,e3,e4,e5,e6,e7,e8,e9,e10,e11,e12,e13,e14,e15,e16,e17,e18,e19] eR e6 "many")
  (q6:PySem.W.excIn K e6 Rx.mroV "ValueError.__new__" = true)
  (k9:KOk K [e1,e2,e3,e4,e5,e6,e7,e8,e9,e10,e11,e12,e13,e14,e15,e16,e17,e18,e19] eR e9 "cell")
  (q9:PySem.W.excIn K e9 Rx.mroV "ValueError.__new__" = true)
  (k16:KOk K [e1,e2,e3,e4,e5,e6,e7,e8,e9,e10,e11,e12,e13,e14,e15,e16,e17,e18,e19] eR e16 "place")
  (q16:PySem.W.excIn K e16 Rx.mroV "ValueError.__new__" = true)
  (k17:KOk K [e1,e2,e3,e4,e5,e6,e7,e8,e9,e10,e11,e12,e13,e14,e15,e16,e17,e18,e19] eR e17 "double")
  (q17:PySem.W.excIn K e17 Rx.mroV "ValueError.__new__" = true)
  (k18:KOk K [e1,e2,e3,e4,e5,e6,e7,e8,e9,e10,e11,e12,e13,e14,e15,e16,e17,e18,e19] eR e18 "deed")
  (q18:PySem.W.excIn K e18 Rx.mroV "ValueError.__new__" = true)
  (k19:KOk K [e1,e2,e3,e4,e5,e6,e7,e8,e9,e10,e11,e12,e13,e14,e15,e16,e17,e18,e19] eR e19 "row")
  (q19:PySem.W.excIn K e19 Rx.mroV "ValueError.__new__" = true)
  : ∃fd:JQ,(∀(s:Shared)(v:Value),Qfy s fd ⟨[v],[]⟩ [("_law_script",v)])/\∀base:JS,K.In base->base.Ns mainGlobals mg->FnOk l.prog w K mg base CX0 11 fa fd ["_law_script"] (Qjm K):=by
 obtain⟨f,fd,a,F⟩:=d75.ex;cases hfa.symm.trans (PySem.W.mg_of X G a);refine⟨fd,λs v=>?_,λbase _ _=>?_⟩
 ·obtain⟨oc,od,kV,doc,pm,an,cdv,ct,osl,rfl,lk,hcd⟩:=F.ex;exact .of_eq rfl
 have T:GlbA mg:=gl.c X G;have dc:∀{x st},FnAt K x st->DefC l.prog w K mg base x st:=λd=>d.c X G
 have dm:∀{C m q st},MtAt K C m q st->MthC l.prog w K mg base C m q st:=λd=>d.c
 have mo:∀{x v},PySem.W.nsIn K mainGlobals x=some (some v)->mg x=some v:=λe=>PySem.W.mg_of X G e
 have Tb:Bcl K CBench:=⟨⟨clBench.pg,clBench.hd,clBench.po,clBench.sa⟩,naBenchkept,naBenchearlier⟩;have Td:Dcl K CDesk:=⟨⟨clDesk.pg,clDesk.hd,clDesk.po,clDesk.sa⟩,naDeskbench⟩;have xplace:(Qeo e16 e17 e9 e6 e19 e18) "place" = e16:=Qoz _ _ _ _ _ _;have xdouble:(Qeo e16 e17 e9 e6 e19 e18) "double" = e17:=Qlq _ _ _ _ _ _;have xcell:(Qeo e16 e17 e9 e6 e19 e18) "cell" = e9:=Qtl _ _ _ _ _ _;have xmany:(Qeo e16 e17 e9 e6 e19 e18) "many" = e6:=Qtj _ _ _ _ _ _;have xdeed:(Qeo e16 e17 e9 e6 e19 e18) "deed" = e18:=Qtk _ _ _ _ _ _;have xrow:(Qeo e16 e17 e9 e6 e19 e18) "row" = e19:=Qwz _ _ _ _ _ _;have okx:∀wd:Str,wd = "row" ∨ wd = "place" ∨ wd = "double" ∨ wd = "cell" ∨ wd = "many" ∨ wd = "deed" -> KOk K [e1,e2,e3,e4,e5,e6,e7,e8,e9,e10,e11,e12,e13,e14,e15,e16,e17,e18,e19] eR ((Qeo e16 e17 e9 e6 e19 e18) wd) wd:=by
  rintro wd (rfl | rfl | rfl | rfl | rfl | rfl)
  ·rw[xrow];exact k19
  ·rw[xplace];exact k16
  ·rw[xdouble];exact k17
  ·rw[xcell];exact k9
  ·rw[xmany];exact k6
  ·rw[xdeed];exact k18
 have C_whole:=Qpu (dc d5) T;have C_within:=QmL (dc d6) T C_whole;have C_place:=Qpz (dc d7) T C_within;have C_turn:=QuG (dc d8) T;have C_restb:=Qpx (dc d9) T;have C_refc:=QuO (CN:=(Qeo e16 e17 e9 e6 e19 e18) "cell") (dc d11) T C_place (by rw[xcell];exact mo E9) (by rw[xcell];exact q9);have C_wo:=QAM (dc d10) T C_refc;have C_meets:=QpA (dc d14) T;have C_piecew:=QmM (dc d13) T C_meets;have C_pieces:=QmN (dc d12) T C_piecew;have C_most:=QuR (dc d16) T;have C_wrow:=QuC (dc d24) T;have C_ways:=QuE (dc d23) T C_wrow;have C_counts:=QmS (dc d15) T C_ways C_most;have C_cs:=C_counts.al X G r3 r4;have C_great:=QpC (dc d25) T C_cs;have C_rowb:=QuN (dc d20) T;have C_fol:=Qyg (dc d19) T C_rowb;have C_refsz:=Qpy (dc d18) T C_within C_most;have C_wbeh:=QuD (dc d22) T C_rowb;have C_cellat:=QmT (dc d21) T C_fol C_wbeh;have C_standat:=QkB (dc d17) T C_refsz C_ways C_within C_cellat;have C_rnp:=Qyc (CP:=(Qeo e16 e17 e9 e6 e19 e18) "place") (dc d26) T C_within (by rw[xplace];exact mo E16) (by rw[xplace];exact q16);have C_rtm:=Qyb (CM:=(Qeo e16 e17 e9 e6 e19 e18) "many") ⟨_,mo gM⟩ (dc d27) T (by rw[xmany];exact mo E6) (by rw[xmany];exact q6);have C_M__init__:=QuV (dm d28) Tb;have C_Mkeep:=QuU (dm d36) Tb;have C_Mput:=Qyd (xc:=(Qeo e16 e17 e9 e6 e19 e18)) (dm d29) Tb T C_rnp C_Mkeep (by rw[xdouble];exact mo E17) (by rw[xdouble];exact q17);have C_Mtake:=QpL (xc:=(Qeo e16 e17 e9 e6 e19 e18)) (dm d30) Tb C_rnp C_wo C_Mkeep;have C_Mrow:=Qu0 (xc:=(Qeo e16 e17 e9 e6 e19 e18)) (dm d31) Tb C_rtm C_Mkeep;have C_Mcolumn:=Qu2 (xc:=(Qeo e16 e17 e9 e6 e19 e18)) (dm d32) Tb C_rtm C_Mkeep;have C_Mturn:=QpK (xc:=(Qeo e16 e17 e9 e6 e19 e18)) (dm d33) Tb C_turn C_Mkeep;have C_rb:=C_restb.al X G r1 r2;have C_Mrest:=QpM (xc:=(Qeo e16 e17 e9 e6 e19 e18)) (dm d34) Tb C_rb C_Mkeep;have C_Mundo:=QpJ (xc:=(Qeo e16 e17 e9 e6 e19 e18)) (dm d35) Tb (by rw[xdeed];exact mo E18) (by rw[xdeed];exact q18);have C_Mboard:=QmV (dm d37) Tb;have C_Mcounts:=QkC (dm d38) Tb C_cs;have C_Mmost:=QpN (dm d39) Tb C_great;have C_wrr:=Qx8 (dc d43) T (mo gCe) (mo gOt);have C_wri:=Qx9 (dc d42) T (mo gBe) C_wrr;have C_dput:=QuY (dc d44) T Tb (mo gDn) C_Mput;have C_dtake:=QpF (dc d45) T Tb (mo gDn) C_Mtake;have C_drow:=QuX (dc d46) T Tb (mo gDn) C_Mrow;have C_dcol:=QuZ (dc d47) T Tb (mo gDn) C_Mcolumn;have C_dturn:=QpE (dc d48) T Tb (mo gDn) C_Mturn;have C_drest:=QpG (dc d49) T Tb (mo gDn) C_Mrest;have C_dundo:=QpD (dc d50) T Tb (mo gDn) C_Mundo;have C_tbrd:=QuK (dc d51) T Tb C_Mboard C_wri;have C_tcnt:=QuJ (dc d52) T Tb (mo gBl) C_Mcounts;have C_tmost:=Qpv (dc d53) T Tb C_Mmost;have C_tstd:=QuH (dc d54) T Tb (mo gBl) (mo gNo) C_Mboard C_Mmost C_standat;have C_tpcs:=QuI (dc d55) T Tb C_Mboard C_pieces;have C_twon:=QuF (dc d56) T (mo gTw);have C_Dinit:=QpH (dm d40) Td (clBench.i X G C_M__init__);have C_Dsay:=Qya (xc:=(Qeo e16 e17 e9 e6 e19 e18)) (dm d41) T Td (mo gBl) (mo nA) (mo nW) (as:=[f_drow,f_dcol,f_dturn,f_drest,f_dundo,f_tbrd,f_tcnt,f_tmost,f_tstd,f_tpcs]) (ps:=[f_dput,f_dtake]) (Qy7 [("row",tA0,f_drow),("column",tA1,f_dcol),("turn",tA2,f_dturn),("rest",tA3,f_drest),("undo",tA4,f_dundo),("board",tA5,f_tbrd),("counts",tA6,f_tcnt),("most",tA7,f_tmost),("stand",tA8,f_tstd),("pieces",tA9,f_tpcs)] oA (show Yp.Nodup by decide) yA) (Qy7 [("put",tW0,f_dput),("take",tW1,f_dtake)] oW (show Y2.Nodup by decide) yW) rfl rfl (QfQ (.cons (Cal.at_ C_drow X G a_drow) (.cons (Cal.at_ C_dcol X G a_dcol) (.cons (Cal.at_ C_dturn X G a_dturn) (.cons (Cal.at_ C_drest X G a_drest) (.cons (Cal.at_ C_dundo X G a_dundo) (.cons (Cal.at_ C_tbrd.ex_ X G a_tbrd) (.cons (Cal.at_ C_tcnt.ex_ X G a_tcnt) (.cons (Cal.at_ C_tmost.ex_ X G a_tmost) (.cons (Cal.at_ C_tstd.ex_ X G a_tstd) (.cons (Cal.at_ C_tpcs.ex_ X G a_tpcs) .nil))))))))))) (QfQ (.cons (Cal.at_ C_dput X G a_dput) (.cons (Cal.at_ C_dtake X G a_dtake) .nil))) C_twon (by rw[xrow];exact mo E19) (by rw[xrow];exact q19);have C_cellAt:=QmU (dc d57) T;have C_pot:=Qye (dc d58) T;have C_take:=QuL (dc d59) T;have C_tkx:=C_take.imp λ_ _ _ _ h=>Dl.QwH h
 have C_deed:=QpI (dc d60) T C_tkx;have C_good:=QuW (dc d61) T C_deed C_take;have C_lwhole:=QmQ (dc d62) T;have C_lplace:=QmR (dc d63) T C_lwhole;have C_refa:=QuP (dc d64) T C_lplace;have C_beh:=Qyh (dc d65) T;have C_kept:=QuT (C:=CBench) (dc d66) T C_refa C_beh;have C_rowof:=Qpw (dc d67) T;obtain⟨fk,fdk,ak,Fk⟩:=d68.ex;have Gk:Rx.FnM l.prog w K mg base 1 fk fdk ["_law_e"] (QfN K [e1,e2,e3,e4,e5,e6,e7,e8,e9,e10,e11,e12,e13,e14,e15,e16,e17,e18,e19]):=QuS Fk T (PySem.W.mg_none_of X G vE) (mo E1) (mo E2) (mo E3) (mo E4) (mo E5) (mo E6) (mo E7) (mo E8) (mo E9) (mo E10) (mo E11) (mo E12) (mo E13) (mo E14) (mo E15) (mo E16) (mo E17) (mo E18) (mo E19);have C_said:=QuM (dc d69) Td C_Dsay (mo ak) Gk (Fk.binds λ_ _ _ _ _ _=>us1 λ_=>rfl) Fk.kp (mo ER) okx;have C_ltext:=QpB (dc d70) T;have C_odd:=QuQ (dc d71) T C_tkx;have C_number:=QmP (dc d72) T;have C_parsed:=QmO (dc d73) T C_number;have C_bent:=Qu1 (dc d74) T C_take C_odd;exact Qyf F T Td (clDesk.i X G C_Dinit) C_Dsay C_cellAt C_pot C_take C_good C_kept C_rowof C_bent C_said C_parsed C_ltext
theorem QCm{l:PySem.W.OpenLaw}{q:Qm}{loose:List Str}{XP:(Str->Option Value)->JS->Prop}{YP:QZ->JS->Prop}{d:DefRec}{K:Params->PySem.W.Frag}(hn:l.most=some 63)(hdf:d.params.defaults=[])
  (hY:∀(w:QZ)(h:JS),YP w h->(K w.params).In h)
  (F:∀(w:QZ)(mg:Str->Option Value)(fa:Addr)(h:JS),(K w.params).In h->h.Ns mainGlobals mg->mg d.name=some (.ref fa) ->
   ∃fd:JQ,(∀(s:Shared)(u:Value),Qfy s fd ⟨[u],[]⟩ [("_law_script",u)])/\∀base:JS,(K w.params).In base->base.Ns mainGlobals mg->FnOk l.prog w (K w.params) mg base CX0 11 fa fd ["_law_script"] (Qjm (K w.params))) :
  PySem.W.WalkO q loose XP YP l.row.toRowW d [] (λf vs=>PySem.call f vs):=
 L2.Qtq (n:=63) (k:=11) (x := "_law_script") (CX:=λ_=>CX0) (sp:=λw=>(Qjm (K w.params))) hn (by decide) hdf ⟨rfl,by decide,by decide,rfl⟩ hY F (λ_ _ a ns hl _ hS=>⟨a,ns,rfl,hS,hl,λ_=>rfl⟩) λ_ _ _ _ _ z=>z
end Rk
open PySem.W
set_option maxRecDepth 100000 in
set_option maxHeartbeats 0 in
theorem PySem.Challenge.cw_rooklands_k93_rows_that_are_none_holds : PySem.Challenge.rw_rooklands_k93_rows_that_are_none.Holds := by
 w_on;o_law;k_head;(case hw=>w_witness2)
 k_fill
 refine Rk.QCm (l:=PySem.Challenge.rw_rooklands_k93_rows_that_are_none) rfl rfl (λw h Y=>PySem.W.kIn_of Y) ?F
 case F=>
  intro w mg fa h KX G hmg;refine' Rk.Qzi KX G hmg ?_ ?_ ?_ ?_ ?_ ?_ ?_ ?_ ?_ ?_ ?_ ?_ ?_ ?_ ?_ ?_ ?_ ?_ ?_ ?_ ?_ ?_ ?_ ?_ ?_ ?_ ?_ ?_ ?_ ?_ ?_ ?_ ?_ ?_ ?_ ?_ ?_ ?_ ?_ ?_ ?_ ?_ ?_ ?_ ?_ ?_ ?_ ?_ ?_ ?_ ?_ ?_ ?_ ?_ ?_ ?_ ?_ ?_ ?_ ?_ ?_ ?_ ?_ ?_ ?_ ?_ ?_ ?_ ?_ ?_ ?_ ?_ ?_ ?_ ?_ ?_ ?_ ?_ ?_ ?_ ?_ ?_ ?_ ?_ ?_ ?_ ?_ ?_ ?_ ?_ ?_ ?_ ?_ ?_ ?_ ?_ ?_ ?_ ?_ ?_ ?_ ?_ ?_ ?_ ?_ ?_ ?_ ?_ ?_ ?_ ?_ ?_ ?_ ?_ ?_ ?_ ?_ ?_ ?_ ?_ ?_ ?_ ?_ ?_ ?_ ?_ ?_ ?_ ?_ ?_ ?_ ?_ ?_ ?_ ?_ ?_ ?_ ?_ ?_ ?_
  all_goals first
   |(refine' Rk.QBa ?a ?l ?c ?k;(case a=>k_is);(case l=>k_is);(case c=>k_is);(case k=>k_is);done)
   |(refine' Rk.QAT ?a ?i ?l ?c ?k;(case a=>k_is);(case i=>k_is);(case l=>k_is);(case c=>k_is);(case k=>k_is);done)
   |(refine' Rk.ClA.mk ?a ?b ?c ?d ?e ?f ?g;(case a=>k_is);(case b=>k_is);(case c=>k_is);(case d=>k_is);(case e=>k_is);(case f=>k_is);(case g=>k_is);done)
   |(refine' Rk.GlbN.mk ?_ ?_ ?_ ?_ ?_ ?_ ?_ ?_ ?_ ?_ ?_ ?_ ?_ ?_ ?_ ?_ ?_ ?_ ?_<;>k_is;done)
   |k_exc
   |(first | refine' Rk.QfW 5 ?a ?b ?c ?d ?e ?f ?g ?h ?i ?j ?k ?l ?m ?n ⟨by decide,by decide,by decide,by decide⟩ | refine' Rk.QfW 8 ?a ?b ?c ?d ?e ?f ?g ?h ?i ?j ?k ?l ?m ?n ⟨by decide,by decide,by decide,by decide⟩ | refine' Rk.QfW 15 ?a ?b ?c ?d ?e ?f ?g ?h ?i ?j ?k ?l ?m ?n ⟨by decide,by decide,by decide,by decide⟩ | refine' Rk.QfW 16 ?a ?b ?c ?d ?e ?f ?g ?h ?i ?j ?k ?l ?m ?n ⟨by decide,by decide,by decide,by decide⟩ | refine' Rk.QfW 17 ?a ?b ?c ?d ?e ?f ?g ?h ?i ?j ?k ?l ?m ?n ⟨by decide,by decide,by decide,by decide⟩ | refine' Rk.QfW 18 ?a ?b ?c ?d ?e ?f ?g ?h ?i ?j ?k ?l ?m ?n ⟨by decide,by decide,by decide,by decide⟩
     (case a=>k_is);(case b=>k_is);(case c=>k_is);(case d=>k_is);(case e=>k_is);(case f=>k_is);(case g=>k_is);(case h=>k_is);(case i=>k_is);(case j=>k_is);(case k=>k_is);(case l=>k_is);(case m=>kit_is);(case n=>repeat (first | exact .nil | refine .cons (by kit_is) ?_));done)
   |k_is
   |rfl
   |decide
   |skip
