import PyProof.Rows.All
import Wide.All
import OpenK.AllK
import Wide.FinOn
import Lean
import PyProof.EqAt
import PyProof.EqKinds
import PyProof.TupleCall
import PyProof.P3Eq
import PyProof.Draws
import PyProof.EnumMake
import PyProof.NeData
import KE.LcSums
import PyProof.WalkInts
import PyProof.SeqI3
import KE.KDictOf
import PyProof.Rows.TupDisplay
import PyProof.Rows.SortRuns
import PyProof.Rows.SortShellK
import KE.KSortTup
import KE.KRevIter
import PyProof.FactsAll.range_2
import PySem.Challenge.RW_rooklands_k91_benches_and_deeds
local macro_rules | `(tactic| omega) => `(tactic| first | lia | omega +splitDisjunctions)
open PySem.W renaming Frag->Qa,kitOne->Qb,keepIn->Qe,nsIn->Qj,mg_of->Ql,codeIn->Qr,fnOf->Qt,findIn->Qu,mg_none_of->QM,mroIn->Jp,kia_one->JW,excIn->JY,isFn->J5,emptyDict->Ze,instObj->ZN,clsIn->ZX,kia_tup->YM,methodCall_KW->Y5,plainGet->Qab,callWith_K->QaG,hasDictIn->QaY,cellsFrom_some->Qbh,lookIn->Qb9,plainGet_of->Qcg,callWith_K0->Qch,plainOver->Qdr,methodObj->Qds,kitx_list->Qdt,takerIn->Qel,makesIn->Qem,OpenLaw->Qen,typeIn->Qfe,looks_mroIn->QiV,hideAll_get->QiW,of_hideAll->Qkc,kitx_tuple->Qkd,codeRec_of->Qke,specialIn->Qkq,kitx_none->Qkr,kitx_dict->Qks,kitx_bool->Qkt,kitx_str->Qnj,kitx_int->Qnk,handedIn->Qnl,takesIn->Qnt,hideAll->Qnu,kitAny->QpE,WalkO->QrC,Looks->QrD
open PySem renaming PyData->Qc,wpAny_pure->Qf,FuncData->Qq,Program->Qw,Expr->QX,Around->Q9,World->Ja,wpAny_newObj_type->Jy,Heap->JR,wpAny_callSpecial?_slot->JU,wpAny_field->J3,wpAny_call_entry->J8,Paired->Zf,wpAny_holding->Zk,Stmt->ZM,sizeLine_eq->ZW,wpAny_truthy_bool->Z6,wpAny_of_eq->Ya,wpAny_typeNameOfWhole_keyiter->Yg,wpAny_seqItems->Yi,wpAny_setField_rec->Yo,wpAny_Call_Name_kw->Yp,wpAny_dictEntries->YE,mem_of_lookup->YF,wpAny_typeNameOf_keyiter->YZ,Scope->Y4,wpAny_execs_nil->Qaa,call_meets->Qau,NameKind->Qax,codeAny_mono->QaB,wpAny_execs_cons->QaI,wpAny_attempt->QaW,wpAny_passesOwn->Qbc,Builtin->QbM,Fin->QbU,wpAny_pyIter_zip->QcD,wpAny_pyIter_rangeiter->QcG,wpAny_specialOf->Qdo,wpAny_isOneOf_keyiter->Qdp,wpAny_call->Qdv,wpAny_updateSeq_pair->QdH,wpAny_setField->Qeg,wpAny_fieldsOf->Qeh,Keyword->Qer,BindsTo->Qeu,wpAny_pyIter_tuple->Qfa,wpAny_onRaise->Qfb,tupleKind_room_in1->Qfc,Operator->Qff,Comprehension->Qfi,wpAny_Return_some->Qge,wpAny_typeOf->Qg6,seqIndex_neg->Qg7,IsPart->Qha,wpAny_isInstance->Qhe,wpAny_eqBool_int->Qhf,noFill_tuple_add->Qhg,wpAny_dictEpoch->QiR,seqIndex_of->QiS,Within->QiU,IsRangeIter->Qi0,wpAny_newFunctionEnv_cells->Qkb,wpAny_loadPart->Qkm,wpAny_letOwnedTupleGo_zip->Qkn,Model->Qkw,wpAny_comprehension_free->Qnh,seq_tuple_add->Qno,rangeSize_one->Qnp,call->Qns,wpAny_pyNext_range_end->QpA,wpAny_getItem_list_neg->QpB,codeAny_compStart_list->QpD,wpAny_notOrdered_dict->Qrz,concat_meets->QrA,codeAny_call_function->QrB,IsZip->QrJ,CmpOp->QrK,wpAny_newFunctionEnv->Quk,codeAny_call_builtin->Qul,wpAny_letGo->Quv,wpAny_List_spliced->QwF,ZipApart->QwH,wpAny_sequenceKey->Qw7,wpAny_pyIter_list->Qw8,wpAny_pyIter_enum->Qw9,wpAny_assign_Name->Qxa,wpAny_Name->Qxb,typeIs_int->Qxc,slot_list_getitem->Qxd
open PySem.Heap renaming get?_push_of_some->Qd,lt_size->Qo,get?_push_size->Qs,SameBut->ZH,size_push->Z7,get?_update_self->Qag,get?_update_other->Qi1,IsTuple->QxA,FlyingW->QxB
open List renaming length_map->Qg,getElem?_eq_getElem->Qi,size_toArray->Qk,length_append->Qv,mem_cons->Qz,getElem?_map->QC,mem_map->QH,getD_eq_getElem?_getD->QJ,length_cons->QV,range->QY,replicate->QZ,map_map->Q1,getElem?_eq_some_iff->Q2,mem_of_getElem?->Q3,length_range->Q8,not_mem_nil->Jb,lookup_cons->Jh,mem_cons_of_mem->Jm,getElem?_eq_none->Jr,mem_append_right->JA,getElem?_range->JC,nodup_cons->JE,map_append->JF,mem_range->JI,mem_singleton->JL,map_cons->JQ,all_eq_true->J4,mem_iff_getElem?->J7,length_set->Zc,replicate_succ->Zg,mem_filter->Zj,mem_cons_self->Zl,take_length->Zm,dropLast_concat_getLast->Zr,take_add_one->Zx,mem_append->ZA,map_congr_left->ZB,filterMap_map->ZG,pairwise_iff_getElem->ZL,flatten_cons->ZU,append_nil->ZV,toArray->Z0,lookup->Z3,getElem?_cons_succ->Z4,any_cons->Yq,dropLast_concat->Yw,mem_toArray->YG,getElem_mem->YH,getElem?_replicate->YW,find?_cons->YX,getElem?_set_self->Y6,length_replicate->Qaf,length_take->Qas,getElem?_set_ne->Qav,filterMap_cons->QaH,perm_ext_iff_of_nodup->QaU,nodup_nil->Qa7,getElem?_append_left->Qa8,ext_getElem?->Qbg,length_pos_of_mem->QbP,take_left'->Qca,of_mem_zip->Qcb,forIn_cons->Qcc,drop_left'->Qcd,toList_toArray->Qc8,flatMap_append->Qc9,mem_filterMap->Qdx,getElem?_set->Qei,map_nil->Qep,length_drop->QeB,eq_nil_of_length_eq_zero->QeC,any_eq_true->QeD,range_succ->Qgb,getElem?_append_right->Qgg,drop_zero->Qg9,getElem?_cons_zero->QhV,filter_cons_of_pos->QhW,filter_cons_of_neg->QhX,all_cons->QhY,find?_cons_of_pos->QiX,find?_cons_of_neg->QiY,filter_eq_nil_iff->QiZ,getElem?_toArray->Qkf,filterMap_append->Qkg,any_map->Qkh,all_map->Qki,mem_append_left->Qkx,length_dropLast->Qky,map_id->Qnn,pairwise_map->QpG,nodup_append->QpH,foldl->QpI,any_eq_false->QpJ,zipIdx_cons->QrG,getElem_map->QrH,filter_cons->QrI,zipIdx_nil->Qun,take_range->Quo,nil_append->Qup,length_nil->Quq,forIn_nil->QuC,take_nil->QwL,map_take->QwM,drop_nil->QwN,map_set->Qxv
open Nat renaming le_refl->Qh,ne_of_lt->Qx,le_trans->QL,lt_of_lt_of_le->QN,zero_le->Je,lt_irrefl->Zv,le_of_lt->Zw,mul_le_mul->ZO,lt_of_le_of_lt->Yd,le_of_eq->Qah,lt_trichotomy->Qbj,ne_of_gt->Qci,pow_le_pow_right->QcH,le_succ_of_le->Qeo,min_self->QeA,min_le_right->Qfg,le_add_right->Qfh,sub_zero->Qkv,le_succ->Qnw,add_le_add_left->Qnx,add_sub_cancel->QpF,lt_succ_of_lt->QrF,lt_succ_self->Qum,min_eq_left->QuB
open Bool renaming false_ne_true->Qp,and_eq_true_iff->Q4,and_eq_true->JP,eq_iff_iff->ZC,false_eq_true->Yc,eq_false_iff->Yr,true_and->Qay,false_and->Qba,not_false->Qhc,and_false->Qhd,false_or->QwR
open Int renaming toNat_natCast->Qy,add_zero->Ym,zero_add->QeE,mul_zero->QeF,toNat_of_nonneg->Qny,natCast_nonneg->QpK,emod_lt_of_pos->QpL,emod_nonneg->QuD,add_assoc->Qxz
open Option.some renaming inj->QB
open PySem.PyData renaming int->QD,str->Q0,eqv->Jd,canLay0->JO,depth->J6,canLayAll0->Yj,list->YC,bool->Y1,tuple->QaJ,none->QcF,depthAll->Qez
open Or renaming inl->QF,inr->QK
open PySem.Value renaming ref->QQ,none->Q6,bool->Zt,builtin->YR,type->Y3,int->QbT,str->Qdq,float->Qko,isStrOf->Quy,isInt->Qxh,bytes->Qxi
open PySem.NameKind renaming free->Q5,cell->Ye
open Array renaming length_toList->Jg,getElem?_eq_getElem->JZ,getD_eq_getD_getElem?->Yh,getElem_toList->Qat,perm_iff_toList_perm->QaL,getElem?_eq_none->QbN,mem_toList_iff->Qck,getElem?_toList->Qi3,toList_append->Qkz,toList->QwS
open False renaming elim->Jj
open PySem.Builtin.Range renaming rangeFitsLong->Js,rangeSize->Zi,rangeFields->QxI
open True renaming intro->Ju
open PySem.Builtin.SmallTypes renaming nextOf->Jw,ownedTupleIsFree->Zh,ownedTupleHandOut->QaK
open PySem.F renaming plainAttrs_list->Jz,slot_dict_keyiterator_next->Zz,slot_tuple_iterator_next->YD,args_tuple_add_2->QaZ,entry_tuple_add->Qbd,slot_tuple_add->Qbi,slot_dict_get->QbJ,slot_zip_next->QcI,slot_range_reversed->QcJ,excBase_ValueError->Qey,type_list_append->Qf9,slot_list_append->Qga,args_dict_keyiterator_next_1->Qgc,args_dict_get_3->Qgf,slot_dict_iter->Qgh,entry_dict_keyiterator_next->Qgi,entry_dict_get->Qg8,args_tuple_iterator_next_1->Qhb,type_list_pop->Qhj,slot_list_pop->Qhk,entry_tuple_iterator_next->Qhl,plain_reversed_new->QpM,excAttr_ValueError->QpN,args_zip_next_1->QuE,entry_zip_next->QwQ,slot_int_rmul->QxC
open Option renaming map_eq_some_iff->JH,getD_none->Qnv,none->QwK
open PyProof.Rows renaming callWith_type1->JJ,slot_tuple_getitem->JM,Keyed->YI,SortKind->QaX,AllBare->Qdu,IntsAre->Qes,assignInOrder_cons->Qfd,listUpdate_at->Qnq,subscriptTail_builtinR->QpC,seqEpoch_at->Quw,entry_tuple_getitem->Qux,args_tuple_getitem->QwG,assignInOrder_nil->Qxe,Subscript_->Qxj
open Sum renaming inl->JS,inr->JV
open PySem.PassesOwn renaming never->Za
open PySem.Builtin.Int renaming intBits->Zd,intTooBig->Qfj
open ForInStep renaming yield->Zn
open Prod.mk renaming inj->Zu
open PySem.Builtin.Slice renaming slicePlaces->Yb,sliceAdjust->Qai,sliceApplied->Qdb,slicePartIndex->QxG,sliceFields->QxH
open PySem.Heap.SameBut renaming update->Yk
open PySem.Builtin.Tuple renaming tupleExact->Yl,tupleItemsOf->Qda,tupleIsExact->QxE,tupleHashOf->QxF
open PySem.Builtin.List renaming listTooLong->Yn
open PySem.Obj renaming mapSeq->Yu,data_mapFields->Qa6,isFreed_of_fields->Qku,data_mapDictKeys->Qnm,cls_mapFields->QrE,mapFields->Qxu
open List.Perm renaming eq_of_pairwise->Yx,refl->Qeq
open PySem.Str renaming ofString->YO
open PySem.Challenge renaming rw_rooklands_k91_benches_and_deeds->Y0,pw_rooklands_k91_benches_and_deeds->QuA
open Ne renaming symm->Y2
open PySem.Calls renaming spliced_cons->QaV,callWith_builtin->QbK,evalArgs_plain->Qcj,spliced_nil->QdI,Name_function_global->Qgd
open PySem.Builtin.Dict renaming showsAll->Qa9,entriesForEmpty->QcL,dictSlotNone->Qdz,updateFrom->Qej,mergeDict->Qet,quietEq->Qfk
open PySem.SeqAt.EqAt renaming bool_bool->Qbz,str_int->Qhh,int_str->Qhi
open PySem.Builtin.Dict_items renaming ownsTuple->QbL
open PySem.Builtin renaming bitAnd->Qce,bitOr->QcK
open PySem.SeqAt renaming eqv_refl->QcE,notIn_tupleAt->Qkp,notIn_listAt->Qni,EqAt->Qnr
open PySem.Paired renaming length->Qc7,snoc->QwJ
open Prod renaming ext->Qdw
open List.Pairwise renaming imp_of_mem->Qdy,nil->Qxw,map->Qxx,filter->Qxy
open PySem.Around renaming under->QdJ
open Sum.inl renaming inj->QiT
open PySem.Heap.DictOf renaming new->Qi2
open PySem.Code renaming isFrame->Qkj,isGuard->QxD
open Sum.inr renaming inj->Quz
open PySem.Shared renaming heap->QwI
open PySem.Heap.UpToSlots renaming of_keeps->QwO
open PySem.Heap.IsSliceOf renaming new->QwP
open PySem.Walks renaming range->Qxf
open PySem.W.WShape renaming has->Qxg
open PySem.W.Looks renaming of_pure->Qxk,here->Qxl
open PySem.EqMixed renaming ne_str_int->Qxm,ne_str_bool->Qxn,ne_int_str->Qxo,ne_bool_str->Qxp,eq_str_int->Qxq,eq_str_bool->Qxr,eq_int_str->Qxs,eq_bool_str->Qxt
open PySem PySem.Spec PyProof.Rows
set_option Elab.async false
set_option linter.all false
set_option maxRecDepth 100000
namespace L2
abbrev Key:=Sum Int Str
def QjG:Key->Value->Bool
 |.inl k,v=>Qxh k v
 |.inr x,v=>Quy x v
def QzA(w:Ja):Key->Int
 |.inl k=>hashInt k
 |.inr x=>hashStr w x
theorem ZT:∀{k:Key}{v:Value},QjG k v=true->(∃i t,k=JS i/\v=QbT i t)∨(∃x t,k=JV x/\v=Qdq x t)
 |.inl i,v,h=>by
  obtain⟨t,e⟩:=Value.isInt_shape (k:=i) (v:=v) h;exact .inl ⟨i,t,rfl,e⟩
 |.inr x,v,h=>by
  obtain⟨t,e⟩:=Value.isStrOf_shape (x:=x) (v:=v) h;exact .inr ⟨x,t,rfl,e⟩
theorem Qmo(i:Int)(t:Tok):QjG (.inl i) (.int i t)=true:=by simp[QjG,Qxh]
theorem Qmn(x:Str)(t:Tok):QjG (.inr x) (.str x t)=true:=by simp[QjG,Quy]
theorem QvS(a b:Int):decide ((JS a:Key)=JS b)=(a == b):=by
 by_cases e:a=b
 ·subst e;simp
 ·have h:¬(JS a:Key)=JS b:=λq=>e (QiT q)
  rw[decide_eq_false h];exact(beq_eq_false_iff_ne.mpr e).symm
theorem QvP(a b:Str):decide ((JV a:Key)=JV b)=decide (a=b):=by
 by_cases e:a=b
 ·subst e;simp
 ·have h:¬(JV a:Key)=JV b:=λq=>e (Quz q)
  rw[decide_eq_false h,decide_eq_false e]
theorem QvR(a:Int)(b:Str):decide ((JS a:Key)=JV b)=false:=decide_eq_false (λq=>nomatch q)
theorem QvQ(a:Str)(b:Int):decide ((JV a:Key)=JS b)=false:=decide_eq_false (λq=>nomatch q)
def mixKind(prog:Qw)(w:Ja):PySem.KeyKind prog w Key where
 is:=QjG
 hash:=QzA w
 inj:=λv a b ha hb=>by
  rcases ZT ha with⟨i,t,rfl,rfl⟩ | ⟨x,t,rfl,rfl⟩
  ·rcases ZT hb with⟨j,u,rfl,e⟩ | ⟨y,u,rfl,e⟩
   ·injection e with e1 _;rw[e1]
   ·exact nomatch e
  ·rcases ZT hb with⟨j,u,rfl,e⟩ | ⟨y,u,rfl,e⟩
   ·exact nomatch e
   ·injection e with e1 _;rw[e1]
 byValue:=λk v h=>by
  rcases ZT h with⟨i,t,rfl,rfl⟩ | ⟨x,t,rfl,rfl⟩<;>rfl
 pyHash:=λhv h=>by
  rcases ZT hv with⟨i,t,rfl,rfl⟩ | ⟨x,t,rfl,rfl⟩
  ·exact wpAny_pyHash_int h
  ·exact wpAny_pyHash_str h
 eqBool:=λhu hv h=>by
  rcases ZT hu with⟨i,t,rfl,rfl⟩ | ⟨x,t,rfl,rfl⟩
  ·rcases ZT hv with⟨j,u,rfl,rfl⟩ | ⟨y,u,rfl,rfl⟩
   ·rw[QvS] at h;exact Qhf h
   ·rw[QvR] at h;exact Qhi i t y u _ _ _ _ h
  ·rcases ZT hv with⟨j,u,rfl,rfl⟩ | ⟨y,u,rfl,rfl⟩
   ·rw[QvQ] at h;exact Qhh x t j u _ _ _ _ h
   ·rw[QvP] at h;exact wpAny_eqBool_str h
 «strs» := λk x t v h=>by
  rcases ZT h with⟨i,u,rfl,e⟩ | ⟨y,u,rfl,e⟩
  ·exact nomatch e
  ·injection e with e1 _
   subst e1;cases v<;>rfl
theorem QhC(prog:Qw)(w:Ja)(i:Int)(t:Tok):(mixKind prog w).is (.inl i) (.int i t)=true:=Qmo i t
theorem QhB(prog:Qw)(w:Ja)(x:Str)(t:Tok):(mixKind prog w).is (.inr x) (.str x t)=true:=Qmn x t
inductive V where
 |non | bl (b:Bool) | int (i:Int) | str (x:Str) | byt (b:Array UInt8) | flt (b:UInt64) | ref (a:Addr) | ty (n:String)
 deriving DecidableEq
def RelV:V->Value->Prop
 |.non,u=>u=Q6
 |.bl b,u=>u=Zt b
 |.int i,u=>∃t,u=QbT i t
 |.str x,u=>∃t,u=Qdq x t
 |.byt b,u=>∃t,u=Qxi b t
 |.flt b,u=>∃t,u=Qko b t
 |.ref a,u=>u=QQ a
 |.ty n,u=>u=Y3 n
abbrev Vals:List V->List Value->Prop:=Zf RelV
theorem Vals.length{xs:List V}{us:List Value}(r:Vals xs us):xs.length=us.length:=Qc7 r
theorem Vals.get:∀{xs:List V}{us:List Value}{i:Nat}{x:V},Vals xs us->xs[i]? = some x->∃u,us[i]? = some u/\RelV x u
 |_,_,_,_,.nil,e=>by simp at e
 |_,_,0,_,.cons r _,e=>by simp at e;subst e;exact⟨_,rfl,r⟩
 |_,_,i+1,x,.cons _ t,e=>by
  obtain⟨u,h1,h2⟩:=Vals.get (i:=i) (x:=x) t (by simpa using e);exact⟨u,by simpa using h1,h2⟩
theorem Vals.set{x:V}{u:Value}(r:RelV x u):∀{xs:List V}{us:List Value}(i:Nat),Vals xs us->Vals (xs.set i x) (us.set i u)
 |_,_,_,.nil=>.nil
 |_,_,0,.cons _ t=>.cons r t
 |_,_,i+1,.cons q t=>.cons q (Vals.set r i t)
theorem Vals.append:∀{xs ys:List V}{us ws:List Value},Vals xs us->Vals ys ws->Vals (xs++ys) (us++ws)
 |_,_,_,_,.nil,s=>s
 |_,_,_,_,.cons r t,s=>.cons r (Vals.append t s)
theorem Vals.take:∀{xs:List V}{us:List Value}(n:Nat),Vals xs us->Vals (xs.take n) (us.take n)
 |_,_,0,_=>.nil
 |_,_,_+1,.nil=>.nil
 |_,_,n+1,.cons r t=>.cons r (Vals.take n t)
theorem Vals.drop:∀{xs:List V}{us:List Value}(n:Nat),Vals xs us->Vals (xs.drop n) (us.drop n)
 |_,_,0,r=>r
 |_,_,_+1,.nil=>.nil
 |_,_,n+1,.cons _ t=>Vals.drop n t
def RelO:Option V->Option Value->Prop
 |some v,some u=>RelV v u
 |none,none=>True
 |_,_=>False
def KV{κ:Type}:List (κ×V)->List (κ×Value)->Prop:=Zf λ(p:κ×V)(q:κ×Value)=>p.1=q.1/\RelV p.2 q.2
def kV:Key->V
 |.inl i=>.int i
 |.inr x=>.str x
inductive HO where
 /-- a list -/
 |lst (xs:List V)
 /-- a tuple (never changes) -/
 |tup (xs:List V)
 /-- a dict whose keys are ints and texts;one whose keys are tuples of ints and texts (the empty one is both) -/
 |dK (kvs:List (Key×V)) | dT (kvs:List (List Key×V))
 /-- a set of ints: its members,its size -/
 |set (S:Int->Bool) (n:Nat)
 /-- an instance of the class at C,its dict at dx,its attributes -/
 |ins (C dx:Addr) (fs:List (Str×V))
 /-- the dict of the instance at x -/
 |own (x:Addr)
 /-- the dict of an exception -/
 |xd (fs:List (Str×V))
 /-- a bound method,f of x -/
 |met (f x:Addr)
 /-- a range object lo,lo+1,.. below hi -/
 |rng (lo hi:Int)
 /-- a thing that is known to the object (the script;a dict while a loop walks it): read,never written while it is so -/
 |frz (o:Obj) (u:HO)
 /-- a code object's table -/
 |tbl (ps:Array Value)
 /-- any other thing,by what is true of its one object (a def of one's own: SetO a S n:=HO.ext λh=>..) -/
 |ext (φ:JR->Prop)
abbrev Hp:=Addr->Option HO
def upd(H:Hp)(a:Addr)(o:HO):Hp:=λb=>if b=a then some o else H b
theorem upd_same{H:Hp}{a:Addr}{o:HO}:upd H a o a=some o:=by unfold upd;rw[if_pos rfl]
theorem QU{H:Hp}{a b:Addr}{o:HO}(h:b≠a):upd H a o b=H b:=by unfold upd;rw[if_neg h]
theorem QrR{H:Hp}{a:Addr}{o u:HO}:upd (upd H a o) a u=upd H a u:=by
 funext b;unfold upd;split<;>rfl
theorem YB{H:Hp}{a b:Addr}{o u:HO}(h:H a=some o)(h':H b=some u)(d:o≠u):a≠b:=by
 intro e;subst e;rw[h] at h';exact d (QB h')
theorem QP{H:Hp}{a b:Addr}{o:HO}(h:H a=some o)(h':H b=none):a≠b:=by
 intro e;subst e;rw[h] at h';cases h'
def TupN(h:JR)(a:Addr)(items:Array Value):Prop:=∃o,h.get? a=some o/\o.cls=.type "tuple" /\ o.dict=none/\∃n,o.data=.seq items n
theorem TupN.tup{h:JR}{a:Addr}{items:Array Value}(x:TupN h a items):IsTup h a items:=let ⟨o,e,c,_,d⟩:=x;⟨o,e,c,d⟩
theorem TupN.lt{h:JR}{a:Addr}{items:Array Value}(x:TupN h a items):a<h.objs.size:=let ⟨_,e,_⟩:=x;Qo e
theorem TupN.new(h:JR)(items:Array Value):TupN (h.push { cls:=.type "tuple",data:=.seq items }) h.objs.size items:=⟨_,Qs _ rfl,rfl,rfl,_,rfl⟩
section
variable(P:Qw)(w:Ja)
def ObjOk(H:Hp)(h:JR)(a:Addr):HO->Prop
 |.lst xs=>xs.length<=sizeLine/\∃(its:List Value)(n:Nat),Vals xs its/\h.get? a=some { cls:=.type "list",data:=.seq its.toArray n }
 |.tup xs=>xs.length<=sizeLine/\∃its:List Value,Vals xs its/\TupN h a its.toArray
 |.dK kvs=>kvs.length<=sizeLine/\(a == sysModules)=false/\∃vs,KV kvs vs/\h.DictOf (mixKind P w) a vs
 |.dT kvs=>kvs.length<=sizeLine/\(a == sysModules)=false/\∃xs:List (List Key×Addr×Value),
   Zf (λ(p:List Key×V)(q:List Key×Addr×Value)=>p.1=q.1/\H q.2.1=some (.tup (p.1.map kV))/\RelV p.2 q.2.2) kvs xs /\
   ∃o es ep,h.get? a=some o/\o.ExactDict/\o.data=.dict es ep/\es.toList=xs.map (entryOfKey (tupleKind (mixKind P w)))/\(xs.map (·.1)).Nodup
 |.set S n=>h.SetOf (intKind P w) a S n
 |.ins C dx fs=>H dx=some (.own a)/\fs.length<=1000/\dx≠a/\h.get? a=some (PySem.W.instObj C dx) /\
   ∃mA,h.Ns1 dx mA/\(∀f,RelO (fs.lookup f) (mA f))/\PySem.Within mA (fs.map (·.1))
 |.own _=>∃o,h.get? a=some o
 |.xd fs=>∃mA,h.Ns1 a mA/\∀f,RelO (fs.lookup f) (mA f)
 |.rng lo hi=>∃t u v,h.get? a=some { cls:=.type "range",data:=.fields #[.int lo t,.int hi u,.int 1 v] }
 |.frz o u=>h.get? a=some o/\ObjOk H h a u
 |.tbl ps=>h.get? a=some { cls:=.none,data:=.fields ps }
 |.met f x=>h.get? a=some (PySem.W.methodObj (.ref f) (.ref x))
 |.ext φ=>φ h/\(∃o,h.get? a=some o)/\∀h1 h2:JR,φ h1->(∀o,h1.get? a=some o->h2.get? a=some o)->φ h2
def HOk(H:Hp)(h:JR):Prop:=∀a o,H a=some o->ObjOk P w H h a o
end
section
variable{P:Qw}{w:Ja}{H H':Hp}{h h':JR}{a:Addr}{o:HO}
theorem ObjOk.lt(x:ObjOk P w H h a o):a<h.objs.size:=by
 cases o with
 |lst xs=>obtain⟨_,_,_,_,e⟩:=x;exact Qo e
 |tup xs=>obtain⟨_,_,_,p⟩:=x;exact p.lt
 |dK kvs=>obtain⟨_,_,_,_,o,_,_,e,_⟩:=x;exact Qo e
 |dT kvs=>obtain⟨_,_,_,_,o,_,_,e,_⟩:=x;exact Qo e
 |set S n=>obtain⟨o,_,_,_,e,_⟩:=x;exact Qo e
 |ins C dx fs=>obtain⟨_,_,_,e,_⟩:=x;exact Qo e
 |own y=>obtain⟨_,e⟩:=x;exact Qo e
 |xd fs=>obtain⟨_,⟨_,_,_,e,_⟩,_⟩:=x;exact Qo e
 |rng lo hi=>obtain⟨_,_,_,e⟩:=x;exact Qo e
 |frz ob u=>obtain⟨e,_⟩:=x;exact Qo e
 |tbl ps=>exact Qo (show h.get? a=some _ from x)
 |met f y=>exact Qo (show h.get? a=some _ from x)
 |ext φ=>obtain⟨_,⟨_,e⟩,_⟩:=x;exact Qo e
theorem Zf.mapP{α β:Type}{F G:α->β->Prop}:∀{l₁:List α}{l₂:List β},Zf F l₁ l₂->(∀a b,F a b->G a b)->Zf G l₁ l₂
 |_,_,.nil,_=>.nil
 |_,_,.cons r t,f=>.cons (f _ _ r) (Zf.mapP t f)
theorem ObjOk.stay(x:ObjOk P w H h a o)(k:∀b u,(b=a∨H b=some (.own a))->h.get? b=some u->h'.get? b=some u)
  (ho:∀b,H b=some (.own a)->H' b=some (.own a))(ht:∀b xs,H b=some (.tup xs)->H' b=some (.tup xs)):ObjOk P w H' h' a o:=by
 induction o with
 |lst xs=>obtain⟨z,its,n,r,e⟩:=x;exact⟨z,its,n,r,k _ _ (.inl rfl) e⟩
 |tup xs=>obtain⟨z,its,r,ob,e,c⟩:=x;exact⟨z,its,r,ob,k _ _ (.inl rfl) e,c⟩
 |dK kvs=>obtain⟨z,y,vs,r,ob,es,ep,e,c⟩:=x;exact⟨z,y,vs,r,ob,es,ep,k _ _ (.inl rfl) e,c⟩
 |dT kvs=>
  obtain⟨z,y,xs,r,ob,es,ep,e,c⟩:=x;exact⟨z,y,xs,Zf.mapP r λp q z=>⟨z.1,ht _ _ z.2.1,z.2.2⟩,ob,es,ep,k _ _ (.inl rfl) e,c⟩
 |set S n=>obtain⟨ob,es,ep,t,e,c⟩:=x;exact⟨ob,es,ep,t,k _ _ (.inl rfl) e,c⟩
 |ins C dx fs=>
  obtain⟨d,z,ne,e,mA,⟨od,es,ep,e2,c⟩,r⟩:=x;exact⟨ho _ d,z,ne,k _ _ (.inl rfl) e,mA,⟨od,es,ep,k _ _ (.inr d) e2,c⟩,r⟩
 |own y=>obtain⟨ob,e⟩:=x;exact⟨ob,k _ _ (.inl rfl) e⟩
 |xd fs=>obtain⟨mA,⟨od,es,ep,e,c⟩,r⟩:=x;exact⟨mA,⟨od,es,ep,k _ _ (.inl rfl) e,c⟩,r⟩
 |rng lo hi=>obtain⟨t,u,v,e⟩:=x;exact⟨t,u,v,k _ _ (.inl rfl) e⟩
 |frz ob u ih=>obtain⟨e,q⟩:=x;exact⟨k _ _ (.inl rfl) e,ih q⟩
 |tbl ps=>
  have e:h.get? a=some { cls:=.none,data:=.fields ps }:=x;show h'.get? a=some { cls:=.none,data:=.fields ps };exact k a _ (.inl rfl) e
 |met f y=>
  have e:h.get? a=some (PySem.W.methodObj (.ref f) (.ref y)):=x;show h'.get? a=some (PySem.W.methodObj (.ref f) (.ref y));exact k a _ (.inl rfl) e
 |ext φ=>obtain⟨p,⟨o,e⟩,st⟩:=x;exact⟨st _ _ p λo q=>k _ _ (.inl rfl) q,⟨o,k _ _ (.inl rfl) e⟩,st⟩
theorem HOk.lt(x:HOk P w H h)(e:H a=some o):a<h.objs.size:=(x a o e).lt
theorem HOk.fresh(x:HOk P w H h)(e:h.objs.size<=a):H a=none:=by
 cases q:H a with
 |none=>rfl
 |some u=>exact absurd (QN (x.lt q) e) (Zv _)
theorem HOk.kept(x:HOk P w H h)(k:∀b u,h.get? b=some u->h'.get? b=some u):HOk P w H h':=λa o e=>
 (x a o e).stay (λb u _ q=>k b u q) (λ_ q=>q) λ_ _ q=>q
theorem HOk.laid(x:HOk P w H h)(k:∀b u,h.get? b=some u->h'.get? b=some u)(hp:h.objs.size<=a)(new:ObjOk P w (upd H a o) h' a o):HOk P w (upd H a o) h':=λb u e=>by
 have hn:=x.fresh hp;by_cases hb:b=a
 ·subst hb;rw[upd_same] at e;cases e;exact new
 ·rw[QU hb] at e;exact(x b u e).stay (λc v _ q=>k c v q) (λc q=>by rw[QU (QP q hn)];exact q) λc xs q=>by rw[QU (QP q hn)];exact q
end
def Rd(H:Hp)(a:Addr)(u:HO):Prop:=H a=some u∨∃o,H a=some (.frz o u)
theorem Rd.ok{P:Qw}{w:Ja}{H:Hp}{h:JR}{a:Addr}{u:HO}(r:Rd H a u)(x:HOk P w H h):ObjOk P w H h a u:=by
 rcases r with r | ⟨o,r⟩
 ·exact x a u r
 ·obtain⟨_,q⟩:=x a _ r;exact q
def Mut:Option HO->Prop
 |some (.lst _)=>True
 |some (.dK _)=>True
 |some (.dT _)=>True
 |some (.set _ _)=>True
 |some (.ins _ _ _)=>True
 |some (.ext _)=>True
 |_=>False
section
variable{P:Qw}{w:Ja}{H:Hp}{h h':JR}{x e:Addr}{o':HO}
theorem HOk.write(ok:HOk P w H h)(mu:Mut (H x))(he:e=x∨H e=some (.own x))(k:∀b u,b≠e->h.get? b=some u->h'.get? b=some u)(heo:∃u,h'.get? e=some u)
  (new:ObjOk P w (upd H x o') h' x o'):HOk P w (upd H x o') h':=λb u q=>by
 have nown:∀c y,H c=some (.own y)->c≠x:=λc y r z=>by subst z;rw[r] at mu;exact mu
 have ntup:∀c xs,H c=some (.tup xs)->c≠x:=λc xs r z=>by subst z;rw[r] at mu;exact mu
 by_cases hb:b=x
 ·subst hb;rw[upd_same] at q;cases q;exact new
 ·rw[QU hb] at q;by_cases hbe:b=e
  ·have q':H b=some (.own x):=by
    rcases he with z | z
    ·exact absurd (hbe.trans z) hb
    ·rw[hbe];exact z
   rw[q] at q';cases q';obtain⟨v,hv⟩:=heo;exact⟨v,by rw[hbe];exact hv⟩
  ·refine(ok b u q).stay (λc v hc r=>k c v ?_ r) (λc r=>by rw[QU (nown c b r)];exact r) λc xs r=>by rw[QU (ntup c xs r)];exact r
   rcases hc with rfl | hc
   ·exact hbe
   ·rintro rfl;rcases he with z | z
    ·exact nown c b hc z
    ·rw[hc] at z;cases z;exact hb rfl
end
structure Un (fs ex:List Addr) (H H':Hp) (h h':JR):Prop where
 keep:∀b o,h.get? b=some o->H b=none->b∉fs->b∉ex->h'.get? b=some o
 slot:∀b o,h.get? b=some o->H b=none->b∈fs->b∉ex->∃sl,h'.get? b=some { o with slots:=sl }
 free:∀b o,h.get? b=some o->H b=none->b∉ex->H' b=none
 there:∀b o,h.get? b=some o->b∉ex->∃o',h'.get? b=some o'
 tups:∀b xs,H b=some (.tup xs)->H' b=some (.tup xs)
 frzs:∀b o u,H b=some (.frz o u)->H' b=some (.frz o u)
 tbls:∀b ps,H b=some (.tbl ps)->∃more,H' b=some (.tbl (ps++more))
section
variable{fs fs' ex ex':List Addr}{H H1 H2:Hp}{h h1 h2 h':JR}{a x e:Addr}{o:HO}
theorem Un.any(u:Un fs ex H H1 h h1){b:Addr}{ob:Obj}(q:h.get? b=some ob)(n:H b=none)(hx:b∉ex):∃sl,h1.get? b=some { ob with slots:=sl }:=by
 by_cases hb:b∈fs
 ·exact u.slot b ob q n hb hx
 ·exact⟨ob.slots,u.keep b ob q n hb hx⟩
theorem Un.kept(k:∀b u,h.get? b=some u->h'.get? b=some u):Un fs ex H H h h':=
 ⟨λb ob q _ _ _=>k b ob q,λb ob q _ _ _=>⟨ob.slots,k b ob q⟩,λ_ _ _ n _=>n,λb ob q _=>⟨ob,k b ob q⟩,λ_ _ q=>q,λ_ _ _ q=>q,λ_ ps q=>⟨#[],by rw[q];simp⟩⟩
theorem Un.refl:Un fs ex H H h h:=Un.kept λ_ _ q=>q
theorem Un.laid(k:∀b u,h.get? b=some u->h'.get? b=some u)(hp:h.objs.size<=a)(hn:H a=none):Un fs ex H (upd H a o) h h' where
 keep:=λb u q _ _ _=>k b u q
 slot:=λb u q _ _ _=>⟨u.slots,k b u q⟩
 free:=λb u q n _=>by rw[QU (Qx (QN (Qo q) hp))];exact n
 there:=λb u q _=>⟨u,k b u q⟩
 tups:=λb xs q=>by rw[QU (QP q hn)];exact q
 frzs:=λb u xs q=>by rw[QU (QP q hn)];exact q
 tbls:=λb ps q=>⟨#[],by rw[QU (QP q hn),q];simp⟩
theorem Un.write(mu:Mut (H x))(he:e=x∨H e=some (.own x))(k:∀b u,b≠e->h.get? b=some u->h'.get? b=some u)(heo:∃u,h'.get? e=some u):Un fs ex H (upd H x o) h h':=by
 have hx:∀b,H b=none->b≠x:=λb n z=>by subst z;rw[n] at mu;exact mu
 have hb:∀b,H b=none->b≠e:=λb n z=>by
  subst z;rcases he with r | r
  ·exact hx b n r
  ·rw[n] at r;cases r
 have hm:∀b u,H b=some u->¬Mut (some u)->b≠x:=λb u q nm z=>by subst z;rw[q] at mu;exact nm mu
 refine⟨λb u q n _ _=>k b u (hb b n) q,λb u q n _ _=>⟨u.slots,k b u (hb b n) q⟩,λb u q n _=>by rw[QU (hx b n)];exact n,λb u q _=>?_,
  λb xs q=>by rw[QU (hm b _ q λz=>z)];exact q,λb u xs q=>by rw[QU (hm b _ q λz=>z)];exact q,λb ps q=>⟨#[],by rw[QU (hm b _ q λz=>z),q];simp⟩⟩
 by_cases hbe:b=e
 ·subst hbe;exact heo
 ·exact⟨u,k b u hbe q⟩
end
def trk(h:JR)(H:Hp):List Addr:=(QY h.objs.size).filter λa=>(H a).isSome
def Qo4(h:JR)(H:Hp):JR:=PySem.W.hideAll h (trk h H)
theorem QmA(h:JR)(H:Hp):(Qo4 h H).objs.size=h.objs.size:=PySem.W.hideAll_size _ _
theorem Qo3{h:JR}{H:Hp}{b:Addr}{o:Obj}(e:h.get? b=some o)(n:H b=none):(Qo4 h H).get? b=some o:=
 PySem.W.hideAll_get _ e λhm=>by
  have q:(H b).isSome=true:=(Zj.mp hm).2;rw[n] at q;simp at q
theorem Qto{h:JR}{H:Hp}{b:Addr}{o:Obj}(e:(Qo4 h H).get? b=some o):h.get? b=some o/\H b=none:=by
 have e':h.get? b=some o:=PySem.W.of_hideAll (trk h H) e;refine⟨e',?_⟩;cases q:H b with
 |none=>rfl
 |some x=>
  have hm:b∈trk h H:=Zj.mpr ⟨JI.mpr (Qo e'),by simp[q]⟩;have z:(Qo4 h H).get? b=none:=PySem.W.hideAll_none (trk h H) hm;rw[z] at e;cases e
def Quf(g h:JR)(L:Addr):List (Addr×Obj):=(QY h.objs.size).filterMap λa=>if a=L∨(g.get? a).isSome=true then none else(h.get? a).map λo=>(a,o)
def rest(g h:JR)(L d:Addr):List (Addr×Obj):=(Quf g h L).filter λp=>decide (p.1≠d)
structure Mod (K:PySem.W.Frag) (mg:Str->Option Value) (base:JR):Prop where
 kin:K.In base
 glob:base.Ns mainGlobals mg
 blt:∃mb,base.Ns builtinsNs mb/\∀x:Str,x ≠ "__name__" -> mb x=bootBuiltins x
 nolimit:base.NoLimit
structure Cx where
 prog:Qw
 w:Ja
 K:PySem.W.Frag
 mg:Str->Option Value
 base:JR
 A:Q9
 N:List Str
 s₀:Shared
 H₀:Hp
 env:Env
 outer:List Env
 stack:List Env
 ex:List Addr
 fn:Str->Bool
 calm:Bool
 pn:List (Addr×Obj)
 xe:Value->Shared->Prop
def frs(l:List Env):List Addr:=l.filterMap (·.frame)
abbrev Cx.fs (X:Cx):List Addr:=frs X.outer
def Vis(sc:Y4)(x:Str):Prop:=sc.names.lookup x=some .local∨sc.names.lookup x=some .cell∨sc.names.lookup x=some .free
def Loc(sc:Y4)(x:Str):Prop:=sc.names.lookup x=some .local∨sc.names.lookup x=some .cell
def Look(env:Env)(h:JR)(m:Str->Option Value)(x:Str)(u:Value):Prop:=
 (env.kindOf x=some .local/\m x=some u)∨((env.kindOf x=some .cell∨env.kindOf x=some .free)/\∃c,env.cells.lookup x=some c/\h.IsCell c (some u))
structure Cx.Ok (X:Cx):Prop where
 mod:Mod X.K X.mg X.base
 kind:X.env.scope.kind=.function
 glob:X.env.globals=mainGlobals
 blt:X.env.builtins=builtinsNs
 above:X.s₀.heap.objs.size<=X.env.locals
 inj:∀x y c,X.env.cells.lookup x=some c->X.env.cells.lookup y=some c->x=y
 has:∀x,(X.env.kindOf x=some .cell∨X.env.kindOf x=some .free)->∃c,X.env.cells.lookup x=some c
 cab:∀x c,X.fn x=true->X.env.cells.lookup x=some c->X.s₀.heap.objs.size<=c
 hd:X.calm=true->X.A.handled=none
 frames:X.A.frames=some X.stack
 stk:X.stack=X.outer∨(X.stack=X.env::X.outer/\X.env.frame=some X.env.locals)
 exf:∀b∈X.ex,b≠X.env.locals/\∀x c,X.env.cells.lookup x=some c->c≠b
 bs:∀b o,X.base.get? b=some o->X.s₀.heap.get? b=some o/\X.H₀ b=none
 bsz:X.base.objs.size<=X.s₀.heap.objs.size
 noex:∀b o,X.base.get? b=some o->b∉X.ex
 exfs:∀b∈X.ex,b∉X.fs
 funs:X.s₀.heap.FunFrames X.base X.outer
 frf:∀b∈X.fs,X.H₀ b=none
structure Inv (X:Cx) (pins:List (Addr×Obj)) (σ:List (Option V)) (H:Hp) (s:Shared):Prop where
 ok:X.Ok
 os:s.os=X.s₀.os
 bare:Qdu s.gens
 base:Un X.fs X.ex X.H₀ H X.s₀.heap s.heap
 loc:∃m,s.heap.Ns X.env.locals m/\∀(i:Nat)(x:Str)(v:V),X.N[i]? = some x->σ[i]? = some (some v)->Vis X.env.scope x->∃u,RelV v u/\Look X.env s.heap m x u
 cell:∀x c,X.env.cells.lookup x=some c->∃v,s.heap.IsCell c v
 free:H X.env.locals=none
 freeC:∀x c,X.env.cells.lookup x=some c->H c=none
 pin:∀p∈X.pn++pins,s.heap.get? p.1=some p.2/\H p.1=none/\p.1≠X.env.locals/\p.1∉X.fs/\∀v,p.2.data≠.cell v
 hok:HOk X.prog X.w H s.heap
 len:σ.length=X.N.length
section
variable{X:Cx}{pins:List (Addr×Obj)}{σ:List (Option V)}{H H':Hp}{s:Shared}{h':JR}
theorem Cx.Ok.nofr(ok:X.Ok){b:Addr}{o:Obj}(e:X.base.get? b=some o):b∉X.fs:=λhb=>by
 have:=(ok.funs.mem hb).1;rw[e] at this;cases this
theorem Inv.bs(I:Inv X pins σ H s):∀b o,X.base.get? b=some o->s.heap.get? b=some o/\H b=none:=λb o e=>
 ⟨I.base.keep b o (I.ok.bs b o e).1 (I.ok.bs b o e).2 (I.ok.nofr e) (I.ok.noex b o e),I.base.free b o (I.ok.bs b o e).1 (I.ok.bs b o e).2 (I.ok.noex b o e)⟩
theorem Inv.bk(I:Inv X pins σ H s):∀b o,X.base.get? b=some o->s.heap.get? b=some o:=λb o e=>(I.bs b o e).1
theorem Inv.mod(I:Inv X pins σ H s):Mod X.K X.mg X.base:=I.ok.mod
theorem Inv.kIn(I:Inv X pins σ H s):X.K.In s.heap:=I.ok.mod.kin.keeps I.bk
theorem Inv.fr(I:Inv X pins σ H s):∃m,Fr X.base X.env.locals s.heap m:=
 let ⟨m,hn,_⟩:=I.loc
 ⟨m,hn,I.bk,QL I.ok.bsz I.ok.above⟩
theorem Inv.lt(I:Inv X pins σ H s):X.env.locals<s.heap.objs.size:=let ⟨_,hn,_⟩:=I.loc;hn.lt
theorem Inv.sz(I:Inv X pins σ H s):X.s₀.heap.objs.size<=s.heap.objs.size:=QL I.ok.above (Zw I.lt)
theorem Inv.nofs(I:Inv X pins σ H s){a:Addr}(h:s.heap.objs.size<=a):a∉X.fs:=λhb=>by
 obtain⟨_,o,ho,_⟩:=I.ok.funs.mem hb;exact absurd (QN (Qo ho) (QL I.sz h)) (Zv _)
theorem Inv.cne(I:Inv X pins σ H s):∀x c,X.env.cells.lookup x=some c->c≠X.env.locals:=λx c e z=>by
 obtain⟨v,o,ho,hd⟩:=I.cell x c e;obtain⟨m,⟨o',es,ep,ho',hd',_⟩,_⟩:=I.loc;rw[z,ho'] at ho;cases ho;rw[hd'] at hd;cases hd
theorem Inv.funs(I:Inv X pins σ H s):s.heap.FunFrames X.base X.outer:=by
 have all:∀(l:List Env),(∀b∈frs l,b∈X.fs)->X.s₀.heap.FunFrames X.base l->s.heap.FunFrames X.base l:=by
  intro l;induction l with
  |nil=>intro _ _;trivial
  |cons env r ih=>
   intro hs hl;obtain⟨hk,⟨L,o,hf,hn,ho,hd⟩,hr⟩:=hl;have hL:L∈X.fs:=hs L (by unfold frs;rw[QaH,hf];exact Zl);obtain⟨sl,e⟩:=I.base.slot L o ho (I.ok.frf L hL) hL λz=>I.ok.exfs L z hL
   exact⟨hk,⟨L,_,hf,hn,e,hd⟩,ih (λb hb=>hs b (by unfold frs;rw[QaH,hf];exact Jm _ hb)) hr⟩
 exact all X.outer (λ_ hb=>hb) I.ok.funs
theorem Inv.stack(I:Inv X pins σ H s):s.heap.FunFrames X.base X.stack:=by
 rcases I.ok.stk with e | ⟨e,hf⟩
 ·rw[e];exact I.funs
 ·rw[e];obtain⟨m,hn,_⟩:=I.loc;refine .cons (by rw[I.ok.kind];decide) hf hn ?_ I.funs
  exact Heap.get?_none_of_le (QL I.ok.bsz I.ok.above)
theorem Inv.stkSub(I:Inv X pins σ H s):∀b∈frs X.stack,b∈X.env.locals::X.fs:=λb hb=>by
 rcases I.ok.stk with e | ⟨e,hf⟩
 ·rw[e] at hb;exact Jm _ hb
 ·rw[e] at hb;unfold frs at hb;rw[QaH,hf] at hb;exact hb
theorem Inv.stkFree(I:Inv X pins σ H s):∀b∈frs X.stack,H b=none:=λb hb=>by
 rcases Qz.mp (I.stkSub b hb) with e | hb
 ·rw[e];exact I.free
 ·obtain⟨_,o,ho,_⟩:=I.ok.funs.mem hb;exact I.base.free b o ho (I.ok.frf b hb) λz=>I.ok.exfs b z hb
theorem Inv.step{g':Array GenState}{t':Nat}{d':Drawn}{ch:List Addr}(I:Inv X pins σ H s)
  (hch:∀b∈ch,(b∈X.ex∨X.s₀.heap.objs.size<=b)/\b≠X.env.locals/\(∀x c,X.env.cells.lookup x=some c->c≠b)/\∀p∈X.pn++pins,p.1≠b)
  (keep:∀b o,b≠X.env.locals->b∉X.fs->b∉ch->s.heap.get? b=some o->H b=none->h'.get? b=some o)
  (slot:∀b o,b≠X.env.locals->b∈X.fs->b∉ch->s.heap.get? b=some o->H b=none->∃sl,h'.get? b=some { o with slots:=sl })(free:∀b o,b∉ch->s.heap.get? b=some o->H b=none->H' b=none)
  (there:∀b o,b∉ch->s.heap.get? b=some o->∃o',h'.get? b=some o')
  (tups:∀b xs,H b=some (.tup xs)->H' b=some (.tup xs))(frzs:∀b o u,H b=some (.frz o u)->H' b=some (.frz o u))(tbls:∀b ps,H b=some (.tbl ps)->∃more,H' b=some (.tbl (ps++more)))
  (ns:∀m,s.heap.Ns X.env.locals m->h'.Ns X.env.locals m)(hok:HOk X.prog X.w H' h')(hg:Qdu g') :
  Inv X pins σ H' { s with heap:=h',gens:=g',drawn:=d',toks:=t' }:=by
 have neL:∀b o,X.s₀.heap.get? b=some o->b≠X.env.locals:=λb o e=>Qx (QN (Qo e) I.ok.above)
 have neC:∀b o,X.s₀.heap.get? b=some o->b∉X.ex->b∉ch:=λb o e hx hb=>by
  rcases(hch b hb).1 with z | z
  ·exact hx z
  ·exact absurd (QN (Qo e) z) (Zv _)
 have cellK:∀x c,X.env.cells.lookup x=some c->∀v,s.heap.IsCell c v->h'.IsCell c v:=λx c e v ⟨o,ho,hd⟩=>by
  have nch:c∉ch:=λz=>(hch c z).2.2.1 x c e rfl
  by_cases hc:c∈X.fs
  ·obtain⟨sl,q⟩:=slot c o (I.cne x c e) hc nch ho (I.freeC x c e);exact⟨_,q,hd⟩
  ·exact⟨o,keep c o (I.cne x c e) hc nch ho (I.freeC x c e),hd⟩
 refine⟨I.ok,I.os,hg,⟨λb o e n hb hx=>?_,λb o e n hb hx=>?_,λb o e n hx=>?_,λb o e hx=>?_,λb xs e=>tups b xs (I.base.tups b xs e),λb o xs e=>frzs b o xs (I.base.frzs b o xs e),λb ps e=>?_⟩,?_,λx c e=>?_,?_,λx c e=>?_,λp hp=>?_,hok,I.len⟩
 ·exact keep b o (neL b o e) hb (neC b o e hx) (I.base.keep b o e n hb hx) (I.base.free b o e n hx)
 ·obtain⟨sl,e1⟩:=I.base.slot b o e n hb hx;obtain⟨sl',e2⟩:=slot b _ (neL b o e) hb (neC b o e hx) e1 (I.base.free b o e n hx);exact⟨sl',e2⟩
 ·obtain⟨o',e1⟩:=I.base.there b o e hx;exact free b o' (neC b o e hx) e1 (I.base.free b o e n hx)
 ·obtain⟨o',e1⟩:=I.base.there b o e hx;exact there b o' (neC b o e hx) e1
 ·obtain⟨m1,e1⟩:=I.base.tbls b ps e;obtain⟨m2,e2⟩:=tbls b _ e1;exact⟨m1++m2,by rw[e2,Array.append_assoc]⟩
 ·obtain⟨m,hn,hl⟩:=I.loc;refine⟨m,ns m hn,λi x v e1 e2 e3=>?_⟩;obtain⟨u,r,l⟩:=hl i x v e1 e2 e3;refine⟨u,r,?_⟩;rcases l with l | ⟨k,c,e,z⟩
  ·exact .inl l
  ·exact .inr ⟨k,c,e,cellK x c e _ z⟩
 ·obtain⟨v,z⟩:=I.cell x c e;exact⟨v,cellK x c e v z⟩
 ·obtain⟨m,⟨o,_,_,ho,_⟩,_⟩:=I.loc;exact free _ o (λz=>(hch _ z).2.1 rfl) ho I.free
 ·obtain⟨v,o,ho,hd⟩:=I.cell x c e;exact free c o (λz=>(hch c z).2.2.1 x c e rfl) ho (I.freeC x c e)
 ·obtain⟨e,n,ne,nf,d⟩:=I.pin p hp;have nch:p.1∉ch:=λz=>(hch p.1 z).2.2.2 p hp rfl
  exact⟨keep p.1 p.2 ne nf nch e n,free p.1 p.2 nch e n,ne,nf,d⟩
theorem Inv.un{t':Nat}(I:Inv X pins σ H s)(u:Un X.fs [] H H' s.heap h')(hok:HOk X.prog X.w H' h'):Inv X pins σ H' { s with heap:=h',toks:=t' }:=by
 obtain⟨m,⟨o,es,ep,ho,r⟩,_⟩:=id I.loc;obtain⟨sl,hL⟩:=u.any ho I.free (by simp);exact I.step (g':=s.gens) (d':=s.drawn) (ch:=[]) (λ_ z=>nomatch z) (λb o _ hb _ e n=>u.keep b o e n hb (by simp)) (λb o _ hb _ e n=>u.slot b o e n hb (by simp)) (λb o _ e n=>u.free b o e n (by simp)) (λb o _ e=>u.there b o e (by simp)) u.tups u.frzs u.tbls (λm' hm=>by
  obtain⟨o',es',ep',ho',r'⟩:=hm;rw[ho] at ho';cases ho';exact⟨_,es',ep',hL,r'⟩) hok I.bare
theorem Inv.call{g':Array GenState}{t':Nat}{d':Drawn}{ch:List Addr}(I:Inv X pins σ H s)(u:Un (frs X.stack) ch H H' s.heap h')(hok:HOk X.prog X.w H' h')(hg:Qdu g')
  (hch:∀b∈ch,(b∈X.ex∨X.s₀.heap.objs.size<=b)/\b≠X.env.locals/\(∀x c,X.env.cells.lookup x=some c->c≠b)/\∀p∈X.pn++pins,p.1≠b) :
  Inv X pins σ H' { s with heap:=h',gens:=g',drawn:=d',toks:=t' }:=by
 obtain⟨m,⟨o,es,ep,ho,r⟩,_⟩:=id I.loc;obtain⟨sl,hL⟩:=u.any ho I.free λz=>(hch _ z).2.1 rfl
 exact I.step (ch:=ch) hch (λb o hL hb hc e n=>u.keep b o e n (λz=>(Qz.mp (I.stkSub b z)).elim hL hb) hc) (λb o _ _ hc e n=>u.any e n hc) (λb o hc e n=>u.free b o e n hc) (λb o hc e=>u.there b o e hc) u.tups u.frzs u.tbls (λm' hm=>by
  obtain⟨o',es',ep',ho',r'⟩:=hm;rw[ho] at ho';cases ho';exact⟨_,es',ep',hL,r'⟩) hok hg
theorem Inv.turned{t':Nat}{it:Addr}(I:Inv X pins σ H s)(k:∀b o,b≠it->s.heap.get? b=some o->h'.get? b=some o)(hn:H it=none)(hL:it≠X.env.locals)
  (h1:it∈X.ex∨X.s₀.heap.objs.size<=it)(h2:∀x c,X.env.cells.lookup x=some c->c≠it)(h3:∀p∈X.pn++pins,p.1≠it):Inv X pins σ H { s with heap:=h',toks:=t' }:=by
 have nit:∀b u,H b=some u->b≠it:=λb u e z=>by rw[z,hn] at e;cases e
 refine I.step (g':=s.gens) (d':=s.drawn) (ch:=[it]) (λb hb=>?_) (λb o _ _ hc e _=>k b o (λz=>hc (by simp[z])) e) (λb o _ _ hc e _=>⟨o.slots,k b o (λz=>hc (by simp[z])) e⟩) (λ_ _ _ _ n=>n)
  (λb o hc e=>⟨o,k b o (λz=>hc (by simp[z])) e⟩) (λ_ _ e=>e) (λ_ _ _ e=>e) (λb ps e=>⟨#[],by rw[e];simp⟩) (λm hm=>?_) (λb u e=>?_) I.bare
 ·have e:b=it:=by simpa using hb
  subst e;exact⟨h1,hL,h2,h3⟩
 ·obtain⟨o,es,ep,ho,r⟩:=hm;exact⟨o,es,ep,k _ o (Y2 hL) ho,r⟩
 ·refine(I.hok b u e).stay (λc v hc q=>k c v ?_ q) (λ_ q=>q) λ_ _ q=>q
  rcases hc with z | z
  ·rw[z];exact nit b u e
  ·exact nit c _ z
theorem Inv.tok(I:Inv X pins σ H s)(t:Nat):Inv X pins σ H { s with toks:=t }:=I.un (h':=s.heap) (t':=t) Un.refl I.hok
theorem Inv.kept{t':Nat}(I:Inv X pins σ H s)(k:∀b u,s.heap.get? b=some u->h'.get? b=some u):Inv X pins σ H { s with heap:=h',toks:=t' }:=I.un (Un.kept k) (I.hok.kept k)
theorem Inv.laid{a:Addr}{o:HO}{t':Nat}(I:Inv X pins σ H s)(k:∀b u,s.heap.get? b=some u->h'.get? b=some u)(hp:s.heap.objs.size<=a)(new:ObjOk X.prog X.w (upd H a o) h' a o) :
  Inv X pins σ (upd H a o) { s with heap:=h',toks:=t' }:=I.un (Un.laid k hp (I.hok.fresh hp)) (I.hok.laid k hp new)
theorem Inv.write{x e:Addr}{o:HO}{t':Nat}(I:Inv X pins σ H s)(mu:Mut (H x))(he:e=x∨H e=some (.own x))(k:∀b u,b≠e->s.heap.get? b=some u->h'.get? b=some u)(heo:∃u,h'.get? e=some u)
  (new:ObjOk X.prog X.w (upd H x o) h' x o):Inv X pins σ (upd H x o) { s with heap:=h',toks:=t' }:=I.un (Un.write mu he k heo) (I.hok.write mu he k heo new)
theorem Inv.weak{σ':List (Option V)}(I:Inv X pins σ H s)(hl:σ'.length=σ.length)(w:∀(i:Nat) v,σ'[i]? = some (some v)->σ[i]? = some (some v)):Inv X pins σ' H s:=
 ⟨I.ok,I.os,I.bare,I.base,let ⟨m,hn,hl'⟩:=I.loc;⟨m,hn,λi x v e1 e2 e3=>hl' i x v e1 (w i v e2) e3⟩,I.cell,I.free,I.freeC,I.pin,I.hok,hl.trans I.len⟩
theorem Inv.pins_of{pins':List (Addr×Obj)}(I:Inv X pins σ H s)(h:∀p∈pins',s.heap.get? p.1=some p.2/\H p.1=none/\p.1≠X.env.locals/\p.1∉X.fs/\∀v,p.2.data≠.cell v):Inv X pins' σ H s:=
 ⟨I.ok,I.os,I.bare,I.base,I.loc,I.cell,I.free,I.freeC,λp hp=>(ZA.mp hp).elim (λz=>I.pin p (Qkx _ z)) (h p),I.hok,I.len⟩
theorem QfM{N:List Str}(hN:N.Nodup){i j:Nat}{x:Str}(a:N[i]? = some x)(b:N[j]? = some x):i=j:=by
 obtain⟨h1,e1⟩:=Q2.mp a;obtain⟨h2,e2⟩:=Q2.mp b;exact(List.getElem_inj hN).mp (e1.trans e2.symm)
theorem Qgm{M:Qkw}{A:Q9}{E:Value->Shared->Prop}{i:Nat}{x:Str}{v:V}{u:Value}{Q:Unit->Shared->Prop}(I:Inv X pins σ H s)(hN:X.N.Nodup)(hi:X.N[i]? = some x)(hx:Loc X.env.scope x)(r:RelV v u)
  (h:∀s',Inv X pins (σ.set i (some v)) H s'->(∃a,ZH a s.heap s'.heap/\(a=X.env.locals∨X.env.cells.lookup x=some a))->Q () s')(hf:X.fn x=true∨X.env.scope.names.lookup x=some .local:=by first | exact .inl rfl | exact .inr rfl | assumption):wpAny M A (storeName X.env x u) Q E s:=by
 obtain⟨m,hn,hl⟩:=id I.loc;have hcls:(X.env.scope.kind == .class||(X.env.scope.kind == .module&&X.env.locals != X.env.globals))=false:=by rw[I.ok.kind];rfl
 have hiσ:i < σ.length:=by rw[I.len];exact(Q2.mp hi).1
 have cne:=I.cne;have tracked:∀{a:Addr}{h':JR},(∃o,s.heap.get? a=some o/\H a=none)->ZH a s.heap h'->HOk X.prog X.w H h':=λ{a h'} ha hs b ob e=>by
  obtain⟨_,_,hfree⟩:=ha;refine(I.hok b ob e).stay (λc w' hc q=>(hs.2 c ?_).trans q) (λ_ q=>q) λ_ _ q=>q
  rintro rfl;rcases hc with rfl | hc
  ·rw[hfree] at e;cases e
  ·rw[hfree] at hc;cases hc
 rcases hx with hk | hk
 ·refine wpAny_storeName_local hk hn (λh' hn' hs=>?_) hcls;obtain⟨oL,_,_,hoL,_⟩:=id hn;refine h _ ⟨I.ok,I.os,I.bare,⟨λb o e n hb hx=>?_,λb o e n hb hx=>?_,I.base.free,λb o e hx=>?_,I.base.tups,I.base.frzs,I.base.tbls⟩,⟨_,hn',λj y v' e1 e2 e3=>?_⟩,λy c e=>?_,I.free,I.freeC,λp hp=>?_,tracked ⟨oL,hoL,I.free⟩ hs,by simpa using I.len⟩ ⟨_,hs,.inl rfl⟩
  ·exact(hs.2 b (Qx (QN (Qo e) I.ok.above))).trans (I.base.keep b o e n hb hx)
  ·obtain⟨sl,e1⟩:=I.base.slot b o e n hb hx;exact⟨sl,(hs.2 b (Qx (QN (Qo e) I.ok.above))).trans e1⟩
  ·obtain⟨o',e1⟩:=I.base.there b o e hx;exact⟨o',(hs.2 b (Qx (QN (Qo e) I.ok.above))).trans e1⟩
  ·by_cases hj:j=i
   ·subst hj;rw[hi] at e1;cases e1;rw[Y6 hiσ] at e2;cases e2;exact⟨u,r,.inl ⟨hk,by simp⟩⟩
   ·rw[Qav (Y2 hj)] at e2;obtain⟨u',r',q⟩:=hl j y v' e1 e2 e3;refine⟨u',r',?_⟩;rcases q with⟨k,e⟩ | ⟨k,c,e,z⟩
    ·refine .inl ⟨k,?_⟩;have:y≠x:=λe=>hj (QfM hN e1 (e ▸ hi))
     simp[this,e]
    ·exact .inr ⟨k,c,e,z.sameBut hs (cne y c e)⟩
  ·obtain⟨w',z⟩:=I.cell y c e;exact⟨w',z.sameBut hs (cne y c e)⟩
  ·obtain⟨e,n,ne,nf,d⟩:=I.pin p hp;exact⟨(hs.2 p.1 ne).trans e,n,ne,nf,d⟩
 ·have hfn:X.fn x=true:=by
   rcases hf with z | z
   ·exact z
   ·rw[z] at hk;cases hk
  obtain⟨c,hc⟩:=I.ok.has x (.inl hk);obtain⟨w',z⟩:=I.cell x c hc;refine wpAny_storeName_cell I.ok.kind hk hc z (λh' hc' hs=>?_);obtain⟨oc,hoc,hocd⟩:=id z;refine h { s with heap:=h' } ⟨I.ok,I.os,I.bare,⟨λb o e n hb hx=>?_,λb o e n hb hx=>?_,I.base.free,λb o e hx=>?_,I.base.tups,I.base.frzs,I.base.tbls⟩,⟨m,hn.sameBut hs (Y2 (cne x c hc)),λj y v' e1 e2 e3=>?_⟩,λy c' e=>?_,I.free,I.freeC,λp hp=>?_,tracked ⟨oc,hoc,I.freeC x c hc⟩ hs,by simpa using I.len⟩ ⟨c,hs,.inr hc⟩
  ·exact(hs.2 b (Qx (QN (Qo e) (I.ok.cab x c hfn hc)))).trans (I.base.keep b o e n hb hx)
  ·obtain⟨sl,e1⟩:=I.base.slot b o e n hb hx;exact⟨sl,(hs.2 b (Qx (QN (Qo e) (I.ok.cab x c hfn hc)))).trans e1⟩
  ·obtain⟨o',e1⟩:=I.base.there b o e hx;exact⟨o',(hs.2 b (Qx (QN (Qo e) (I.ok.cab x c hfn hc)))).trans e1⟩
  ·by_cases hj:j=i
   ·subst hj;rw[hi] at e1;cases e1;rw[Y6 hiσ] at e2;cases e2;exact⟨u,r,.inr ⟨.inl hk,c,hc,hc'⟩⟩
   ·rw[Qav (Y2 hj)] at e2;obtain⟨u',r',q⟩:=hl j y v' e1 e2 e3;refine⟨u',r',?_⟩;rcases q with q | ⟨k,c',e,z'⟩
    ·exact .inl q
    ·refine .inr ⟨k,c',e,z'.sameBut hs ?_⟩;rintro rfl;exact hj (QfM hN e1 (I.ok.inj _ _ _ e hc ▸ hi))
  ·by_cases hcc:c'=c
   ·subst hcc;exact⟨_,hc'⟩
   ·obtain⟨w2,z2⟩:=I.cell y c' e;exact⟨w2,z2.sameBut hs hcc⟩
  ·obtain⟨e,n,ne,nf,d⟩:=I.pin p hp;refine⟨(hs.2 p.1 ?_).trans e,n,ne,nf,d⟩;intro q;rw[q,hoc] at e;have q':oc=p.2:=QB e;exact d w' (by rw[<- q'];exact hocd)
theorem Qcm{M:Qkw}{A:Q9}{E:Value->Shared->Prop}{i:Nat}{x:Str}{v:V}{u:Value}{Q:Unit->Shared->Prop}(I:Inv X pins σ H s)(hN:X.N.Nodup)(hi:X.N[i]? = some x)(hx:Loc X.env.scope x)(r:RelV v u)
  (h:∀s',Inv X pins (σ.set i (some v)) H s'->Q () s')(hf:X.fn x=true∨X.env.scope.names.lookup x=some .local:=by first | exact .inl rfl | exact .inr rfl | assumption):wpAny M A (storeName X.env x u) Q E s:=
 Qgm I hN hi hx r (λs' I' _=>h s' I') hf
theorem Inv.call'{s':Shared}{ch:List Addr}(I:Inv X pins σ H s)(ho:s'.os=s.os)(u:Un (frs X.stack) ch H H' s.heap s'.heap)(hok:HOk X.prog X.w H' s'.heap)(hg:Qdu s'.gens)
  (hch:∀b∈ch,(b∈X.ex∨X.s₀.heap.objs.size<=b)/\b≠X.env.locals/\(∀x c,X.env.cells.lookup x=some c->c≠b)/\∀p∈X.pn++pins,p.1≠b):Inv X pins σ H' s':=by
 obtain⟨h',g',d',t',o'⟩:=s';have e:o'=s.os:=ho;subst e;exact I.call (g':=g') (t':=t') (d':=d') u hok hg hch
end
abbrev XK:=Value->Option Addr->Hp->Prop
abbrev St:=List (Option V)
abbrev VK:=V->Hp->Prop
abbrev TE:=St->Hp->VK->Prop
abbrev TT:=St->Hp->(Bool->Hp->Prop)->Prop
abbrev TA:=St->Hp->(List V->Hp->Prop)->Prop
structure Ends where
 nx:St->Hp->Prop
 rt:VK
 bk:St->Hp->Prop:=λ_ _=>False
 ct:St->Hp->Prop:=λ_ _=>False
abbrev TS:=Ends->St->Hp->Prop
def EP(X:Cx)(pins:List (Addr×Obj))(σ:St)(Q:VK)(u:Value)(s':Shared):Prop:=∃v H',Inv X pins σ H' s'/\RelV v u/\Q v H'
def TP(X:Cx)(pins:List (Addr×Obj))(σ:St)(Q:Bool->Hp->Prop)(b:Bool)(s':Shared):Prop:=∃H',Inv X pins σ H' s'/\Q b H'
def AP(X:Cx)(pins:List (Addr×Obj))(σ:St)(Q:List V->Hp->Prop)(us:List Value)(s':Shared):Prop:=∃vs H',Inv X pins σ H' s'/\Vals vs us/\Q vs H'
def SP(X:Cx)(pins:List (Addr×Obj))(D:Ends)(f:Flow)(s':Shared):Prop:=
 match f with
 |.next=>∃σ' H',Inv X pins σ' H' s'/\D.nx σ' H'
 |.brk=>∃σ' H',Inv X pins σ' H' s'/\D.bk σ' H'
 |.cont=>∃σ' H',Inv X pins σ' H' s'/\D.ct σ' H'
 |.ret u=>∃v σ' H',Inv X pins σ' H' s'/\RelV v u/\D.rt v H'
def PE(X:Cx)(e:QX)(t:TE):Prop:=
 ∀(pins:List (Addr×Obj))(s:Shared)(σ:St)(H:Hp)(Q:VK),Inv X pins σ H s->t σ H Q->wpAny (model X.prog X.w) X.A (eval e X.env) (EP X pins σ Q) X.xe s
def PT(X:Cx)(e:QX)(t:TT):Prop:=
 ∀(pins:List (Addr×Obj))(s:Shared)(σ:St)(H:Hp)(Q:Bool->Hp->Prop),Inv X pins σ H s->t σ H Q->wpAny (model X.prog X.w) X.A (isTrue e X.env (eval e X.env)) (TP X pins σ Q) X.xe s
def PW(X:Cx)(e:QX)(t:TT):Prop:=
 ∀(whole:Sem Value)(pins:List (Addr×Obj))(s:Shared)(σ:St)(H:Hp)(Q:Bool->Hp->Prop),Inv X pins σ H s->t σ H Q->wpAny (model X.prog X.w) X.A (isTrue e X.env whole) (TP X pins σ Q) X.xe s
theorem PW.pt{X:Cx}{e:QX}{t:TT}(h:PW X e t):PT X e t:=h _
def PA(X:Cx)(es:List QX)(t:TA):Prop:=
 ∀(pos:Pos)(pins:List (Addr×Obj))(s:Shared)(σ:St)(H:Hp)(Q:List V->Hp->Prop),Inv X pins σ H s->t σ H Q->wpAny (model X.prog X.w) X.A (spliced (backTo pos (starEach es X.env))) (AP X pins σ Q) X.xe s
def PS(X:Cx)(st:ZM)(t:TS):Prop:=
 ∀(pins:List (Addr×Obj))(s:Shared)(σ:St)(H:Hp)(D:Ends),Inv X pins σ H s->t D σ H->wpAny (model X.prog X.w) X.A (exec st X.env) (SP X pins D) X.xe s
def PSs(X:Cx)(st:List ZM)(t:TS):Prop:=
 ∀(pins:List (Addr×Obj))(s:Shared)(σ:St)(H:Hp)(D:Ends),Inv X pins σ H s->t D σ H->wpAny (model X.prog X.w) X.A (execs st X.env) (SP X pins D) X.xe s
theorem thn{α:Type}{t:Sem α}{Q Q':α->Shared->Prop}{M:Qkw}{A:Q9}{E:Value->Shared->Prop}{s:Shared}(h:wpAny M A t Q E s)(hQ:∀a s,Q a s->Q' a s):wpAny M A t Q' E s:=wpAny_mono h hQ λ_ _ x=>x
section
variable{X:Cx}
def Yy(i:Nat):TE:=λσ H Q=>∃v,σ[i]? = some (some v)/\Q v H
def tC(v:V):TE:=λ_ H Q=>Q v H
theorem Qp9{i:Nat}{x:Str}{pos:Pos}(hN:X.N[i]? = some x)(hv:Vis X.env.scope x)(hd:(x == ("__debug__" : Str))=false:=by decide)(hcd:(x == ("__classdict__" : Str))=false:=by decide):PE X (.Name x pos) (Yy i):=by
 intro pins s σ H Q I h;obtain⟨v,e,h⟩:=h;obtain⟨m,hn,hl⟩:=I.loc;obtain⟨u,r,l⟩:=hl i x v hN e hv;have fin:EP X pins σ Q u s:=⟨v,H,I,r,h⟩;rcases l with⟨hk,hm⟩ | ⟨hk,c,hc,hcell⟩
 ·exact Qxb (wpAny_loadName_local I.ok.kind hk hn hm fin) hd
 ·rcases hk with hk | hk
  ·exact Qxb (wpAny_loadName_cell I.ok.kind hk hc hcell fin) hd
  ·exact Qxb (wpAny_loadName_free I.ok.kind hk hc hcell fin hcd) hd
theorem pe_int{i j pos}:PE X (.Constant (.int i) j pos) (tC (.int i)):=λ_ _ _ H _ I h=>wpAny_Constant_int ⟨.int i,H,I.tok _,⟨_,rfl⟩,h⟩
theorem QdU{b j pos}:PE X (.Constant (.bool b) j pos) (tC (.bl b)):=λ_ _ _ H _ I h=>Constant_bool ⟨.bl b,H,I,rfl,h⟩
theorem QeQ{j pos}:PE X (.Constant .none j pos) (tC .non):=λ_ _ _ H _ I h=>Constant_none ⟨.non,H,I,rfl,h⟩
theorem YY{x j pos}:PE X (.Constant (.str x) j pos) (tC (.str x)):=λ_ _ _ H _ I h=>Calls.Constant_str ⟨.str x,H,I.tok _,⟨_,rfl⟩,h⟩
def Gl(X:Cx)(x:Str):Prop:=X.env.kindOf x=some .globalImplicit
theorem QcW{E:Value->Shared->Prop}{pins:List (Addr×Obj)}{s:Shared}{σ:St}{H:Hp}{x:Str}{u:Value}{pos:Pos}{Q:Value->Shared->Prop}(I:Inv X pins σ H s)(hg:Gl X x)(hm:X.mg x=some u)(h:Q u s)
  (hd:(x == ("__debug__" : Str))=false:=by decide):wpAny (model X.prog X.w) X.A (eval (.Name x pos) X.env) Q E s:=
 Qgd I.ok.kind hg (Calls.loadGlobal_global (by rw[I.ok.glob];exact I.mod.glob.keeps I.bk) hm h) hd
theorem Qcu{E:Value->Shared->Prop}{pins:List (Addr×Obj)}{s:Shared}{σ:St}{H:Hp}{x:Str}{u:Value}{pos:Pos}{Q:Value->Shared->Prop}(I:Inv X pins σ H s)(hg:Gl X x)(hm:X.mg x=none)(hv:bootBuiltins x=some u)(h:Q u s)
  (hn:x ≠ "__name__" := by decide)(hd:(x == ("__debug__" : Str))=false:=by decide):wpAny (model X.prog X.w) X.A (eval (.Name x pos) X.env) Q E s:=by
 obtain⟨mb,h1,h2⟩:=I.mod.blt;exact Qgd I.ok.kind hg (Calls.loadGlobal_builtin (by rw[I.ok.glob];exact I.mod.glob.keeps I.bk) hm (by rw[I.ok.blt];exact h1.keeps I.bk) ((h2 x hn).trans hv) h) hd
theorem QlF{x:Str}{v:V}{u:Value}{pos:Pos}(hg:Gl X x)(hm:X.mg x=some u)(r:RelV v u)(hd:(x == ("__debug__" : Str))=false:=by decide):PE X (.Name x pos) (tC v):=
 λ_ _ _ H _ I h=>QcW I hg hm ⟨v,H,I,r,h⟩ hd
theorem YK{x:Str}{v:V}{u:Value}{pos:Pos}(hg:Gl X x)(hm:X.mg x=none)(hv:bootBuiltins x=some u)(r:RelV v u)(hn:x ≠ "__name__" := by decide)(hd:(x == ("__debug__" : Str))=false:=by decide):PE X (.Name x pos) (tC v):=
 λ_ _ _ H _ I h=>Qcu I hg hm hv ⟨v,H,I,r,h⟩ hn hd
variable{a b:QX}{ta tb:TE}{pos:Pos}
def tB(t:TE):TT:=λσ H Q=>t σ H λx H1=>∃c,x=.bl c/\Q c H1
theorem Qcp{e:QX}{t:TE}(h:PE X e t)(he:∀whole,isTrue e X.env whole=(do let v <- whole;standAt e.pos;holding [v] (truthy v)):=by intro _;rfl):PT X e (tB t):=by
 intro pins s σ H Q I hw;refine isTrue_plain (thn (h pins s σ H _ I hw) λv s1 ⟨x,H1,I1,r1,q1⟩=>?_) (he _);obtain⟨d,rfl,q⟩:=q1;cases r1;exact Z6 ⟨H1,I1,q⟩
variable{tA tB':TT}{rest:List QX}
def QxS(t u:TT):TT:=λσ H Q=>t σ H λc H1=>if c=true then u σ H1 Q else Q false H1
def tOr(t u:TT):TT:=λσ H Q=>t σ H λc H1=>if c=true then Q true H1 else u σ H1 Q
def Qzn(t:TT):TT:=λσ H Q=>t σ H λc H1=>Q (!c) H1
theorem Qlw(ha:PT X a tA):PW X (.BoolOp .And [a] pos) tA:=by
 intro wh pins s σ H Q I h;refine isTrue_and (thn (ha pins s σ H Q I h) λc s1 e=>?_);cases c with
 |true=>exact isTrue_and_nil e
 |false=>exact e
theorem Qgw(ha:PT X a tA):PW X (.BoolOp .Or [a] pos) tA:=by
 intro wh pins s σ H Q I h;refine isTrue_or (thn (ha pins s σ H Q I h) λc s1 e=>?_);cases c with
 |false=>exact isTrue_or_nil e
 |true=>exact e
theorem Qp5(ha:PT X a tA)(hb:PW X (.BoolOp .And (b::rest) pos) tB'):PW X (.BoolOp .And (a::b::rest) pos) (QxS tA tB'):=by
 intro wh pins s σ H Q I h;refine isTrue_and (thn (ha pins s σ H _ I h) λc s1 ⟨H1,I1,q1⟩=>?_);cases c with
 |true=>exact hb wh pins s1 σ H1 Q I1 q1
 |false=>exact⟨H1,I1,q1⟩
theorem Qjl(ha:PT X a tA)(hb:PW X (.BoolOp .Or (b::rest) pos) tB'):PW X (.BoolOp .Or (a::b::rest) pos) (tOr tA tB'):=by
 intro wh pins s σ H Q I h;refine isTrue_or (thn (ha pins s σ H _ I h) λc s1 ⟨H1,I1,q1⟩=>?_);cases c with
 |true=>exact⟨H1,I1,q1⟩
 |false=>exact hb wh pins s1 σ H1 Q I1 q1
theorem QdR(ha:PT X a tA):PT X (.UnaryOp .Not a pos) (Qzn tA):=by
 intro pins s σ H Q I h;exact isTrue_not (ha pins s σ H (λc H1=>Q (!c) H1) I h)
def QxR(ta tb:TE):TE:=λσ H Q=>ta σ H λx H1=>∃c,x=.bl c/\if c=true then tb σ H1 Q else Q (.bl false) H1
def QxN(ta:TE):TE:=λσ H Q=>ta σ H λx H1=>∃c,x=.bl c/\Q (.bl (!c)) H1
theorem Qdj{op}{t:TE}(h:PE X a t):PE X (.BoolOp op [a] pos) t:=λpins s σ H Q I hw=>BoolOp_one (h pins s σ H Q I hw)
theorem Qdk(ha:PE X a ta)(hb:PE X (.BoolOp .And (b::rest) pos) tb):PE X (.BoolOp .And (a::b::rest) pos) (QxR ta tb):=by
 intro pins s σ H Q I h;refine BoolOp_and (thn (ha pins s σ H _ I h) λv s1 ⟨x,H1,I1,r1,q1⟩=>?_);obtain⟨c,rfl,q1⟩:=q1;cases r1;refine Z6 ?_
 cases c with
 |true=>exact hb pins s1 σ H1 Q I1 q1
 |false=>exact⟨.bl false,H1,I1,rfl,q1⟩
theorem Qrb(ha:PE X a ta):PE X (.UnaryOp .Not a pos) (QxN ta):=by
 intro pins s σ H Q I h;refine UnaryOp_ (thn (ha pins s σ H _ I h) λv s1 ⟨x,H1,I1,r1,q1⟩=>?_);obtain⟨c,rfl,q1⟩:=q1;cases r1;exact not_of (Z6 ⟨.bl (!c),H1,I1,rfl,q1⟩)
end
def SqL(K:PySem.W.Frag)(H:Hp)(a:Addr)(xs:List V):Prop:=
 Rd H a (.lst xs) ∨
  ∃(o:Obj)(its:Array Value)(n:Nat),K.lookup a=some o/\o.cls=.type "list" /\ o.dict=none/\o.data=.seq its n/\its.size<=sizeLine/\Vals xs its.toList
def SqT(K:PySem.W.Frag)(H:Hp)(a:Addr)(xs:List V):Prop:=
 Rd H a (.tup xs) ∨
  ∃(o:Obj)(its:Array Value)(n:Nat),K.lookup a=some o/\o.cls=.type "tuple" /\ o.data=.seq its n/\its.size<=sizeLine/\Vals xs its.toList
def QzL:Value->Option V
 |.none=>some .non
 |.bool b=>some (.bl b)
 |.int i _=>some (.int i)
 |.str x _=>some (.str x)
 |.bytes b _=>some (.byt b)
 |.float b _=>some (.flt b)
 |.ref a=>some (.ref a)
 |.type n=>some (.ty n)
 |_=>none
theorem RelV.abs{x:V}{u:Value}(r:RelV x u):QzL u=some x:=by
 cases x with
 |non=>cases r;rfl
 |bl _=>cases r;rfl
 |int _=>obtain⟨t,rfl⟩:=r;rfl
 |str _=>obtain⟨t,rfl⟩:=r;rfl
 |byt _=>obtain⟨t,rfl⟩:=r;rfl
 |flt _=>obtain⟨t,rfl⟩:=r;rfl
 |ref _=>cases r;rfl
 |ty _=>cases r;rfl
theorem RelV.inj{x y:V}{u:Value}(r:RelV x u)(q:RelV y u):x=y:=QB (r.abs.symm.trans q.abs)
theorem Vals.inj:∀{xs ys:List V}{us:List Value},Vals xs us->Vals ys us->xs=ys
 |_,_,_,.nil,.nil=>rfl
 |_,_,_,.cons r t,.cons r' t'=>by rw[r.inj r',Vals.inj t t']
section
variable{X:Cx}{pins:List (Addr×Obj)}{σ:St}{H:Hp}{s:Shared}{a:Addr}{xs ys:List V}
theorem SqL.of{K:PySem.W.Frag}(h:H a=some (.lst xs)):SqL K H a xs:=.inl (.inl h)
theorem SqT.of{K:PySem.W.Frag}(h:H a=some (.tup xs)):SqT K H a xs:=.inl (.inl h)
theorem Inv.list(I:Inv X pins σ H s)(h:SqL X.K H a xs):∃its:List Value,Vals xs its/\PlainL s.heap a its.toArray/\xs.length<=sizeLine:=by
 rcases h with h | ⟨o,its,n,hk,hc,hd,hs,hz,r⟩
 ·obtain⟨z,its,n,r,e⟩:=h.ok I.hok;exact⟨its,r,⟨_,n,e,rfl,rfl,rfl⟩,z⟩
 ·refine⟨its.toList,r,⟨o,n,I.kIn a o hk,hc,hd,by simpa using hs⟩,?_⟩;have e:=r.length;simp only[Jg] at e;omega
theorem Inv.tuple(I:Inv X pins σ H s)(h:SqT X.K H a xs):∃its:List Value,Vals xs its/\IsTup s.heap a its.toArray/\xs.length<=sizeLine:=by
 rcases h with h | ⟨o,its,n,hk,hc,hs,hz,r⟩
 ·obtain⟨z,its,r,p⟩:=h.ok I.hok;exact⟨its,r,p.tup,z⟩
 ·refine⟨its.toList,r,⟨o,I.kIn a o hk,hc,n,by simpa using hs⟩,?_⟩;have e:=r.length;simp only[Jg] at e;omega
theorem Inv.list_inj(I:Inv X pins σ H s)(h:SqL X.K H a xs)(h':SqL X.K H a ys):xs=ys:=by
 obtain⟨its,r,⟨o,n,e,_,_,d⟩,_⟩:=I.list h;obtain⟨its',r',⟨o',n',e',_,_,d'⟩,_⟩:=I.list h';rw[e] at e';cases e';rw[d] at d';injection d' with d1 _
 have:its=its':=by simpa using congrArg QwS d1
 subst this;exact r.inj r'
theorem Inv.tuple_inj(I:Inv X pins σ H s)(h:SqT X.K H a xs)(h':SqT X.K H a ys):xs=ys:=by
 obtain⟨its,r,⟨o,e,_,n,d⟩,_⟩:=I.tuple h;obtain⟨its',r',⟨o',e',_,n',d'⟩,_⟩:=I.tuple h';rw[e] at e';cases e';rw[d] at d';injection d' with d1 _
 have:its=its':=by simpa using congrArg QwS d1
 subst this;exact r.inj r'
end
abbrev Cx.wish (X:Cx) (E:Value->Shared->Prop):Cx:={ X with xe:=E }
abbrev Cx.nox (X:Cx):Cx:=X.wish λ_ _=>False
theorem Cx.Ok.wish{X:Cx}(ok:X.Ok)(E:Value->Shared->Prop):(X.wish E).Ok:=
 ⟨ok.mod,ok.kind,ok.glob,ok.blt,ok.above,ok.inj,ok.has,ok.cab,ok.hd,ok.frames,ok.stk,ok.exf,ok.bs,ok.bsz,ok.noex,ok.exfs,ok.funs,ok.frf⟩
theorem Cx.Ok.unwish{X:Cx}{E:Value->Shared->Prop}(ok:(X.wish E).Ok):X.Ok:=
 ⟨ok.mod,ok.kind,ok.glob,ok.blt,ok.above,ok.inj,ok.has,ok.cab,ok.hd,ok.frames,ok.stk,ok.exf,ok.bs,ok.bsz,ok.noex,ok.exfs,ok.funs,ok.frf⟩
section
variable{X:Cx}{pins:List (Addr×Obj)}{σ:St}{H:Hp}{s:Shared}{E:Value->Shared->Prop}
theorem Inv.wish(I:Inv X pins σ H s)(E:Value->Shared->Prop):Inv (X.wish E) pins σ H s:=⟨I.ok.wish E,I.os,I.bare,I.base,I.loc,I.cell,I.free,I.freeC,I.pin,I.hok,I.len⟩
theorem Inv.unwish(I:Inv (X.wish E) pins σ H s):Inv X pins σ H s:=⟨I.ok.unwish,I.os,I.bare,I.base,I.loc,I.cell,I.free,I.freeC,I.pin,I.hok,I.len⟩
theorem SP.unwish{D:Ends}{f:Flow}{s':Shared}(h:SP (X.wish E) pins D f s'):SP X pins D f s':=by
 cases f with
 |next=>obtain⟨σ',H',I,q⟩:=h;exact⟨σ',H',I.unwish,q⟩
 |brk=>obtain⟨σ',H',I,q⟩:=h;exact⟨σ',H',I.unwish,q⟩
 |cont=>obtain⟨σ',H',I,q⟩:=h;exact⟨σ',H',I.unwish,q⟩
 |ret u=>obtain⟨v,σ',H',I,r,q⟩:=h;exact⟨v,σ',H',I.unwish,r,q⟩
theorem PE.nox{e:QX}{t:TE}(h:PE X.nox e t):PE X e t:=λpins s σ H Q I hw=>
 wpAny_mono (h pins s σ H Q (I.wish _) hw) (λ_ _ ⟨v,H',I',r,q⟩=>⟨v,H',I'.unwish,r,q⟩) λ_ _ z=>Jj z
theorem PT.nox{e:QX}{t:TT}(h:PT X.nox e t):PT X e t:=λpins s σ H Q I hw=>
 wpAny_mono (h pins s σ H Q (I.wish _) hw) (λ_ _ ⟨H',I',q⟩=>⟨H',I'.unwish,q⟩) λ_ _ z=>Jj z
theorem PSs.nox{st:List ZM}{t:TS}(h:PSs X.nox st t):PSs X st t:=λpins s σ H D I hw=>
 wpAny_mono (h pins s σ H D (I.wish _) hw) (λ_ _ q=>q.unwish) λ_ _ z=>Jj z
end
section
variable{X:Cx}{st:ZM}{rest:List ZM}{t u:TS}{e:QX}{te:TE}{pos:Pos}
def QrV:TS:=λD σ H=>D.nx σ H
def Qhp(t u:TS):TS:=λD σ H=>t { D with nx:=u D } σ H
theorem Z2:PSs X [] QrV:=λ_ _ σ H _ I h=>Qaa ⟨σ,H,I,h⟩
theorem QR(h1:PS X st t)(h2:PSs X rest u):PSs X (st::rest) (Qhp t u):=by
 intro pins s σ H D I h;refine QaI (thn (h1 pins s σ H { D with nx:=u D } I h) λf s1 q=>?_);cases f with
 |next=>
  obtain⟨σ',H',I',q⟩:=q;exact h2 pins s1 σ' H' D I' q
 |ret v=>exact q
 |brk=>exact q
 |cont=>exact q
theorem Ji(h1:PS X st t):PSs X [st] t:=by
 intro pins s σ H D I h;refine QaI (thn (h1 pins s σ H D I h) λf s1 q=>?_);cases f with
 |next=>exact Qaa q
 |ret v=>exact q
 |brk=>exact q
 |cont=>exact q
theorem Inv.quiet{pins:List (Addr×Obj)}{σ:St}{H:Hp}{s:Shared}(I:Inv X pins σ H s):interactive X.env=false:=by simp[interactive,I.ok.kind]
def QnG(te:TE):TS:=λD σ H=>te σ H λ_ H1=>D.nx σ H1
theorem Z8(he:PE X e te)(hs:swapsWith e none pos.line X.env=pure false:=by rfl):PS X (.Expr e pos) (QnG te):=by
 intro pins s σ H D I h;exact wpAny_Expr_any (thn (he pins s σ H _ I h) λv s1 ⟨x,H1,I1,r1,q1⟩=>⟨σ,H1,I1,q1⟩) I.quiet hs
def QxL(te:TE):TS:=λD σ H=>te σ H D.rt
theorem Zy(he:PE X e te):PS X (.Return (some e) pos) (QxL te):=by
 intro pins s σ H D I h;exact Qge (thn (he pins s σ H _ I h) λv s1 ⟨x,H1,I1,r1,q1⟩=>⟨x,σ,H1,I1,r1,q1⟩)
def QxP(c:TT)(t u:TS):TS:=λD σ H=>c σ H λb H1=>if b=true then t D σ H1 else u D σ H1
theorem Qbf{c:QX}{a b:List ZM}{tc:TT}(hc:PT X c tc)(ha:PSs X a t)(hb:PSs X b u):PS X (.If c a b pos) (QxP tc t u):=by
 intro pins s σ H D I h;refine wpAny_If (thn (hc pins s σ H _ I h) λd s1 ⟨H1,I1,q1⟩=>?_);cases d with
 |true=>exact ha pins s1 σ H1 D I1 q1
 |false=>exact hb pins s1 σ H1 D I1 q1
end
abbrev TG:=V->St->Hp->(St->Hp->Prop)->Prop
abbrev TGs:=List V->St->Hp->(St->Hp->Prop)->Prop
def PG(X:Cx)(target:QX)(t:TG):Prop:=
 ∀(pins:List (Addr×Obj))(s:Shared)(σ:St)(H:Hp)(v:V)(u:Value)(Q:St->Hp->Prop),Inv X pins σ H s->RelV v u->t v σ H Q ->
  wpAny (model X.prog X.w) X.A (assign target X.env u) (λ_ s'=>∃σ' H',Inv X pins σ' H' s'/\Q σ' H') X.xe s
def PGs(X:Cx)(ts:List QX)(t:TGs):Prop:=
 ∀(pins:List (Addr×Obj))(s:Shared)(σ:St)(H:Hp)(vs:List V)(us:List Value)(Q:St->Hp->Prop),Inv X pins σ H s->Vals vs us->t vs σ H Q ->
  wpAny (model X.prog X.w) X.A (assignInOrder ((assignEach ts X.env).map (·.2)) us) (λ_ s'=>∃σ' H',Inv X pins σ' H' s'/\Q σ' H') X.xe s
abbrev TSet:=V->V->V->Hp->(Hp->Prop)->Prop
def QyI(X:Cx)(t:TSet):Prop:=
 ∀(pins:List (Addr×Obj))(s:Shared)(σ:St)(H:Hp)(o i v:V)(ov iv u:Value)(Q:Hp->Prop),Inv X pins σ H s->RelV o ov->RelV i iv->RelV v u->t o i v H Q ->
  wpAny (model X.prog X.w) X.A (setItem ov iv u) (λ_ s'=>∃H',Inv X pins σ H' s'/\Q H') X.xe s
abbrev TIp:=V->V->Hp->VK->Prop
def PIp(X:Cx)(op:Qff)(t:TIp):Prop:=
 ∀(pins:List (Addr×Obj))(s:Shared)(σ:St)(H:Hp)(x y:V)(v u:Value)(Q:VK),Inv X pins σ H s->RelV x v->RelV y u->t x y H Q ->
  wpAny (model X.prog X.w) X.A (inplaceOp op v u) (EP X pins σ Q) X.xe s
section
variable{X:Cx}{pos:Pos}
def YN(i:Nat):TG:=λv σ H Q=>Q (σ.set i (some v)) H
theorem Zo{i:Nat}{x:Str}(hN:X.N.Nodup)(hi:X.N[i]? = some x)(hx:Loc X.env.scope x)(hf:X.fn x=true∨X.env.scope.names.lookup x=some .local:=by first | exact .inl rfl | exact .inr rfl | assumption):PG X (.Name x pos) (YN i):=by
 intro pins s σ H v u Q I r h;exact Qxa (Qcm I hN hi hx r (λs' I'=>⟨_,H,I',h⟩) hf)
def Qw3:TGs:=λvs σ H Q=>vs=[]/\Q σ H
def QjP(t:TG)(u:TGs):TGs:=λvs σ H Q=>∃v r,vs=v::r/\t v σ H λσ' H'=>u r σ' H' Q
theorem Qb2:PGs X [] Qw3:=by
 intro pins s σ H vs us Q I r h;obtain⟨e,h⟩:=h;subst e;cases r;exact Qxe ⟨σ,H,I,h⟩
theorem ZI{e:QX}{es:List QX}{t:TG}{u:TGs}(h1:PG X e t)(h2:PGs X es u)
  (hs:(assignEach (e::es) X.env).map (·.2)=assign e X.env::(assignEach es X.env).map (·.2):=by rfl):PGs X (e::es) (QjP t u):=by
 intro pins s σ H vs us Q I r h;obtain⟨v,vr,e1,h⟩:=h;subst e1;cases r with
 |cons r rr=>
  rw[hs];refine Qfd (thn (h1 pins s σ H _ _ _ I r h) λ_ s1 ⟨σ1,H1,I1,q1⟩=>?_);exact h2 pins s1 σ1 H1 _ _ Q I1 rr q1
def Qw2(K:PySem.W.Frag)(n:Nat)(t:TGs):TG:=λv σ H Q=>∃a xs,v=.ref a/\SqT K H a xs/\xs.length=n/\t xs σ H Q
theorem QdT{es:List QX}{k:Nat}{t:TGs}{n:Nat}(hc:X.calm=true)(h:PGs X es t)
  (hn:(assignEach es X.env).length=n:=by rfl)(hst:(assignEach es X.env).findIdx? (·.1)=none:=by rfl):PG X (.Tuple es k pos) (Qw2 X.K n t):=by
 intro pins s σ H v u Q I r hw;obtain⟨a,xs,e1,hq,hl,hw⟩:=hw;subst e1;cases r;obtain⟨its,rv,ht,hz⟩:=I.tuple hq;refine assign_Tuple_tuple (I.ok.hd hc) ht (by simp[hn,<- hl,rv.length]) hst λh' hx=>?_
 have I1:Inv X pins σ H { s with heap:=h' }:=I.kept (t':=s.toks) λb o e=>hx b o (Qx (Qo e)) e
 exact h pins _ σ H xs _ Q I1 (by simpa using rv) hw
def gSub(to ti:TE)(t:TSet):TG:=λv σ H Q=>to σ H λo H1=>ti σ H1 λi H2=>t o i v H2 λH3=>Q σ H3
theorem QlE{o i:QX}{to ti:TE}{t:TSet}(ho:PE X o to)(hi:PE X i ti)(hs:QyI X t)
  (ha:∀v,assign (.Subscript o i pos) X.env v=(do
   let ov <- holding [v] (eval o X.env)
   let iv <- holding [v,ov] (eval i X.env)
   standAt pos
   holding [v,ov,iv] (setItem ov iv v)
   release [v,ov,iv] []):=by intro _;rfl):PG X (.Subscript o i pos) (gSub to ti t):=by
 intro pins s σ H v u Q I r h;rw[ha];refine wpAny_bind (Zk (thn (ho pins s σ H _ I h) λov s1 ⟨x,H1,I1,r1,q1⟩=>?_));refine wpAny_bind (Zk (thn (hi pins s1 σ H1 _ I1 q1) λiv s2 ⟨y,H2,I2,r2,q2⟩=>?_));refine wpAny_bind (wpAny_standAt (wpAny_bind (Zk (thn (hs pins s2 σ H2 x y v ov iv u _ I2 r1 r2 r q2) λ_ s3 ⟨H3,I3,q3⟩=>?_))));exact wpAny_release ⟨σ,H3,I3,q3⟩
def Qfo(te:TE)(g:TG):TS:=λD σ H=>te σ H λx H1=>g x σ H1 D.nx
theorem Qdi{tg e:QX}{te:TE}{g:TG}(he:PE X e te)(hg:PG X tg g)(hs:swapsWithSole [tg] e pos.line X.env=pure false:=by rfl)(hw:swappedStores [tg] e X.env=pure none:=by rfl)
  (h1:(assignEach [tg] X.env).map (·.2)=[assign tg X.env]:=by rfl):PS X (.Assign [tg] e pos) (Qfo te g):=by
 intro pins s σ H D I h;refine wpAny_Assign_stores (thn (he pins s σ H _ I h) λv s1 ⟨x,H1,I1,r1,q1⟩=>?_) hs hw;rw[h1];exact thn (hg pins s1 σ H1 x v _ I1 r1 q1) λ_ s2 q=>q
theorem ZQ{i:Nat}{x:Str}{e:QX}{te:TE}{pos':Pos}(hN:X.N.Nodup)(hi:X.N[i]? = some x)(hx:Loc X.env.scope x)(he:PE X e te)(hs:swapsWith e (some (.Name x pos')) pos.line X.env=pure false:=by rfl)(hf:X.fn x=true∨X.env.scope.names.lookup x=some .local:=by first | exact .inl rfl | exact .inr rfl | assumption) :
  PS X (.Assign [.Name x pos'] e pos) (Qfo te (YN i)):=by
 intro pins s σ H D I h;refine wpAny_Assign_Name (thn (he pins s σ H _ I h) λv s1 ⟨y,H1,I1,r1,q1⟩=>?_) hs;exact Qcm I1 hN hi hx r1 (λs2 I2=>⟨_,H1,I2,q1⟩) hf
def QyP(i j:Nat)(ta:TA):TS:=λD σ H=>ta σ H λvs H1=>∃v w,vs=[v,w]/\D.nx ((σ.set i (some v)).set j (some w)) H1
theorem Qvg{i j:Nat}{x y:Str}{a b:QX}{ta:TA}{px py pt:Pos}{kt k2 pt2}(hc:X.calm=true)(hN:X.N.Nodup)(hi:X.N[i]? = some x)(hj:X.N[j]? = some y)(hij:i≠j)
  (hx:X.env.scope.names.lookup x=some .local)(hy:X.env.scope.names.lookup y=some .local)(ha:PA X [a,b] ta)
  (hw:swappedStores [.Tuple [.Name x px,.Name y py] kt pt] (.Tuple [a,b] k2 pt2) X.env=pure (some [x,y]))
  (hs:swapsWithSole [.Tuple [.Name x px,.Name y py] kt pt] (.Tuple [a,b] k2 pt2) pos.line X.env=pure false:=by rfl) :
  PS X (.Assign [.Tuple [.Name x px,.Name y py] kt pt] (.Tuple [a,b] k2 pt2) pos) (QyP i j ta):=by
 intro pins s σ H D I h;rw[exec_Assign_arm];refine wpAny_bind (wpAny_standAt ?_);rw[hs];refine wpAny_bind (Qf ?_);rw[if_neg (by decide)];refine wpAny_bind (Tuple_ (thn (ha _ pins s σ H _ I h) λus s1 ⟨vs,H1,I1,r1,q1⟩=>?_));obtain⟨v,w,e1,q1⟩:=q1;subst e1;obtain⟨u1,u2,rfl,rv,rw'⟩:∃u1 u2,us=[u1,u2]/\RelV v u1/\RelV w u2:=by
  cases r1 with
  |cons p q=>
   cases q with
   |cons p' q'=>
    cases q';exact⟨_,_,rfl,p,p'⟩
 refine Jy ?_ (by show 2<=sizeLine;decide)
 have I2:Inv X pins σ H1 { s1 with heap:=s1.heap.push { cls:=.type "tuple",data:=.seq [u1,u2].toArray } }:=I1.kept (t':=s1.toks) λb o e=>Qd _ e
 rw[hw];refine wpAny_bind (Qf ?_);show wpAny (model X.prog X.w) X.A (do rule "assign.swapped-stores";let items <- unpackItems (.ref s1.heap.objs.size) 2 none;assignInOrder [λv=>bindName X.env y v,λv=>bindName X.env x v] items.reverse;pure Flow.next) _ _ _;refine wpAny_bind (wpAny_rule (wpAny_bind (unpackItems_tuple (items:=#[u1,u2]) (I.ok.hd hc) (IsTup.new s1.heap _) λh' hx'=>?_)));have I3:=I2.kept (h':=h') (t':=s1.toks) λb o e=>hx' b o (Qx (Qo e)) e
 show wpAny _ _ (assignInOrder [λv=>bindName X.env y v,λv=>bindName X.env x v] [u2,u1] >>= λ_=>pure Flow.next) _ _ _;refine wpAny_bind (Qfd (wpAny_bindName (Qcm I3 hN hj (.inl hy) rw' (λs2 I4=>?_) (.inr hy))));refine Qfd (wpAny_bindName (Qcm I4 hN hi (.inl hx) rv (λs3 I5=>Qxe (Qf ?_)) (.inr hx)));rw[List.set_comm _ _ (Y2 hij)] at I5;exact⟨_,H1,I5,q1⟩
def QuN(to ti te:TE)(tget:V->V->Hp->VK->Prop)(tip:TIp)(tset:TSet):TS:=λD σ H=>to σ H λo H1=>ti σ H1 λi H2=>tget o i H2 λx H3=>te σ H3 λy H4=>tip x y H4 λz H5=>tset o i z H5 λH6=>D.nx σ H6
def Qzg(X:Cx)(t:V->V->Hp->VK->Prop):Prop:=
 ∀(pins:List (Addr×Obj))(s:Shared)(σ:St)(H:Hp)(o i:V)(ov iv:Value)(Q:VK),Inv X pins σ H s->RelV o ov->RelV i iv->t o i H Q ->
  wpAny (model X.prog X.w) X.A (getItem ov iv) (EP X pins σ Q) X.xe s
theorem Qsx{o i e:QX}{to ti te:TE}{tget:V->V->Hp->VK->Prop}{tip:TIp}{tset:TSet}{op:Qff}{tpos:Pos}(ho:PE X o to)(hi:PE X i ti)(hg:Qzg X tget)(he:PE X e te)(hp:PIp X op tip)(hs:QyI X tset)
  (ha:∀ov iv new,augStore i ov iv new=(do holding [new,ov,iv] (setItem ov iv new);release [new,ov,iv] [];pure .next):=by intros;rfl):PS X (.AugAssign (.Subscript o i tpos) op e pos) (QuN to ti te tget tip tset):=by
 intro pins s σ H D I h;refine wpAny_AugAssign_SubscriptAny (thn (ho pins s σ H _ I h) λov s1 ⟨x1,H1,I1,r1,q1⟩=>?_) ha;refine thn (hi pins s1 σ H1 _ I1 q1) λiv s2 ⟨x2,H2,I2,r2,q2⟩=>?_
 refine thn (hg pins s2 σ H2 x1 x2 ov iv _ I2 r1 r2 q2) λold s3 ⟨x3,H3,I3,r3,q3⟩=>?_
 refine thn (he pins s3 σ H3 _ I3 q3) λv s4 ⟨x4,H4,I4,r4,q4⟩=>?_
 refine thn (hp pins s4 σ H4 x3 x4 old v _ I4 r3 r4 q4) λnew s5 ⟨x5,H5,I5,r5,q5⟩=>?_
 exact thn (hs pins s5 σ H5 x1 x2 x5 ov iv new _ I5 r1 r2 r5 q5) λ_ s6 ⟨H6,I6,q6⟩=>⟨σ,H6,I6,q6⟩
def ipI(f:Int->Int->Int):TIp:=λx y H Q=>∃i j,x=.int i/\y=.int j/\Q (.int (f i j)) H
theorem QvX:PIp X .Add (ipI λi j=>i+j):=by
 intro pins s σ H x y v u Q I r1 r2 h;obtain⟨i,j,e1,e2,q⟩:=h;subst e1;subst e2;obtain⟨t,rfl⟩:=r1;obtain⟨t',rfl⟩:=r2;exact iadd_int ⟨.int _,H,I.tok _,⟨_,rfl⟩,q⟩
end
section
variable{X:Cx}{pos:Pos}
end
structure It where
 go:Nat->Hp->Prop
 yld:Nat->Hp->V->Hp->Prop
 stop:Nat->Hp->Prop
def FpOk(X:Cx)(pins:List (Addr×Obj))(H:Hp)(b:Addr):Prop:=
 H b=none/\b≠X.env.locals/\b∉X.fs/\(b∈X.ex∨X.s₀.heap.objs.size<=b)/\(∀x c,X.env.cells.lookup x=some c->c≠b)/\∀p∈X.pn++pins,p.1≠b
theorem Inv.fpOk{X:Cx}{pins:List (Addr×Obj)}{σ:St}{H H':Hp}{s:Shared}{b:Addr}(I:Inv X pins σ H s)(hb:s.heap.objs.size<=b)(hn:H' b=none):FpOk X pins H' b:=by
 refine⟨hn,Qci (QN I.lt hb),I.nofs hb,.inr (QL I.sz hb),λx c e z=>?_,λp hp z=>?_⟩
 ·obtain⟨v,q⟩:=I.cell x c e;exact absurd (QN q.lt (by rw[z];exact hb)) (Zv _)
 ·exact absurd (QN (Qo (I.pin p hp).1) (by rw[z];exact hb)) (Zv _)
structure Turn (P:Qw) (w:Ja) (K:PySem.W.Frag) (tg:QX) (J:It) (fp:List Addr) (it:Addr) (tn:Nat->JR->Prop):Prop where
 mem:it∈fp
 obj:∀i h,tn i h->∀b∈fp,∃o,h.get? b=some o/\∀v,o.data≠.cell v
 keep:∀i h h',tn i h->(∀b∈fp,∀o,h.get? b=some o->h'.get? b=some o)->tn i h'
 item:∀(X:Cx),X.prog=P->X.w=w->X.K=K->X.calm=true->∀(i:Nat)(pins:List (Addr×Obj))(s:Shared)(σ:St)(H:Hp)(E:Value->Shared->Prop),Inv X pins σ H s->(∀b∈fp,FpOk X pins H b)->tn i s.heap->J.go i H ->
  wpAny (model P w) X.A (pyNext (.ref it)) (λr s1=>∃u,r=some u /\
   wpAny (model P w) X.A (letOwnedTupleGo tg (.ref it) u) (λ_ s2=>∃x H',Inv X pins σ H' s2/\RelV x u/\J.yld i H x H'/\tn (i+1) s2.heap/\∀b∈fp,H' b=none) E s1) E s
 done:∀(X:Cx),X.prog=P->X.w=w->X.K=K->X.calm=true->∀(i:Nat)(pins:List (Addr×Obj))(s:Shared)(σ:St)(H:Hp)(E:Value->Shared->Prop),Inv X pins σ H s->(∀b∈fp,FpOk X pins H b)->tn i s.heap->J.stop i H ->
  wpAny (model P w) X.A (pyNext (.ref it)) (λr s1=>r=none/\Inv X pins σ H s1) E s
 self:∀(A:Q9)(i:Nat)(s:Shared)(Q:Value->Shared->Prop)(E:Value->Shared->Prop),tn i s.heap->Q (.ref it) s->wpAny (model P w) A (pyIter (.ref it)) Q E s
abbrev TI:=St->Hp->(It->Hp->Prop)->Prop
def PIE(X:Cx)(pins:List (Addr×Obj))(σ:St)(tg:QX)(R:It->Hp->Prop)(itv:Value)(s2:Shared):Prop:=
 ∃(it:Addr)(fp:List Addr)(tn:Nat->JR->Prop)(J:It)(H':Hp),itv=.ref it/\Inv X pins σ H' s2/\Turn X.prog X.w X.K tg J fp it tn/\tn 0 s2.heap/\(∀b∈fp,FpOk X pins H' b)/\R J H'
def PI(X:Cx)(tg iter:QX)(wi:TI):Prop:=
 ∀(pins:List (Addr×Obj))(s:Shared)(σ:St)(H:Hp)(R:It->Hp->Prop),Inv X pins σ H s->wi σ H R ->
  wpAny (model X.prog X.w) X.A (eval iter X.env) (λv s1=>wpAny (model X.prog X.w) X.A (pyIter v) (PIE X pins σ tg R) X.xe s1) X.xe s
theorem QmD{M:Qkw}{A:Q9}{E:Value->Shared->Prop}{s:Shared}{tg:QX}{it:Addr}{u:Value}{o:Obj}{n:String}{vs:Array Value}{Q:Unit->Shared->Prop}(ho:s.heap.get? it=some o)(hc:o.cls=.type n)(hd:o.data=.fields vs)
  (hn:["enumerate", "zip", "dict_itemiterator", "dict_reverseitemiterator", "odict_iterator", "itertools.zip_longest", "itertools.pairwise"].contains n=false)(hQ:Q () s):wpAny M A (letOwnedTupleGo tg (.ref it) u) Q E s:=by
 unfold letOwnedTupleGo;cases tg<;>first
  |exact Qf hQ
  |(cases u<;>first
    |exact Qf hQ
    |(refine wpAny_bind (wpAny_load ho ?_)
      rw[hc,hd];show wpAny M A (if(["enumerate", "zip", "dict_itemiterator", "dict_reverseitemiterator", "odict_iterator", "itertools.zip_longest", "itertools.pairwise"].contains n&&vs[0]? == some (rawInt _))=true then _ else _) Q E s;rw[if_neg (by intro h;rw[hn,Qba] at h;cases h)];exact Qf hQ))
def Itl(K:PySem.W.Frag)(a:Addr):It:=
 ⟨λi H=>∃xs x,SqL K H a xs/\xs[i]? = some x,λi H x H'=>H'=H/\∀xs,SqL K H a xs->xs[i]? = some x,λi H=>∃xs,SqL K H a xs/\xs.length<=i⟩
def Itt(K:PySem.W.Frag)(a:Addr):It:=
 ⟨λi H=>∃xs x,SqT K H a xs/\xs[i]? = some x,λi H x H'=>H'=H/\∀xs,SqT K H a xs->xs[i]? = some x,λi H=>∃xs,SqT K H a xs/\xs.length<=i⟩
def Itr(lo:Int)(n:Nat):It:=⟨λi _=>i<n,λi H x H'=>H'=H/\x=.int (lo+i),λi _=>n<=i⟩
theorem QkF{P:Qw}{w:Ja}{K:PySem.W.Frag}{tg:QX}(a it:Addr):Turn P w K tg (Itl K a) [it] it (λi h=>h.IsListIter it a i) where
 mem:=by simp
 obj:=λi h st b hb=>by
  have e:b=it:=by simpa using hb
  subst e;obtain⟨o,e,c,d⟩:=st;exact⟨o,e,λv z=>by rw[d] at z;cases z⟩
 keep:=λi h h' st k=>st.at λo e=>k it (by simp) o e
 item:=by
  intro X hP hw hK hc i pins s σ H E I hf st hg;subst hP hw hK;obtain⟨xs,x,hq,hx⟩:=hg;obtain⟨its,rv,p,hz⟩:=I.list hq;obtain⟨u,hu,ru⟩:=rv.get hx;obtain⟨f0,f1,f2,f3,f4,f5⟩:=hf it (by simp);refine wpAny_pyNext_list_item st p.isList (x:=u) (by simpa using hu) λh' st' sb=>?_
  have I1:Inv X pins σ H { s with heap:=h' }:=I.turned (t':=s.toks) (λb o hb e=>(sb.2 b hb).trans e) f0 f1 f3 f4 f5;obtain⟨o,e,c,d⟩:=id st';exact⟨u,rfl,QmD (s:={ s with heap:=h' }) e c d (by decide) ⟨x,H,I1,ru,⟨rfl,λys hy=>by rw[I.list_inj hy hq];exact hx⟩,st',λb hb=>(hf b hb).1⟩⟩
 done:=by
  intro X hP hw hK hc i pins s σ H E I hf st hg;subst hP hw hK;obtain⟨xs,hq,hx⟩:=hg;obtain⟨its,rv,p,hz⟩:=I.list hq;obtain⟨f0,f1,f2,f3,f4,f5⟩:=hf it (by simp);have hl:=rv.length;exact wpAny_pyNext_list_end (I.ok.hd hc) st p.isList (by simp;omega) λh' eb=>⟨rfl,I.turned (t':=s.toks) (λb o hb e=>eb b o hb e) f0 f1 f3 f4 f5⟩
 self:=λ_ _ _ _ _ st h=>wpAny_pyIter_listiter st h
theorem Qi4{P:Qw}{w:Ja}{K:PySem.W.Frag}{tg:QX}(a it:Addr):Turn P w K tg (Itt K a) [it] it (λi h=>h.IsTupleIter it a i) where
 mem:=by simp
 obj:=λi h st b hb=>by
  have e:b=it:=by simpa using hb
  subst e;obtain⟨o,e,c,d⟩:=st;exact⟨o,e,λv z=>by rw[d] at z;cases z⟩
 keep:=λi h h' st k=>st.at λo e=>k it (by simp) o e
 item:=by
  intro X hP hw hK hc i pins s σ H E I hf st hg;subst hP hw hK;obtain⟨xs,x,hq,hx⟩:=hg;obtain⟨its,rv,p,hz⟩:=I.tuple hq;obtain⟨u,hu,ru⟩:=rv.get hx;obtain⟨f0,f1,f2,f3,f4,f5⟩:=hf it (by simp);refine wpAny_pyNext_tuple_item st (show s.heap.IsTuple a its.toArray from p) (x:=u) (by simpa using hu) λh' st' sb=>?_
  have I1:Inv X pins σ H { s with heap:=h' }:=I.turned (t':=s.toks) (λb o hb e=>(sb.2 b hb).trans e) f0 f1 f3 f4 f5;obtain⟨o,e,c,d⟩:=id st';exact⟨u,rfl,QmD (s:={ s with heap:=h' }) e c d (by decide) ⟨x,H,I1,ru,⟨rfl,λys hy=>by rw[I.tuple_inj hy hq];exact hx⟩,st',λb hb=>(hf b hb).1⟩⟩
 done:=by
  intro X hP hw hK hc i pins s σ H E I hf st hg;subst hP hw hK;obtain⟨xs,hq,hx⟩:=hg;obtain⟨its,rv,p,hz⟩:=I.tuple hq;obtain⟨f0,f1,f2,f3,f4,f5⟩:=hf it (by simp);have hl:=rv.length;exact wpAny_pyNext_tuple_end (I.ok.hd hc) st (show s.heap.IsTuple a its.toArray from p) (by simp;omega) λh' eb=>⟨rfl,I.turned (t':=s.toks) (λb o hb e=>eb b o hb e) f0 f1 f3 f4 f5⟩
 self:=λ_ _ _ _ _ st h=>wpAny_pyIter_tupleiter st h
theorem Qi5{P:Qw}{w:Ja}{K:PySem.W.Frag}{tg:QX}(it:Addr)(lo:Int)(n:Nat):Turn P w K tg (Itr lo n) [it] it (λi h=>Qi0 h it (lo+(i:Nat)*1) ((n:Int) - (i:Nat)) 1) where
 mem:=by simp
 obj:=λi h st b hb=>by
  have e:b=it:=by simpa using hb
  subst e;exact⟨_,st,λv z=>by
   have z':Data.fields _=Data.cell v:=z;cases z'⟩
 keep:=λi h h' st k=>k it (by simp) _ st
 item:=by
  intro X hP hw hK hc i pins s σ H E I hf st hg;subst hP hw hK;obtain⟨f0,f1,f2,f3,f4,f5⟩:=hf it (by simp);have W:=Qxf (prog:=X.prog) (w:=X.w) (I.ok.hd hc) it lo 1 n;refine W.item i s _ _ hg st λv h' tk hv st' kk=>?_
  obtain⟨t,rfl⟩:=hv;have I1:Inv X pins σ H { s with heap:=h',toks:=tk }:=I.turned (λb o hb e=>kk b o (by simpa using hb) e) f0 f1 f3 f4 f5;refine⟨_,rfl,QmD (s:={ s with heap:=h',toks:=tk }) (n := "range_iterator") st' rfl rfl (by decide) ⟨.int (lo+i),H,I1,⟨t,?_⟩,⟨rfl,rfl⟩,st',λb hb=>(hf b hb).1⟩⟩;rw[Int.mul_one]
 done:=by
  intro X hP hw hK hc i pins s σ H E I hf st hg;subst hP hw hK;obtain⟨f0,f1,f2,f3,f4,f5⟩:=hf it (by simp);exact QpA (I.ok.hd hc) st (by have:n<=i:=hg;omega) λh' eb=>⟨rfl,I.turned (t':=s.toks) (λb o hb e=>eb b o hb e) f0 f1 f3 f4 f5⟩
 self:=λ_ _ _ _ _ st h=>QcG st h
section
variable{X:Cx}{tg:QX}
def Qyn(K:PySem.W.Frag)(tl:TE):TI:=λσ H R=>tl σ H λx H1=>∃a,x=.ref a/\(∃xs,SqL K H1 a xs)/\R (Itl K a) H1
def Qy3(K:PySem.W.Frag)(tl:TE):TI:=λσ H R=>tl σ H λx H1=>∃a,x=.ref a/\(∃xs,SqT K H1 a xs)/\R (Itt K a) H1
theorem QsB{l:QX}{tl:TE}(hl:PE X l tl):PI X tg l (Qyn X.K tl):=by
 intro pins s σ H R I h;refine thn (hl pins s σ H _ I h) λv s1 ⟨x,H1,I1,r1,q1⟩=>?_
 obtain⟨a,e,⟨xs,hq⟩,q⟩:=q1;subst e;cases r1;obtain⟨its,rv,p,hz⟩:=I1.list hq;refine Qw8 p.isList ?_
 refine⟨s1.heap.objs.size,[s1.heap.objs.size],_,_,H1,rfl,I1.kept (t':=s1.toks) λb o e=>Qd _ e,QkF a _,⟨_,Qs _ rfl,rfl,rfl⟩,λb hb=>?_,q⟩;have e:b=s1.heap.objs.size:=by simpa using hb
 subst e;exact I1.fpOk (Qh _) (I1.hok.fresh (Qh _))
theorem Qp8{l:QX}{tl:TE}(hl:PE X l tl):PI X tg l (Qy3 X.K tl):=by
 intro pins s σ H R I h;refine thn (hl pins s σ H _ I h) λv s1 ⟨x,H1,I1,r1,q1⟩=>?_
 obtain⟨a,e,⟨xs,hq⟩,q⟩:=q1;subst e;cases r1;obtain⟨its,rv,p,hz⟩:=I1.tuple hq;refine Qfa (show s1.heap.IsTuple a its.toArray from p) ?_
 refine⟨s1.heap.objs.size,[s1.heap.objs.size],_,_,H1,rfl,I1.kept (t':=s1.toks) λb o e=>Qd _ e,Qi4 a _,⟨_,Qs _ rfl,rfl,rfl⟩,λb hb=>?_,q⟩;have e:b=s1.heap.objs.size:=by simpa using hb
 subst e;exact I1.fpOk (Qh _) (I1.hok.fresh (Qh _))
theorem Qn5{pins:List (Addr×Obj)}{σ:St}{H:Hp}{s:Shared}{R:It->Hp->Prop}{E:Value->Shared->Prop}{lo hi:Int}{t u v:Tok}{tk:Nat}(I:Inv X pins σ H s)(h1 : -(2^62)<=lo)(h2:lo<2^62)(h3 : -(2^62)<=hi)(h4:hi<2^62)
  (q:R (Itr lo (hi - lo).toNat) H):wpAny (model X.prog X.w) X.A (pyIter (.ref s.heap.objs.size)) (PIE X pins σ tg R) E { s with heap:=s.heap.push { cls:=.type "range",data:=.fields #[.int lo t,.int hi u,.int 1 v] },toks:=tk }:=by
 refine wpAny_pyIter_range (IsRange.new ..) (small_one h1 h2 h3 h4) ?_
 have I1:Inv X pins σ H { s with heap:=s.heap.push { cls:=.type "range",data:=.fields #[.int lo t,.int hi u,.int 1 v] },toks:=tk }:=I.kept λb o e=>Qd _ e
 refine⟨(s.heap.push { cls:=.type "range",data:=.fields #[.int lo t,.int hi u,.int 1 v] }).objs.size,[(s.heap.push { cls:=.type "range",data:=.fields #[.int lo t,.int hi u,.int 1 v] }).objs.size],_,_,H,rfl,
  I1.kept (t':=tk) λb o e=>Qd _ e,Qi5 _ lo (hi - lo).toNat,?_,λb hb=>?_,q⟩
 ·have e1:lo+((0:Nat):Int)*1=lo:=by simp
  have e2:(((hi - lo).toNat:Nat):Int) - ((0:Nat):Int)=Zi lo hi 1:=by rw[Qnp];split<;>omega
  show Qi0 _ _ (lo+((0:Nat):Int)*1) ((((hi - lo).toNat:Nat):Int) - ((0:Nat):Int)) 1;rw[e1,e2];exact Qs _ rfl
 ·have e:b=(s.heap.push { cls:=.type "range",data:=.fields #[.int lo t,.int hi u,.int 1 v] }).objs.size:=by simpa using hb
  subst e;exact I1.fpOk (Qh _) (I1.hok.fresh (Qh _))
def Qo2(ta:TA):TI:=λσ H R=>ta σ H λvs H1=>∃j:Int,vs=[.int j] /\ -(2^62)<=j/\j<2^62/\R (Itr 0 j.toNat) H1
theorem Qbp{a:QX}{ta:TA}{p pos:Pos}(hg:Gl X "range")(hm:X.mg "range" = none)(ha:PA X [a] ta)(hs:starEach [a] X.env=[(false,eval a X.env)]:=by rfl):PI X tg (.Call (.Name "range" p) [a] [] pos) (Qo2 ta):=by
 intro pins s σ H R I h;refine Call_ (Qcu I hg hm boot_range (JJ (thn (ha pos pins s σ H _ I h) λus s1 ⟨vs,H1,I1,r1,q1⟩=>?_) hs rfl));obtain⟨j,e,q1,q2,q⟩:=q1;subst e;cases r1 with
 |cons r rr=>
  cases rr;obtain⟨t,rfl⟩:=r;exact call_range_1 (Qn5 I1 (by omega) (by omega) q1 q2 (by simpa using q))
def tFor(wi:TI)(g:TG)(tb:TS):TS:=λD σ H=>wi σ H λJ H1=>∃W:Nat->Nat->St->Hp->Prop,(∃m,W 0 m σ H1)/\∀i m σ H,W i m σ H ->
 (J.stop i H/\D.nx σ H)∨(J.go i H/\∃N:St->Hp->Prop,(∀σ' H',N σ' H'->∃m',m'<m/\W (i+1) m' σ' H')/\∀x H',J.yld i H x H'->g x σ H' λσ2 H2=>tb { D with nx:=N,ct:=N,bk:=D.nx } σ2 H2)
def Qim(fp:List Addr)(h:JR):List (Addr×Obj):=fp.filterMap λb=>(h.get? b).map λo=>(b,o)
theorem QbE{fp:List Addr}{h:JR}{b:Addr}{o:Obj}(hb:b∈fp)(e:h.get? b=some o):(b,o)∈Qim fp h:=Qdx.mpr ⟨b,hb,by rw[e];rfl⟩
theorem Ql7{fp:List Addr}{h:JR}{p:Addr×Obj}(hp:p∈Qim fp h):p.1∈fp/\h.get? p.1=some p.2:=by
 obtain⟨b,hb,e⟩:=Qdx.mp hp;cases q:h.get? b with
 |none=>rw[q] at e;cases e
 |some o=>
  rw[q] at e;have e':(b,o)=p:=QB e;subst e';exact⟨hb,q⟩
theorem Inv.pinned{pins:List (Addr×Obj)}{σ:St}{H:Hp}{s:Shared}{fp:List Addr}(I:Inv X pins σ H s)(hf:∀b∈fp,FpOk X pins H b)(ho:∀b∈fp,∃o,s.heap.get? b=some o/\∀v,o.data≠.cell v):Inv X (pins++Qim fp s.heap) σ H s:=
 I.pins_of λp hp=>(ZA.mp hp).elim (λz=>I.pin p (JA _ z)) λz=>by
  obtain⟨hb,e⟩:=Ql7 z;obtain⟨f0,f1,f2,_⟩:=hf p.1 hb;obtain⟨o,e',d⟩:=ho p.1 hb;rw[e] at e';cases e';exact⟨e,f0,f1,f2,d⟩
theorem Inv.unpinned{pins pl:List (Addr×Obj)}{σ:St}{H:Hp}{s:Shared}(I:Inv X (pins++pl) σ H s):Inv X pins σ H s:=I.pins_of λp hp=>I.pin p (JA _ (Qkx _ hp))
theorem Qdh{iter:QX}{body:List ZM}{wi:TI}{g:TG}{tb:TS}{pos:Pos}(hp:PassesOwn (model X.prog X.w) X.A X.env X.xe)(hc:X.calm=true)(hi:PI X tg iter wi)(hg:PG X tg g)(hb:PSs X body tb)
  (hs:∀x,foldedSetIterable iter X.env x=pure x:=by intro _;rfl):PS X (.For tg iter body [] pos) (tFor wi g tb):=by
 intro pins s σ H D I h;refine wpAny_For (thn (hi pins s σ H _ I h) λv s1 h1=>thn h1 λitv s2 h2=>?_) hs;obtain⟨it,fp,tn,J,H2,e,I2,T,st2,f2,W,⟨m0,w0⟩,turn⟩:=h2;subst e;have stat:∀{H':Hp},(∀b∈fp,H' b=none)->∀b∈fp,FpOk X pins H' b:=λhn b hb=>⟨hn b hb,(f2 b hb).2⟩
 refine codeAny_forLoop_any (λn s'=>∃i σ' H',Inv X pins σ' H' s'/\tn i s'.heap/\(∀b∈fp,H' b=none)/\W i n σ' H') ?_ m0 ⟨0,σ,H2,I2,st2,λb hb=>(f2 b hb).1,w0⟩
 rintro n s3 ⟨i,σ3,H3,I3,st3,fr3,w3⟩;rcases turn i n σ3 H3 w3 with⟨stop,qn⟩ | ⟨go,N,hN,step⟩
 ·refine Qbc hp (thn (T.done X rfl rfl rfl hc i pins s3 σ3 H3 X.xe I3 (stat fr3) st3 stop) λr s4 ⟨hr,I4⟩=>?_);subst hr;exact Qaa ⟨σ3,H3,I4,qn⟩
 ·refine Qbc hp (thn (T.item X rfl rfl rfl hc i pins s3 σ3 H3 X.xe I3 (stat fr3) st3 go) λr s4 ⟨u,hr,h4⟩=>?_);subst hr;refine Qbc hp (thn h4 λ_ s5 ⟨x,H5,I5,r5,y5,st5,fr5⟩=>?_);have I5':=I5.pinned (stat fr5) (T.obj _ _ st5);refine Qbc hp (thn (hg _ s5 σ3 H5 x u _ I5' r5 (step x H5 y5)) λ_ s6 ⟨σ6,H6,I6,q6⟩=>?_);refine Qbc hp (thn (hb _ s6 σ6 H6 _ I6 q6) λf s7 q7=>?_);have again:∀{σ7:St}{H7:Hp},Inv X (pins++Qim fp s5.heap) σ7 H7 s7->N σ7 H7->∃m,m<n/\∃i σ' H',Inv X pins σ' H' s7/\tn i s7.heap/\(∀b∈fp,H' b=none)/\W i m σ' H':=λ{σ7 H7} I7 n7=>by
   obtain⟨m',hm,w7⟩:=hN σ7 H7 n7;refine⟨m',hm,i+1,σ7,H7,I7.unpinned,T.keep _ _ _ st5 λb hb o e=>(I7.pin (b,o) (JA _ (JA _ (QbE hb e)))).1,λb hb=>?_,w7⟩;obtain⟨o,e,d⟩:=T.obj _ _ st5 b hb;exact(I7.pin (b,o) (JA _ (JA _ (QbE hb e)))).2.1
  cases f with
  |next=>obtain⟨σ7,H7,I7,n7⟩:=q7;exact again I7 n7
  |cont=>obtain⟨σ7,H7,I7,n7⟩:=q7;exact again I7 n7
  |brk=>obtain⟨σ7,H7,I7,q7⟩:=q7;exact⟨σ7,H7,I7.unpinned,q7⟩
  |ret v=>obtain⟨x7,σ7,H7,I7,r7,q7⟩:=q7;exact⟨x7,σ7,H7,I7.unpinned,r7,q7⟩
end
theorem QtJ{K:PySem.W.Frag}{a:Addr}{xs:List V}{g:TG}{tb:TS}{D:Ends}{σ:St}{H:Hp}(Pv:Nat->St->Hp->Prop)(h0:Pv 0 σ H)(hl:∀i σ H,i<=xs.length->Pv i σ H->SqT K H a xs)
  (hs:∀i x σ H,xs[i]? = some x->Pv i σ H->g x σ H λσ2 H2=>tb { D with nx:=Pv (i+1),ct:=Pv (i+1),bk:=D.nx } σ2 H2)(hd:∀σ H,Pv xs.length σ H->D.nx σ H) :
  ∃W:Nat->Nat->St->Hp->Prop,(∃m,W 0 m σ H)/\∀i m σ H,W i m σ H ->
   ((Itt K a).stop i H/\D.nx σ H)∨((Itt K a).go i H/\∃N:St->Hp->Prop,(∀σ' H',N σ' H'->∃m',m'<m/\W (i+1) m' σ' H')/\∀x H',(Itt K a).yld i H x H'->g x σ H' λσ2 H2=>tb { D with nx:=N,ct:=N,bk:=D.nx } σ2 H2):=by
 refine⟨λi m σ H=>m=xs.length - i/\i<=xs.length/\Pv i σ H,⟨xs.length,by simp,Je _,h0⟩,?_⟩;rintro i m σ H ⟨rfl,hi,p⟩;have q:=hl i σ H hi p;by_cases hlt:i<xs.length
 ·refine .inr ⟨⟨xs,xs[i],q,by simp[hlt]⟩,Pv (i+1),λσ' H' p'=>⟨xs.length - (i+1),by omega,rfl,hlt,p'⟩,λx H' y=>?_⟩;obtain⟨e,y⟩:=y;subst e;exact hs i x σ _ (y xs q) p
 ·have e:i=xs.length:=by omega
  subst e;exact .inl ⟨⟨xs,q,Qh _⟩,hd σ H p⟩
theorem Qcw{lo:Int}{n:Nat}{g:TG}{tb:TS}{D:Ends}{σ:St}{H:Hp}(Pv:Nat->St->Hp->Prop)(h0:Pv 0 σ H)
  (hs:∀i σ H,i<n->Pv i σ H->g (.int (lo+i)) σ H λσ2 H2=>tb { D with nx:=Pv (i+1),ct:=Pv (i+1),bk:=D.nx } σ2 H2)(hd:∀σ H,Pv n σ H->D.nx σ H) :
  ∃W:Nat->Nat->St->Hp->Prop,(∃m,W 0 m σ H)/\∀i m σ H,W i m σ H ->
   ((Itr lo n).stop i H/\D.nx σ H)∨((Itr lo n).go i H/\∃N:St->Hp->Prop,(∀σ' H',N σ' H'->∃m',m'<m/\W (i+1) m' σ' H')/\∀x H',(Itr lo n).yld i H x H'->g x σ H' λσ2 H2=>tb { D with nx:=N,ct:=N,bk:=D.nx } σ2 H2):=by
 refine⟨λi m σ H=>m=n - i/\i<=n/\Pv i σ H,⟨n,by simp,Je _,h0⟩,?_⟩;rintro i m σ H ⟨rfl,hi,p⟩;by_cases hlt:i<n
 ·refine .inr ⟨hlt,Pv (i+1),λσ' H' p'=>⟨n - (i+1),by omega,rfl,hlt,p'⟩,λx H' y=>?_⟩;obtain⟨e,y⟩:=y;subst e y;exact hs i σ _ hlt p
 ·have e:i=n:=by omega
  subst e;exact .inl ⟨Qh _,hd σ H p⟩
abbrev R2:=V->V->Hp->VK->Prop
def OpR(X:Cx)(f:Value->Value->Sem Value)(r:R2):Prop:=
 ∀(pins:List (Addr×Obj))(s:Shared)(σ:St)(H:Hp)(x y:V)(v u:Value)(Q:VK),Inv X pins σ H s->RelV x v->RelV y u->r x y H Q ->
  wpAny (model X.prog X.w) X.A (f v u) (EP X pins σ Q) X.xe s
def UnR(X:Cx)(f:Value->Sem Value)(r:V->Hp->VK->Prop):Prop:=
 ∀(pins:List (Addr×Obj))(s:Shared)(σ:St)(H:Hp)(x:V)(v:Value)(Q:VK),Inv X pins σ H s->RelV x v->r x H Q ->
  wpAny (model X.prog X.w) X.A (f v) (EP X pins σ Q) X.xe s
def CallR(X:Cx)(f:Value)(r:List V->Hp->VK->Prop):Prop:=
 ∀(pins:List (Addr×Obj))(s:Shared)(σ:St)(H:Hp)(xs:List V)(us:List Value)(Q:VK),Inv X pins σ H s->Vals xs us->r xs H Q ->
  wpAny (model X.prog X.w) X.A (call f us) (EP X pins σ Q) X.xe s
def QzM(X:Cx)(r:V->Hp->(Bool->Hp->Prop)->Prop):Prop:=
 ∀(pins:List (Addr×Obj))(s:Shared)(σ:St)(H:Hp)(x:V)(v:Value)(Q:Bool->Hp->Prop),Inv X pins σ H s->RelV x v->r x H Q ->
  wpAny (model X.prog X.w) X.A (truthy v) (TP X pins σ Q) X.xe s
def tOp(r:R2)(ta tb:TE):TE:=λσ H Q=>ta σ H λx H1=>tb σ H1 λy H2=>r x y H2 Q
def tUn(r:V->Hp->VK->Prop)(ta:TE):TE:=λσ H Q=>ta σ H λx H1=>r x H1 Q
def rI(C:Int->Int->Prop)(g:Int->Int->V):R2:=λx y H Q=>∃i j,x=.int i/\y=.int j/\C i j/\Q (g i j) H
def rI0(g:Int->Int->V):R2:=λx y H Q=>∃i j,x=.int i/\y=.int j/\Q (g i j) H
def rU(g:Int->V):V->Hp->VK->Prop:=λx H Q=>∃i,x=.int i/\Q (g i) H
section
variable{X:Cx}{a b c:QX}{ta tb tc:TE}{pos:Pos}
theorem QyC(ha:PE X a ta)(hb:PE X b tb){pins:List (Addr×Obj)}{s:Shared}{σ:St}{H:Hp}{R:V->V->Hp->Prop}(I:Inv X pins σ H s)
  (h:ta σ H λx H1=>tb σ H1 λy H2=>R x y H2){Q:Value->Shared->Prop}{f:Value->Value->Sem Value}
  (hf:∀v u s2 x y H2,Inv X pins σ H2 s2->RelV x v->RelV y u->R x y H2->wpAny (model X.prog X.w) X.A (f v u) Q X.xe s2) :
  wpAny (model X.prog X.w) X.A (eval a X.env) (λv s₁=>wpAny (model X.prog X.w) X.A (eval b X.env) (λu s₂=>wpAny (model X.prog X.w) X.A (f v u) Q X.xe s₂) X.xe s₁) X.xe s:=by
 refine thn (ha pins s σ H _ I h) λv s1 ⟨x,H1,I1,r1,q1⟩=>?_
 refine thn (hb pins s1 σ H1 _ I1 q1) λu s2 ⟨y,H2,I2,r2,q2⟩=>?_
 exact hf v u s2 x y H2 I2 r1 r2 q2
theorem pe_op{op:Qff}{r:R2}(ho:OpR X (binaryOp op) r)(ha:PE X a ta)(hb:PE X b tb):PE X (.BinOp a op b pos) (tOp r ta tb):=by
 intro pins s σ H Q I h;exact wpAny_BinOp (QyC ha hb I h λv u s2 x y H2 I2 rx ry q=>ho pins s2 σ H2 x y v u Q I2 rx ry q)
theorem pe_un{op:UnaryOp}{r:V->Hp->VK->Prop}(ho:UnR X (unaryOp op) r)(ha:PE X a ta):PE X (.UnaryOp op a pos) (tUn r ta):=by
 intro pins s σ H Q I h;exact UnaryOp_ (thn (ha pins s σ H _ I h) λv s1 ⟨x,H1,I1,r1,q1⟩=>ho pins s1 σ H1 x v Q I1 r1 q1)
theorem opI{f:Value->Value->Sem Value}{C:Int->Int->Prop}{g:Int->Int->Int}
  (rule:∀(i j:Int)(t u:Tok)(s:Shared)(Q:Value->Shared->Prop)(E:Value->Shared->Prop),C i j->Q (.int (g i j) s.toks) { s with toks:=s.toks+1 }->wpAny (model X.prog X.w) X.A (f (.int i t) (.int j u)) Q E s) :
  OpR X f (rI C λi j=>.int (g i j)):=by
 intro pins s σ H x y v u Q I rx ry h;obtain⟨i,j,rfl,rfl,hc,q⟩:=h;obtain⟨t,rfl⟩:=rx;obtain⟨t',rfl⟩:=ry;exact rule i j t t' s _ _ hc ⟨.int (g i j),H,I.tok _,⟨_,rfl⟩,q⟩
theorem QwZ{f:Value->Value->Sem Value}{g:Int->Int->Int}
  (rule:∀(i j:Int)(t u:Tok)(s:Shared)(Q:Value->Shared->Prop)(E:Value->Shared->Prop),Q (.int (g i j) s.toks) { s with toks:=s.toks+1 }->wpAny (model X.prog X.w) X.A (f (.int i t) (.int j u)) Q E s) :
  OpR X f (rI0 λi j=>.int (g i j)):=by
 intro pins s σ H x y v u Q I rx ry h;obtain⟨i,j,rfl,rfl,q⟩:=h;obtain⟨t,rfl⟩:=rx;obtain⟨t',rfl⟩:=ry;exact rule i j t t' s _ _ ⟨.int (g i j),H,I.tok _,⟨_,rfl⟩,q⟩
theorem Qw0{f:Value->Value->Sem Value}{g:Int->Int->Bool}
  (rule:∀(i j:Int)(t u:Tok)(s:Shared)(Q:Value->Shared->Prop)(E:Value->Shared->Prop),Q (.bool (g i j)) s->wpAny (model X.prog X.w) X.A (f (.int i t) (.int j u)) Q E s) :
  OpR X f (rI0 λi j=>.bl (g i j)):=by
 intro pins s σ H x y v u Q I rx ry h;obtain⟨i,j,rfl,rfl,q⟩:=h;obtain⟨t,rfl⟩:=rx;obtain⟨t',rfl⟩:=ry;exact rule i j t t' s _ _ ⟨.bl (g i j),H,I,rfl,q⟩
def Qzj(i j:Int):Prop:=0<=j/\j<=1000000/\i.natAbs<2^64
def CMul(i j:Int):Prop:=(-(2^64)<i/\i<2^64)∨(-(2^64)<j/\j<2^64)
theorem CMul.ok{i j:Int}(h:CMul i j):IntMulOk i j:=by
 rcases h with⟨h1,h2⟩ | ⟨h1,h2⟩
 ·exact .of_left (intBits_le_64 h1 h2)
 ·exact .of_right (intBits_le_64 h1 h2)
theorem op_add:OpR X (binaryOp .Add) (rI0 λi j=>.int (i+j)):=QwZ λ_ _ _ _ _ _ _ q=>add_int q
theorem QeT:OpR X (binaryOp .Sub) (rI0 λi j=>.int (i - j)):=QwZ λ_ _ _ _ _ _ _ q=>sub_int q
theorem QeU:OpR X (binaryOp .Mult) (rI CMul λi j=>.int (i*j)):=opI λ_ _ _ _ _ _ _ hc q=>mul_int q hc.ok
theorem QeV:OpR X (binaryOp .Mod) (rI (λ_ j=>0<j) λi j=>.int (i % j)):=opI λi j _ _ _ _ _ hc q=>by
 have h1:(0:Int)<j:=hc;exact mod_int' (by omega) (by rw[Int.fmod_eq_emod_of_nonneg i (by omega)];exact q)
theorem QlQ:OpR X (binaryOp .Pow) (rI Qzj λi j=>.int (i^j.toNat)):=opI λ_ _ _ _ _ _ _ hc q=>pow_int_small hc.1 hc.2.1 hc.2.2 q
theorem QlP:OpR X (binaryOp .LShift) (rI Qzj λi j=>.int (i*2^j.toNat)):=opI λ_ _ _ _ _ _ _ hc q=>lshift_int_small hc.1 hc.2.1 hc.2.2 q
theorem QvF:OpR X (binaryOp .BitAnd) (rI0 λi j=>.int (Qce i j)):=QwZ λ_ _ _ _ _ _ _ q=>and_int q
theorem Qya:OpR X (binaryOp .BitOr) (rI0 λi j=>.int (QcK i j)):=QwZ λ_ _ _ _ _ _ _ q=>or_int q
theorem unI{f:Value->Sem Value}{g:Int->Int}
  (rule:∀(i:Int)(t:Tok)(s:Shared)(Q:Value->Shared->Prop)(E:Value->Shared->Prop),Q (.int (g i) s.toks) { s with toks:=s.toks+1 }->wpAny (model X.prog X.w) X.A (f (.int i t)) Q E s) :
  UnR X f (rU λi=>.int (g i)):=by
 intro pins s σ H x v Q I rx h;obtain⟨i,rfl,q⟩:=h;obtain⟨t,rfl⟩:=rx;exact rule i t s _ _ ⟨.int (g i),H,I.tok _,⟨_,rfl⟩,q⟩
theorem un_neg:UnR X (unaryOp .USub) (rU λi=>.int (-i)):=unI λ_ _ _ _ _ q=>neg_int q
end
def scal:V->V->Bool
 |.non,.non=>true | .non,.int _=>true | .int _,.non=>true | .non,.bl _=>true | .bl _,.non=>true | .non,.str _=>true | .str _,.non=>true
 |.int _,.int _=>true | .bl _,.bl _=>true | .str _,.str _=>true | .byt _,.byt _=>true
 |.int _,.str _=>true | .str _,.int _=>true | .bl _,.str _=>true | .str _,.bl _=>true
 |_,_=>false
def rEq:R2:=λx y H Q=>scal x y=true/\Q (.bl (decide (x=y))) H
def rNe:R2:=λx y H Q=>scal x y=true/\Q (.bl (!decide (x=y))) H
theorem QmL{i j:Int}:decide (V.int i=V.int j)=(i == j):=by
 rw[ZC];simp
theorem Qrr{i j:Bool}:decide (V.bl i=V.bl j)=(i == j):=by
 rw[ZC];simp
theorem QmK{i j:Str}:decide (V.str i=V.str j)=(i == j):=by
 rw[ZC];simp
theorem QmM{i j:Array UInt8}:decide (V.byt i=V.byt j)=(i.toList == j.toList):=by
 rw[ZC];cases i;cases j;simp
section
variable{X:Cx}{a b c:QX}{ta tb tc:TE}{pos:Pos}
theorem Zp{pins:List (Addr×Obj)}{σ:St}{H:Hp}{s:Shared}{Q:VK}{k k':Bool}(I:Inv X pins σ H s)(q:Q (.bl k) H)(e:k=k'):EP X pins σ Q (.bool k') s:=by
 subst e;exact⟨.bl k,H,I,rfl,q⟩
theorem Qb3:OpR X (compareOp .Eq) rEq:=by
 intro pins s σ H x y v u Q I rx ry h;obtain⟨hs,q⟩:=h;cases x with
 |non=>
  cases rx;cases y with
  |non=>cases ry;exact PySem.EqNone.eq_none_none (Zp I q (by simp))
  |bl j=>cases ry;exact PySem.EqNone.eq_none_bool (Zp I q (by simp))
  |int j=>obtain⟨t',rfl⟩:=ry;exact PySem.EqNone.eq_none_int (Zp I q (by simp))
  |str j=>obtain⟨t',rfl⟩:=ry;exact PySem.EqNone.eq_none_str (Zp I q (by simp))
  |_=>exact absurd (show false=true from hs) Qp
 |bl i=>
  cases rx;cases y with
  |non=>cases ry;exact PySem.EqNone.eq_bool_none (Zp I q (by simp))
  |bl j=>cases ry;exact eq_bool (Zp I q Qrr)
  |str j=>obtain⟨t',rfl⟩:=ry;exact PySem.EqMixed.eq_bool_str (Zp I q (by simp))
  |_=>exact absurd (show false=true from hs) Qp
 |int i=>
  obtain⟨t,rfl⟩:=rx;cases y with
  |non=>cases ry;exact PySem.EqNone.eq_int_none (Zp I q (by simp))
  |int j=>obtain⟨t',rfl⟩:=ry;exact eq_int (Zp I q QmL)
  |str j=>obtain⟨t',rfl⟩:=ry;exact PySem.EqMixed.eq_int_str (Zp I q (by simp))
  |_=>exact absurd (show false=true from hs) Qp
 |str i=>
  obtain⟨t,rfl⟩:=rx;cases y with
  |non=>cases ry;exact PySem.EqNone.eq_str_none (Zp I q (by simp))
  |bl j=>cases ry;exact PySem.EqMixed.eq_str_bool (Zp I q (by simp))
  |int j=>obtain⟨t',rfl⟩:=ry;exact PySem.EqMixed.eq_str_int (Zp I q (by simp))
  |str j=>obtain⟨t',rfl⟩:=ry;exact eq_str (Zp I q QmK)
  |_=>exact absurd (show false=true from hs) Qp
 |byt i=>
  obtain⟨t,rfl⟩:=rx;cases y with
  |byt j=>obtain⟨t',rfl⟩:=ry;exact PySem.W.eq_bytes (Zp I q QmM)
  |_=>exact absurd (show false=true from hs) Qp
 |_=>cases y<;>exact absurd (show false=true from hs) Qp
theorem QlT:OpR X (compareOp .NotEq) rNe:=by
 intro pins s σ H x y v u Q I rx ry h;obtain⟨hs,q⟩:=h;cases x with
 |non=>
  cases rx;cases y with
  |non=>cases ry;exact PySem.EqNone.ne_none_none (Zp I q (by simp))
  |bl j=>cases ry;exact PySem.EqNone.ne_none_bool (Zp I q (by simp))
  |int j=>obtain⟨t',rfl⟩:=ry;exact PySem.EqNone.ne_none_int (Zp I q (by simp))
  |str j=>obtain⟨t',rfl⟩:=ry;exact PySem.EqNone.ne_none_str (Zp I q (by simp))
  |_=>exact absurd (show false=true from hs) Qp
 |bl i=>
  cases rx;cases y with
  |non=>cases ry;exact PySem.EqNone.ne_bool_none (Zp I q (by simp))
  |bl j=>cases ry;exact ne_bool (Zp I q (congrArg not Qrr))
  |str j=>obtain⟨t',rfl⟩:=ry;exact PySem.EqMixed.ne_bool_str (Zp I q (by simp))
  |_=>exact absurd (show false=true from hs) Qp
 |int i=>
  obtain⟨t,rfl⟩:=rx;cases y with
  |non=>cases ry;exact PySem.EqNone.ne_int_none (Zp I q (by simp))
  |int j=>obtain⟨t',rfl⟩:=ry;exact ne_int (Zp I q (congrArg not QmL))
  |str j=>obtain⟨t',rfl⟩:=ry;exact PySem.EqMixed.ne_int_str (Zp I q (by simp))
  |_=>exact absurd (show false=true from hs) Qp
 |str i=>
  obtain⟨t,rfl⟩:=rx;cases y with
  |non=>cases ry;exact PySem.EqNone.ne_str_none (Zp I q (by simp))
  |bl j=>cases ry;exact PySem.EqMixed.ne_str_bool (Zp I q (by simp))
  |int j=>obtain⟨t',rfl⟩:=ry;exact PySem.EqMixed.ne_str_int (Zp I q (by simp))
  |str j=>obtain⟨t',rfl⟩:=ry;exact ne_str (Zp I q (congrArg not QmK))
  |_=>exact absurd (show false=true from hs) Qp
 |byt i=>
  obtain⟨t,rfl⟩:=rx;cases y with
  |byt j=>obtain⟨t',rfl⟩:=ry;exact PySem.W.ne_bytes (Zp I q (congrArg not QmM))
  |_=>exact absurd (show false=true from hs) Qp
 |_=>cases y<;>exact absurd (show false=true from hs) Qp
theorem Qjr:OpR X (compareOp .Lt) (rI0 λi j=>.bl (decide (i<j))):=Qw0 λ_ _ _ _ _ _ _ q=>lt_int q
theorem Qoz:OpR X (compareOp .LtE) (rI0 λi j=>.bl (decide (i<=j))):=Qw0 λ_ _ _ _ _ _ _ q=>le_int q
theorem Qs7:OpR X (compareOp .Gt) (rI0 λi j=>.bl (decide (j<i))):=Qw0 λ_ _ _ _ _ _ _ q=>gt_int q
theorem Qyb:OpR X (compareOp .GtE) (rI0 λi j=>.bl (decide (j<=i))):=Qw0 λ_ _ _ _ _ _ _ q=>ge_int q
theorem Qre:OpR X (compareOp .Is) (λx y H Q=>y=.non/\Q (.bl (decide (x=.non))) H):=by
 intro pins s σ H x y v u Q I rx ry h;obtain⟨rfl,q⟩:=h;cases ry;refine is_none_gen (Zp I q ?_);cases x<;>first
  |(cases rx;rfl)
  |(obtain⟨t,rfl⟩:=rx;rfl)
def isObj:HO->Bool
 |.lst _=>true
 |.ins _ _ _=>true
 |_=>false
theorem obj_there{pins:List (Addr×Obj)}{s:Shared}{σ:St}{H:Hp}{a:Addr}{o:HO}(I:Inv X pins σ H s)(h:H a=some o)(p:isObj o=true):∃ob,s.heap.get? a=some ob/\ob.cls≠.type "tuple" := by
 cases o with
 |lst xs=>
  obtain⟨_,its,n,_,e⟩:xs.length<=sizeLine/\∃(its:List Value)(n:Nat),Vals xs its/\s.heap.get? a=some { cls:=.type "list",data:=.seq its.toArray n }:=I.hok a _ h
  exact⟨_,e,(by show Y3 "list" ≠ .type "tuple";decide +kernel)⟩
 |ins C dx fs=>
  have x:=I.hok a _ h;obtain⟨_,_,_,e,_⟩:=x;exact⟨_,e,(by show QQ C≠.type "tuple";exact λz=>by cases z)⟩
 |_=>exact absurd (show false=true from p) Qp
theorem OpR.or{f:Value->Value->Sem Value}{r r':R2}(h:OpR X f r)(h':OpR X f r'):OpR X f (λx y H Q=>r x y H Q∨r' x y H Q):=by
 intro pins s σ H x y v u Q I rx ry q;rcases q with q | q
 ·exact h pins s σ H x y v u Q I rx ry q
 ·exact h' pins s σ H x y v u Q I rx ry q
theorem JN(b:QX){op:QrK}(h:op≠.In:=by decide)(h2:op≠.NotIn:=by decide):behindInMarks op b=false:=by
 have e1:(op == CmpOp.In)=false:=by cases op<;>first | rfl | exact absurd rfl h
 have e2:(op == CmpOp.NotIn)=false:=by cases op<;>first | rfl | exact absurd rfl h2
 cases b<;>simp[behindInMarks,e1,e2]
theorem Qbr{op:QrK}{r:R2}(ho:OpR X (compareOp op) r)(ha:PE X a ta)(hb:PE X b tb)(hm:behindInMarks op b=false):PE X (.Compare a [op] [b] pos) (tOp r ta tb):=by
 intro pins s σ H Q I h;exact wpAny_Compare1 (QyC ha hb I h λv u s2 x y H2 I2 rx ry q=>ho pins s2 σ H2 x y v u Q I2 rx ry q) hm
def QkN(t:TE):TT:=λσ H Q=>t σ H λx H'=>∃k,x=.bl k/\Q k H'
theorem ZS{op:QrK}{r:R2}(ho:OpR X (compareOp op) r)(ha:PE X a ta)(hb:PE X b tb)(hm:behindInMarks op b=false):PT X (.Compare a [op] [b] pos) (QkN (tOp r ta tb)):=by
 intro pins s σ H Q I h;refine wpAny_isTrue_Compare1 (thn (ha pins s σ H _ I h) λv s1 ⟨x,H1,I1,r1,q1⟩=>thn (hb pins s1 σ H1 _ I1 q1) λu s2 ⟨y,H2,I2,r2,q2⟩=>
  thn (ho pins s2 σ H2 x y v u _ I2 r1 r2 q2) λc s3 ⟨z,H3,I3,r3,k,e,q3⟩=>?_) hm
 subst e;cases r3;exact Z6 ⟨H3,I3,q3⟩
def QpU(r r':R2)(ta tb tc:TE):TE:=λσ H Q=>ta σ H λx H1=>tb σ H1 λy H2=>r x y H2 λz H3=>∃k,z=.bl k /\
 (if k=true then tc σ H3 λw' H4=>r' y w' H4 Q else Q (.bl false) H3)
theorem Qoe{op op':QrK}{r r':R2}(ho:OpR X (compareOp op) r)(ho':OpR X (compareOp op') r')(ha:PE X a ta)(hb:PE X b tb)(hc:PE X c tc)
  (hm:lastMarks [op,op'] [b,c]=false:=by with_unfolding_all rfl):PE X (.Compare a [op,op'] [b,c] pos) (QpU r r' ta tb tc):=by
 intro pins s σ H Q I h;refine Compare_chain (thn (ha pins s σ H _ I h) λv s1 ⟨x,H1,I1,r1,q1⟩=>chain_link (thn (hb pins s1 σ H1 _ I1 q1) λu s2 ⟨y,H2,I2,r2,q2⟩=>
  thn (ho pins s2 σ H2 x y v u _ I2 r1 r2 q2) λd s3 ⟨z,H3,I3,r3,k,e,q3⟩=>?_)) hm
 subst e;cases r3;refine Z6 ?_
 cases k with
 |false=>exact ite_ff ⟨.bl false,H3,I3,rfl,q3⟩
 |true=>exact ite_tt (chain_last (thn (hc pins s3 σ H3 _ I3 q3) λw' s4 ⟨z',H4,I4,r4,q4⟩=>ho' pins s4 σ H4 y z' u w' Q I4 r2 r4 q4))
def QyG(K:PySem.W.Frag)(x:V)(H:Hp)(k:Bool):Prop:=
 match x with
 |.non=>k=false
 |.bl b=>k=b
 |.int i=>k=(i != 0)
 |.str y=>y.length<=sizeLine/\k=((y.length:Int) != 0)
 |.byt y=>y.size<=sizeLine/\k=((y.size:Int) != 0)
 |.ref p=>(∃xs,SqL K H p xs/\k = !xs.isEmpty)∨(∃xs,SqT K H p xs/\k = !xs.isEmpty)∨∃kvs,H p=some (.dK kvs)/\k = !kvs.isEmpty
 |_=>False
theorem QjI{κ:Type}{kvs:List (κ×V)}{vs:List (κ×Value)}(r:KV kvs vs):(!vs.isEmpty) = !kvs.isEmpty:=by
 cases r<;>rfl
theorem Qe1{xs:List V}{its:List Value}(r:Vals xs its):(!its.toArray.isEmpty) = !xs.isEmpty:=by
 cases r<;>simp
theorem QeY:(sizeLine:Nat)<2^63:=by rw[ZW];decide
theorem QuH:QzM X (λx H Q=>∃k,QyG X.K x H k/\Q k H):=by
 intro pins s σ H x v Q I rx h;obtain⟨k,e,q⟩:=h;have hl:=QeY;have hs:sizeLine=16777216:=ZW;cases x with
 |non=>
  cases rx;have e':k=false:=e;subst e';exact truthy_none ⟨H,I,q⟩
 |bl b=>
  cases rx;have e':k=b:=e;subst e';exact Z6 ⟨H,I,q⟩
 |int i=>
  obtain⟨t,rfl⟩:=rx;have e':k=(i != 0):=e;subst e';exact PySem.P.truthy_int ⟨H,I,q⟩
 |str y=>
  obtain⟨t,rfl⟩:=rx;obtain⟨hy,e'⟩:y.length<=sizeLine/\k=((y.length:Int) != 0):=e;subst e';exact PySem.P.truthy_str (by omega) ⟨H,I.tok _,q⟩
 |byt y=>
  obtain⟨t,rfl⟩:=rx;obtain⟨hy,e'⟩:y.size<=sizeLine/\k=((y.size:Int) != 0):=e;subst e';exact PySem.W.truthy_bytes (by omega) ⟨H,I.tok _,q⟩
 |ref p=>
  cases rx;have e':(∃xs,SqL X.K H p xs/\k = !xs.isEmpty)∨(∃xs,SqT X.K H p xs/\k = !xs.isEmpty)∨∃kvs,H p=some (.dK kvs)/\k = !kvs.isEmpty:=e
  rcases e' with⟨xs,hx,e'⟩ | ⟨xs,hx,e'⟩ | ⟨kvs,hx,e'⟩
  ·subst e';obtain⟨its,r,pl,hz⟩:=I.list hx;have hlen:=r.length;exact wpAny_truthy_list pl.isList (by simp only[Qk];omega) ⟨H,I.tok _,by rw[Qe1 r];exact q⟩
  ·subst e';obtain⟨its,r,pl,hz⟩:=I.tuple hx;have hlen:=r.length;exact truthy_tuple pl (by simp only[Qk];omega) ⟨H,I.tok _,by rw[Qe1 r];exact q⟩
  ·subst e';obtain⟨hz,hS,vs,r,m⟩:kvs.length<=sizeLine/\(p == sysModules)=false/\∃vs,KV kvs vs/\s.heap.DictOf (mixKind X.prog X.w) p vs:=I.hok p _ hx
   have hlen:kvs.length=vs.length:=Qc7 r;exact wpAny_truthy_dict hS m (by omega) ⟨H,I.tok _,by rw[QjI r];exact q⟩
 |_=>exact(show False from e).elim
theorem QfH(ha:PE X a ta)(he:∀whole,isTrue a X.env whole=(do let v <- whole;standAt a.pos;holding [v] (truthy v))) :
  PT X a (λσ H Q=>ta σ H λx H'=>∃k,QyG X.K x H' k/\Q k H'):=by
 intro pins s σ H Q I h;exact isTrue_plain (thn (ha pins s σ H _ I h) λv s1 ⟨x,H1,I1,r1,q1⟩=>QuH pins s1 σ H1 x v Q I1 r1 q1) (he _)
theorem vals1{x:V}{us:List Value}(r:Vals [x] us):∃u,us=[u]/\RelV x u:=by
 cases r with
 |cons r1 r2=>cases r2;exact⟨_,rfl,r1⟩
theorem vals2{x y:V}{us:List Value}(r:Vals [x,y] us):∃u w',us=[u,w']/\RelV x u/\RelV y w':=by
 cases r with
 |cons r1 r2=>
  cases r2 with
  |cons r3 r4=>cases r4;exact⟨_,_,rfl,r1,r3⟩
theorem QmZ(hc:X.calm=true):CallR X (.builtin "max") (λxs H Q=>∃i j,xs=[.int i,.int j]/\Q (.int (if j > i then j else i)) H):=by
 intro pins s σ H xs us Q I r h;obtain⟨i,j,rfl,q⟩:=h;obtain⟨u,w',rfl,⟨t,rfl⟩,⟨t',rfl⟩⟩:=vals2 r;refine max_two_ints (I.ok.hd hc) λh' tk k=>⟨_,H,I.kept k,?_,q⟩
 by_cases hj:j > i
 ·rw[if_pos hj,if_pos hj];exact⟨_,rfl⟩
 ·rw[if_neg hj,if_neg hj];exact⟨_,rfl⟩
theorem call_min2(hc:X.calm=true):CallR X (.builtin "min") (λxs H Q=>∃i j,xs=[.int i,.int j]/\Q (.int (if j<i then j else i)) H):=by
 intro pins s σ H xs us Q I r h;obtain⟨i,j,rfl,q⟩:=h;obtain⟨u,w',rfl,⟨t,rfl⟩,⟨t',rfl⟩⟩:=vals2 r;refine min_two_ints (I.ok.hd hc) λh' tk k=>⟨_,H,I.kept k,?_,q⟩
 by_cases hj:j<i
 ·rw[if_pos hj,if_pos hj];exact⟨_,rfl⟩
 ·rw[if_neg hj,if_neg hj];exact⟨_,rfl⟩
theorem QgX:CallR X (.type "int") (λxs H Q=>(∃i,xs=[.int i]/\Q (.int i) H)∨∃k,xs=[.bl k]/\Q (.int (if k then 1 else 0)) H):=by
 intro pins s σ H xs us Q I r h;rcases h with⟨i,rfl,q⟩ | ⟨k,rfl,q⟩
 ·obtain⟨u,rfl,t,rfl⟩:=vals1 r;exact call_int_int ⟨.int i,H,I,⟨_,rfl⟩,q⟩
 ·obtain⟨u,rfl,r1⟩:=vals1 r;cases r1;exact call_int_bool ⟨.int (if k then 1 else 0),H,I.tok _,⟨_,rfl⟩,q⟩
end
structure ObjM (h:JR) (x dx C:Addr) (mA:Str->Option Value):Prop where
 obj:h.get? x=some (PySem.W.instObj C dx)
 ns:h.Ns1 dx mA
 ne:dx≠x
theorem Qmk{h:JR}{dx:Addr}{mA:Str->Option Value}(n:h.Ns1 dx mA):∃od,h.get? dx=some od/\∀name,PySem.W.lookIn name od=some (mA name):=by
 obtain⟨o,es,ep,ho,hd,hk,_,hm⟩:=n;refine⟨o,ho,λname=>?_⟩;have e:=hm name;unfold nsFind findBy at e;rw[<- Array.find?_toList] at e;unfold PySem.W.lookIn;rw[hd]
 dsimp only
 split
 ·rename_i y q
  rw[q] at e;exact congrArg some e
 ·rename_i q
  rw[q] at e;have a:es.toList.any (·.refKey)=false:=by
   rw[QpJ];intro y hy;obtain⟨z,t,hkey⟩:=hk y (Qck.mp hy);simp[DictEntry.refKey,hkey]
  have a':¬es.toList.any (·.refKey)=true:=by rw[a];exact Qp
  rw[if_neg a'];exact congrArg some e
theorem ObjM.look{h:JR}{x dx C:Addr}{mA:Str->Option Value}(I:ObjM h x dx C mA):∃od,PySem.W.InstAt h x (PySem.W.instObj C dx) C (some od)/\∀name,PySem.W.lookIn name od=some (mA name):=
 let ⟨od,ho,hl⟩:=Qmk I.ns
 ⟨od,⟨I.obj,rfl,rfl,ho⟩,hl⟩
section
variable{prog:Qw}{w:Ja}{A:Q9}{E:Value->Shared->Prop}{s:Shared}{K:PySem.W.Frag}{x dx C f:Addr}{mA:Str->Option Value}{name:Str}{v:Value}
theorem QtH{expr:Bool}{Q:Value->Shared->Prop}(X:K.In s.heap)(I:ObjM s.heap x dx C mA)(hg:PySem.W.plainGet K C name=true)(hh:PySem.W.hasDictIn K C=true)
  (ha:PySem.W.findIn K (.ref C) name=some none)(hv:mA name=some v)(hv':PySem.W.handedIn v=true)(h:Q v { s with toks:=s.toks+1 }) :
  wpAny (model prog w) A (getAttr (.ref x) name expr) Q E s:=by
 obtain⟨od,J,hl⟩:=I.look;exact PySem.W.get_value X J (PySem.W.plainGet_of hg).1 (PySem.W.findObj_own hh ha rfl (by rw[hl,hv])) hv' h
theorem Qo7{pl:Sem Bool}{Q:Value×List Value->Shared->Prop}(X:K.In s.heap)(I:ObjM s.heap x dx C mA)(hg:PySem.W.plainGet K C name=true)
  (hf:PySem.W.findIn K (.ref C) name=some (some (.ref f)))(ht:PySem.W.isFn K (.ref f)=true)(hv:mA name=none)(h:Q (.ref f,[.ref x]) s) :
  wpAny (model prog w) A (getMethod (.ref x) name pl) Q E s:=by
 obtain⟨od,J,hl⟩:=I.look;exact PySem.W.method_fn X J (PySem.W.plainGet_of hg).1 (PySem.W.plainGet_of hg).2 hf (beq_iff_eq.mp ht) (by show(PySem.W.lookIn name od).map (·.isSome)=some false;rw[hl,hv];rfl) h
theorem Qr4{ns:List Str}{Q:Unit->Shared->Prop}(X:K.In s.heap)(I:ObjM s.heap x dx C mA)
  (hs:PySem.W.findIn K (.ref C) "__setattr__" = some (some (.builtin "object.__setattr__")))(hp:PySem.W.plainOver K C=true)(ht:PySem.W.takerIn K C name=some none)(hh:PySem.W.hasDictIn K C=true)
  (hw:PySem.Within mA ns)(hsz:ns.length<=sizeLine)
  (h:∀h',ObjM h' x dx C (λy=>if y=name then some v else mA y)->ZH dx s.heap h'->Q () { s with heap:=h',toks:=s.toks+2 }) :
  wpAny (model prog w) A (setAttr (.ref x) name v) Q E s:=by
 obtain⟨od,J,hl⟩:=I.look;refine PySem.W.set_plain X J hs (PySem.W.osa_open (s:={ s with toks:=s.toks+1 }) (r:=none) X J hp ht λb=>?_);obtain⟨cd,hc,hd'⟩:=PySem.W.any_some hh;have hx:s.heap.get? x=some ⟨.ref C,some dx,.plain,#[]⟩:=I.obj;refine wpAny_bind (Qf (wpAny_bind (wpAny_bind (Qkm hx (wpAny_bind (PySem.W.Looks.here (s:={ s with toks:=s.toks+1 }) (PySem.W.looks_clsIn X hc) ?_))))));rw[hd'];refine Qf (a:=some dx) (wpAny_bind (Qf (wpAny_bind ?_)));refine wpAny_nsSet1 (s:={ s with toks:=s.toks+1 }) I.ns λh' hn2 hs2=>?_
 obtain⟨oD,esD,epD,hoD,hdD,hcD⟩:=hn2.count (PySem.Within.cons name v hw);refine wpAny_bind (wpAny_lookBehind hoD (by rw[hdD];exact pastItsLine_dict (QL hcD (by rw[QV];omega))) ?_);exact Qf (h _ ⟨(hs2.2 _ (Y2 I.ne)).trans I.obj,hn2,I.ne⟩ hs2)
theorem QoV{R:Result->Shared->Prop}{vs:List Value}{kw:List (Str×Value)}(X:K.In s.heap)(hm:PySem.W.makesIn K C=true)
  (hi:PySem.W.findIn K (.ref C) "__init__" = some (some (.ref f)))(hf:PySem.W.typeIn K (.ref f)=some (.type "function"))
  (h:codeAny (model prog w) (A.under (.builtin "type.__call__" ⟨.ref C::vs,kw⟩)) (.call (.ref f) ⟨.ref (s.heap.objs.size+1)::vs,kw⟩) (PySem.W.InitBack (s.heap.objs.size+1) R)
   { s with heap:=(s.heap.push PySem.W.emptyDict).push (PySem.W.instObj C s.heap.objs.size) }) :
  codeAny (model prog w) A (.call (.ref C) ⟨vs,kw⟩) R s:=by
 obtain⟨hh,g,d,t,os⟩:=s;exact PySem.W.make_core (PySem.W.makes_of X hm) (PySem.W.looks_findIn X hi) (λself=>PySem.W.bind_fn X self hf) (.inl rfl) h
end
def QcT(f:Str)(v:V):List (Str×V)->List (Str×V)
 |[]=>[(f,v)]
 |(g,x)::r=>if g=f then(g,v)::r else(g,x)::QcT f v r
theorem Yv(f g:Str)(v:V):∀fs:List (Str×V),(QcT f v fs).lookup g=if g=f then some v else fs.lookup g
 |[]=>by
  show Z3 g [(f,v)]=_;by_cases h:g=f
  ·have hb:(g == f)=true:=beq_iff_eq.mpr h;simp only[Z3,hb,if_pos h]
  ·have hb:(g == f)=false:=beq_eq_false_iff_ne.mpr h;simp only[Z3,hb,if_neg h]
 |(k,x)::r=>by
  have ih:=Yv f g v r;rw[show QcT f v ((k,x)::r)=(if k=f then(k,v)::r else(k,x)::QcT f v r) from rfl];by_cases hk:k=f
  ·rw[if_pos hk];by_cases h:g=k
   ·have hb:(g == k)=true:=beq_iff_eq.mpr h;simp only[Z3,hb,if_pos (h.trans hk)]
   ·have hb:(g == k)=false:=beq_eq_false_iff_ne.mpr h;simp only[Z3,hb,if_neg (λe:g=f=>h (e.trans hk.symm))]
  ·rw[if_neg hk];by_cases h:g=k
   ·have hb:(g == k)=true:=beq_iff_eq.mpr h;simp only[Z3,hb,if_neg (λe:g=f=>hk (h.symm.trans e))]
   ·have hb:(g == k)=false:=beq_eq_false_iff_ne.mpr h;simp only[Z3,hb];exact ih
theorem Qd4(f:Str)(v:V):∀fs:List (Str×V),f∈(QcT f v fs).map (·.1)/\∀g,g∈fs.map (·.1)->g∈(QcT f v fs).map (·.1)
 |[]=>⟨by simp[QcT],λg h=>by simp at h⟩
 |(k,x)::r=>by
  obtain⟨i1,i2⟩:=Qd4 f v r;rw[show QcT f v ((k,x)::r)=(if k=f then(k,v)::r else(k,x)::QcT f v r) from rfl];by_cases hk:k=f
  ·rw[if_pos hk];subst hk;exact⟨by simp,λg h=>by simpa using h⟩
  ·rw[if_neg hk];refine⟨?_,λg h=>?_⟩
   ·rw[JQ];exact Jm _ i1
   ·rw[JQ] at h ⊢;rcases Qz.mp h with e | e
    ·exact Qz.mpr (.inl e)
    ·exact Jm _ (i2 g e)
theorem Qd3(f:Str)(v:V):∀fs:List (Str×V),(QcT f v fs).length<=fs.length+1
 |[]=>by simp[QcT]
 |(k,x)::r=>by
  have ih:=Qd3 f v r;rw[show QcT f v ((k,x)::r)=(if k=f then(k,v)::r else(k,x)::QcT f v r) from rfl];by_cases hk:k=f
  ·rw[if_pos hk,QV,QV];omega
  ·rw[if_neg hk,QV,QV];omega
theorem RelO.some_of{v:V}{o:Option Value}(r:RelO (some v) o):∃u,o=some u/\RelV v u:=by
 cases o with
 |none=>exact(show False from r).elim
 |some u=>exact⟨u,rfl,r⟩
theorem RelO.none_of{o:Option Value}(r:RelO none o):o=none:=by
 cases o with
 |none=>rfl
 |some u=>exact(show False from r).elim
theorem QmB{v:V}{u:Value}(r:RelV v u):PySem.W.handedIn u=true:=by
 cases v with
 |non=>cases(show u=Q6 from r);rfl
 |bl b=>cases(show u=Zt b from r);rfl
 |int i=>obtain⟨t,e⟩:=(show ∃t,u=QbT i t from r);cases e;rfl
 |str x=>obtain⟨t,e⟩:=(show ∃t,u=Qdq x t from r);cases e;rfl
 |byt b=>obtain⟨t,e⟩:=(show ∃t,u=Qxi b t from r);cases e;rfl
 |flt b=>obtain⟨t,e⟩:=(show ∃t,u=Qko b t from r);cases e;rfl
 |ref a=>cases(show u=QQ a from r);rfl
 |ty n=>cases(show u=Y3 n from r);rfl
section
variable{P:Qw}{w:Ja}{H H':Hp}{h h':JR}{a C dx:Addr}{fs fs':List (Str×V)}
theorem QfR(hok:HOk P w H h)(e:H a=some (.ins C dx fs)):∃mA,ObjM h a dx C mA/\(∀f,RelO (fs.lookup f) (mA f))/\PySem.Within mA (fs.map (·.1))/\fs.length<=1000/\H dx=some (.own a):=by
 obtain⟨d,z,ne,ob,mA,n,r,q⟩:=(show ObjOk P w H h a (.ins C dx fs) from hok a _ e);exact⟨mA,⟨ob,n,ne⟩,r,q,z,d⟩
end
structure Cls (K:PySem.W.Frag) (C:Addr):Prop where
 pg:PySem.W.plainGet K C Str.empty=true
 hd:PySem.W.hasDictIn K C=true
 po:PySem.W.plainOver K C=true
 sa:PySem.W.findIn K (.ref C) "__setattr__" = some (some (.builtin "object.__setattr__"))
theorem Cls.get{K:PySem.W.Frag}{C:Addr}(c:Cls K C)(f:Str):PySem.W.plainGet K C f=true:=c.pg
def NoAttr(K:PySem.W.Frag)(C:Addr)(f:Str):Prop:=PySem.W.findIn K (.ref C) f=some none
theorem NoAttr.taker{K:PySem.W.Frag}{C:Addr}{f:Str}(n:NoAttr K C f):PySem.W.takerIn K C f=some none:=by
 unfold PySem.W.takerIn;rw[show PySem.W.findIn K (.ref C) f=some none from n];rfl
structure Meth (K:PySem.W.Frag) (C:Addr) (m:Str) (f:Addr):Prop where
 at_:PySem.W.findIn K (.ref C) m=some (some (.ref f))
 fn:PySem.W.isFn K (.ref f)=true
 kp:PySem.W.keepIn K (.ref f)=true
section
variable{X:Cx}{pins:List (Addr×Obj)}{σ:St}{H:Hp}{s:Shared}{a C dx:Addr}{fs:List (Str×V)}{f:Str}{v:V}{A:Q9}{E:Value->Shared->Prop}
theorem QjO{b:Bool}{Q:Value->Shared->Prop}(I:Inv X pins σ H s)(e:H a=some (.ins C dx fs))(c:Cls X.K C)(n:NoAttr X.K C f)(l:fs.lookup f=some v)
  (h:∀u s',Inv X pins σ H s'->RelV v u->Q u s'):wpAny (model X.prog X.w) A (getAttr (.ref a) f b) Q E s:=by
 obtain⟨mA,O,r,_,_,_⟩:=QfR I.hok e;obtain⟨u,hu,ru⟩:=RelO.some_of (v:=v) (o:=mA f) (by rw[<- l];exact r f);exact QtH I.kIn O (c.get f) c.hd n hu (QmB ru) (h u _ (I.tok _) ru)
theorem QbG{m:Str}{g:Addr}{pl:Sem Bool}{Q:Value×List Value->Shared->Prop}(I:Inv X pins σ H s)(e:H a=some (.ins C dx fs))(c:Cls X.K C)(k:Meth X.K C m g)(l:fs.lookup m=none)
  (h:Q (.ref g,[.ref a]) s):wpAny (model X.prog X.w) A (getMethod (.ref a) m pl) Q E s:=by
 obtain⟨mA,O,r,_,_,_⟩:=QfR I.hok e;have hn:mA m=none:=RelO.none_of (by rw[<- l];exact r m);exact Qo7 I.kIn O (c.get m) k.at_ k.fn hn h
theorem Qjc{y:V}{u:Value}{Q:Unit->Shared->Prop}(I:Inv X pins σ H s)(e:H a=some (.ins C dx fs))(c:Cls X.K C)(n:NoAttr X.K C f)(hl:fs.length<1000)(ry:RelV y u)
  (h:∀s',Inv X pins σ (upd H a (.ins C dx (QcT f y fs))) s'->Q () s'):wpAny (model X.prog X.w) A (setAttr (.ref a) f u) Q E s:=by
 obtain⟨mA,O,r,wi,_,ho⟩:=QfR I.hok e;have hz:(fs.map (·.1)).length<=sizeLine:=by rw[Qg,ZW];omega
 refine Qr4 I.kIn O c.sa c.po n.taker c.hd wi hz λh' O' sb=>h _ ?_
 have hd:∃o,h'.get? dx=some o:=let ⟨o,_,_,e',_⟩:=O'.ns;⟨o,e'⟩
 refine I.write (x:=a) (e:=dx) (by rw[e];exact Ju) (.inr ho) (λb q hb z=>(sb.2 b hb).trans z) hd ?_
 refine⟨by rw[QU O.ne];exact ho,?_,O.ne,O'.obj,_,O'.ns,λg=>?_,λg hg=>?_⟩
 ·have:=Qd3 f y fs;omega
 ·show RelO ((QcT f y fs).lookup g) (if g=f then some u else mA g);rw[Yv];by_cases q:g=f
  ·rw[if_pos q,if_pos q];exact ry
  ·rw[if_neg q,if_neg q];exact r g
 ·by_cases q:g=f
  ·rw[q];exact(Qd4 f y fs).1
  ·refine(Qd4 f y fs).2 g (wi g λz=>hg ?_);show(if g=f then some u else mA g)=none;rw[if_neg q];exact z
theorem Inv.made(I:Inv X pins σ H s):Inv X pins σ (upd (upd H s.heap.objs.size (.own (s.heap.objs.size+1))) (s.heap.objs.size+1) (.ins C s.heap.objs.size []))
  { s with heap:=(s.heap.push PySem.W.emptyDict).push (PySem.W.instObj C s.heap.objs.size) }:=by
 have e1:(s.heap.push PySem.W.emptyDict).get? s.heap.objs.size=some PySem.W.emptyDict:=Qs s.heap rfl;have e2:((s.heap.push PySem.W.emptyDict).push (PySem.W.instObj C s.heap.objs.size)).get? (s.heap.objs.size+1)=some (PySem.W.instObj C s.heap.objs.size):=by
  have:=Qs (s.heap.push PySem.W.emptyDict) (o:=PySem.W.instObj C s.heap.objs.size) rfl
  rwa [Z7] at this
 have e3:(s.heap.push PySem.W.emptyDict).Ns s.heap.objs.size (λ_=>none):=⟨PySem.W.emptyDict,#[],_,e1,rfl,(λe he=>absurd he (by simp)),λ_=>rfl⟩;have I1:=I.laid (a:=s.heap.objs.size) (o:=.own (s.heap.objs.size+1)) (h':=s.heap.push PySem.W.emptyDict) (t':=s.toks) (λb u q=>Qd _ q) (Qh _) ⟨_,e1⟩;refine I1.laid (a:=s.heap.objs.size+1) (o:=.ins C s.heap.objs.size []) (t':=s.toks) (λb u q=>Qd _ q) (Qah (Z7 _ _)) ?_
 have ne:s.heap.objs.size≠s.heap.objs.size+1:=Qx (Qum _);refine⟨by rw[QU ne,upd_same],Je _,ne,e2,λ_=>none,(Heap.Ns1.of_empty e3).at λo q=>Qd _ q,λ_=>Ju,λy hy=>absurd rfl hy⟩
theorem Quc{prog:Qw}{w:Ja}{env:Env}{e:QX}{f:Str}{pos:Pos}{s:Shared}{Q:Value->Shared->Prop}(hb:attributeBase e f env (eval e env)=eval e env)
  (h:wpAny (model prog w) A (eval e env) (λo s₁=>wpAny (model prog w) A (getAttr o f true) Q E s₁) E s):wpAny (model prog w) A (eval (.Attribute e f pos) env) Q E s:=
 Attribute_any_ h (by rw[arm_eval_Attribute,hb])
end
def Qzq(K:PySem.W.Frag)(ta:TE)(f:Str):TE:=λσ H Q=>ta σ H λx H1=>∃a C dx fs v,x=.ref a/\H1 a=some (.ins C dx fs)/\Cls K C/\NoAttr K C f/\fs.lookup f=some v/\Q v H1
def Qzs(K:PySem.W.Frag)(ta tv:TE)(f:Str):TS:=λD σ H=>tv σ H λy H1=>ta σ H1 λx H2=>∃a C dx fs,x=.ref a/\H2 a=some (.ins C dx fs)/\Cls K C/\NoAttr K C f/\fs.length<1000 /\
 D.nx σ (upd H2 a (.ins C dx (QcT f y fs)))
section
variable{X:Cx}{o e value:QX}{f:Str}{pos pos' tpos:Pos}{ta tv:TE}
theorem Qap(he:PE X e ta)(hb:attributeBase e f X.env (eval e X.env)=eval e X.env):PE X (.Attribute e f pos) (Qzq X.K ta f):=by
 intro pins s σ H Q I h;refine Quc hb (thn (he pins s σ H _ I h) λu s1 ⟨x,H1,I1,rx,a,C,dx,fs,v,ex,ea,c,n,l,q⟩=>?_);subst ex;obtain rfl:u=QQ a:=rx;exact QjO I1 ea c n l λu' s2 I2 ru=>⟨v,H1,I2,ru,q⟩
theorem Qik(ha:PE X o ta)(hv:PE X value tv)(hs:swapsWith value (some (.Attribute o f pos')) pos.line X.env=pure false):PS X (.Assign [.Attribute o f pos'] value pos) (Qzs X.K ta tv f):=by
 intro pins s σ H D I h;refine plainObj_wpAny_Assign_Attribute (thn (hv pins s σ H _ I h) λu s1 ⟨y,H1,I1,ry,q⟩=>thn (ha pins s1 σ H1 _ I1 q) λov s2 ⟨x,H2,I2,rx,a,C,dx,fs,ex,ea,c,n,l,q2⟩=>?_) hs;subst ex;obtain rfl:ov=QQ a:=rx;exact Qjc I2 ea c n l ry λs3 I3=>⟨σ,_,I3,q2⟩
def rAdd:V->V->Hp->VK->Prop:=λx y H Q=>∃i j,x=.int i/\y=.int j/\Q (.int (i+j)) H
end
section
variable{X:Cx}{pins:List (Addr×Obj)}{σ:St}{H:Hp}{s:Shared}{A:Q9}{E:Value->Shared->Prop}{Q:Value->Shared->Prop}{c:Value}{b:Bool}
inductive TyOf (K:PySem.W.Frag) (H:Hp):V->Value->Prop where
 |non:TyOf K H .non (.type "NoneType")
 |bl (x:Bool):TyOf K H (.bl x) (.type "bool")
 |int (i:Int):TyOf K H (.int i) (.type "int")
 |str (x:Str):TyOf K H (.str x) (.type "str")
 |flt (x:UInt64):TyOf K H (.flt x) (.type "float")
 |lst {a:Addr} {xs:List V} (e:H a=some (.lst xs)):TyOf K H (.ref a) (.type "list")
 |frz {a:Addr} {o:Obj} {xs:List V} (e:H a=some (.frz o (.lst xs))):TyOf K H (.ref a) (.type "list")
 |tup {a:Addr} {xs:List V} (e:H a=some (.tup xs)):TyOf K H (.ref a) (.type "tuple")
 |dK {a:Addr} {kvs:List (Key×V)} (e:H a=some (.dK kvs)):TyOf K H (.ref a) (.type "dict")
 |dT {a:Addr} {kvs:List (List Key×V)} (e:H a=some (.dT kvs)):TyOf K H (.ref a) (.type "dict")
 |ins {a C dx:Addr} {fs:List (Str×V)} (e:H a=some (.ins C dx fs)) (cl:Cls K C) (ha:PySem.W.findIn K (.ref C) "__class__" = some (some (.builtin "object.__class__")))
   (hn:PySem.W.specialIn K (.builtin "object.__class__") "__get__" = some (some (.builtin "getset_descriptor.__get__"))) (htk:PySem.W.takesIn K (.builtin "object.__class__")=some true)
   (hm:PySem.W.mroIn K C (.type "object")=some true):TyOf K H (.ref a) (.ref C)
theorem Qmr{x:V}{u t:Value}(I:Inv X pins σ H s)(rx:RelV x u)(ty:TyOf X.K H x t)(e:PySem.W.kitOne X.K t c=some b)(h:∀tk,Q (.bool b) { s with toks:=tk }) :
  wpAny (model X.prog X.w) A (call (.builtin "isinstance") [u,c]) Q E s:=by
 cases ty with
 |non=>cases(show u=Q6 from rx);exact PySem.W.kia_one PySem.W.kitx_none I.kIn Ju e (λz=>nomatch z) h
 |bl y=>cases(show u=Zt y from rx);exact PySem.W.kia_one PySem.W.kitx_bool I.kIn Ju e (λz=>nomatch z) h
 |int i=>obtain⟨t,q⟩:=(show ∃t,u=QbT i t from rx);cases q;exact PySem.W.kia_one PySem.W.kitx_int I.kIn Ju e (λz=>nomatch z) h
 |str y=>obtain⟨t,q⟩:=(show ∃t,u=Qdq y t from rx);cases q;exact PySem.W.kia_one PySem.W.kitx_str I.kIn Ju e (λz=>nomatch z) h
 |flt y=>obtain⟨t,q⟩:=(show ∃t,u=Qko y t from rx);cases q;exact PySem.W.kia_one PySem.W.kitx_float I.kIn Ju e (λz=>nomatch z) h
 |@lst a xs ea=>
  cases(show u=QQ a from rx);obtain⟨_,_,n,_,h1⟩:=(show ObjOk X.prog X.w H s.heap a (.lst xs) from I.hok a _ ea);exact PySem.W.kia_one PySem.W.kitx_list I.kIn ⟨_,h1,rfl⟩ e (λz=>nomatch z) h
 |@frz a ob xs ea=>
  cases(show u=QQ a from rx);obtain⟨_,_,_,n,_,h1⟩:=(show ObjOk X.prog X.w H s.heap a (.frz ob (.lst xs)) from I.hok a _ ea);exact PySem.W.kia_one PySem.W.kitx_list I.kIn ⟨_,h1,rfl⟩ e (λz=>nomatch z) h
 |@tup a xs ea=>
  cases(show u=QQ a from rx);obtain⟨_,_,_,p⟩:=(show ObjOk X.prog X.w H s.heap a (.tup xs) from I.hok a _ ea);obtain⟨o,h1,h2,_⟩:=p;exact PySem.W.kia_one PySem.W.kitx_tuple I.kIn ⟨o,h1,h2⟩ e (λz=>nomatch z) h
 |@dK a kvs ea=>
  cases(show u=QQ a from rx);obtain⟨_,_,vs,_,p⟩:=(show ObjOk X.prog X.w H s.heap a (.dK kvs) from I.hok a _ ea);obtain⟨o,es,ep,h1,h2,_⟩:=p;exact PySem.W.kia_one PySem.W.kitx_dict I.kIn ⟨o,h1,h2.1⟩ e (λz=>nomatch z) h
 |@dT a kvs ea=>
  cases(show u=QQ a from rx);obtain⟨_,_,xs,_,o,es,ep,h1,h2,_⟩:=(show ObjOk X.prog X.w H s.heap a (.dT kvs) from I.hok a _ ea);exact PySem.W.kia_one PySem.W.kitx_dict I.kIn ⟨o,h1,h2.1⟩ e (λz=>nomatch z) h
 |@ins a C dx fs ea cl ha hn htk hm=>
  cases(show u=QQ a from rx);obtain⟨mA,O,_⟩:=QfR I.hok ea;obtain⟨od,J,_⟩:=O.look;exact PySem.W.kia_one (PySem.W.kitx_own (cl.get _) cl.hd ha hn htk hm) I.kIn J e (λz=>nomatch z) h
end
structure Room (k:Nat) (A:Q9):Prop where
 hd:A.handled=none
 dp:A.depth+3*k+5<recursionLimit
 un:A.units+16*k+200<cLine
 gd:A.guards=some []
theorem Room.mono{j k:Nat}{A:Q9}(r:Room k A)(h:j<=k):Room j A:=⟨r.hd,by have:=r.dp;omega,by have:=r.un;omega,r.gd⟩
theorem Room.deeper{k:Nat}{A:Q9}(r:Room (k+1) A)(env:Env):Room k (A.deeper env):=
 ⟨r.hd,by have:=r.dp;show A.depth+1+3*k+5<_;omega,by have:=r.un;show A.units+3+16*k+200<_;omega,r.gd⟩
theorem Qjy{A:Q9}{C:Addr}{us:List Value}{kw:List (Str×Value)}:(A.under (.builtin "type.__call__" ⟨.ref C::us,kw⟩)).depth=A.depth+1:=by
 first | rfl | simp[QdJ,Code.weight,Code.isCreation,QxD,Code.isCaller,Code.frames,Qkj,guardIds]
theorem Qjx{A:Q9}{C:Addr}{us:List Value}{kw:List (Str×Value)}:(A.under (.builtin "type.__call__" ⟨.ref C::us,kw⟩)).units=A.units+1:=by
 first | rfl | simp[QdJ,Code.cUnits,Code.frames,Qkj]
theorem Room.make{k:Nat}{A:Q9}(r:Room (k+1) A)(C:Addr)(us:List Value)(kw:List (Str×Value)):Room k (A.under (.builtin "type.__call__" ⟨.ref C::us,kw⟩)):=
 ⟨r.hd,by have:=r.dp;rw[Qjy];omega,by have:=r.un;rw[Qjx];omega,by have:=r.gd;first | exact this | simpa [QdJ,QxD,guardIds] using this⟩
theorem Room.depth{k:Nat}{A:Q9}(r:Room k A):A.depth<recursionLimit:=by have:=r.dp;omega
theorem Room.units{k:Nat}{A:Q9}(r:Room k A):A.units+64<cLine:=by have:=r.un;omega
theorem Room.units0{k:Nat}{A:Q9}(r:Room k A):A.units<cLine:=by have:=r.un;omega
def QbO:TA:=λ_ H Q=>Q [] H
def Z1(ta:TE)(tr:TA):TA:=λσ H Q=>ta σ H λx H1=>tr σ H1 λxs H2=>Q (x::xs) H2
section
variable{X:Cx}{e:QX}{es:List QX}{te:TE}{t:TA}{pos:Pos}
theorem pa_nil:PA X [] QbO:=λ_ _ _ _ H Q I h=>QdI ⟨[],H,I,.nil,h⟩
theorem pa_cons(ha:PE X e te)(hr:PA X es t)(hs:starEach (e::es) X.env=(false,eval e X.env)::starEach es X.env:=by rfl):PA X (e::es) (Z1 te t):=by
 intro pos pins s σ H Q I h;rw[hs];show wpAny _ _ (spliced ((false,eval e X.env)::backTo pos (starEach es X.env))) _ _ s;refine QaV (thn (ha pins s σ H _ I h) λu s1 ⟨x,H1,I1,r1,q1⟩=>?_);exact thn (hr pos pins s1 σ H1 _ I1 q1) λus s2 ⟨xs,H2,I2,r2,q2⟩=>⟨x::xs,H2,I2,.cons r1 r2,q2⟩
def Qzo(t:TA):TE:=λσ H Q=>t σ H λxs H1=>xs.length<=sizeLine/\∀p,H1 p=none->Q (.ref p) (upd H1 p (.lst xs))
theorem Qrc(h:PA X es t):PE X (.List es pos) (Qzo t):=by
 intro pins s σ H Q I hq;refine QwF (thn (h pos pins s σ H _ I hq) λus s1 ⟨xs,H1,I1,r,z,q⟩=>⟨by rw[<- r.length];exact z,?_⟩);have hf:H1 s1.heap.objs.size=none:=I1.hok.fresh (Qh _);refine⟨.ref s1.heap.objs.size,upd H1 s1.heap.objs.size (.lst xs),I1.laid (t':=s1.toks) (λb u e=>Qd _ e) (Qh _) ?_,rfl,q _ hf⟩;exact⟨z,us,0,r,Qs _ rfl⟩
end
abbrev Sp:=List V->Hp->VK->XK->Prop
abbrev CXT:=List Env->Hp->Shared->XK->Value->Shared->Prop
structure Env0 (P:Qw) (w:Ja) (K:PySem.W.Frag) (mg:Str->Option Value) (base:JR) (A:Q9) (outer:List Env) (s:Shared) (H:Hp):Prop where
 frames:A.frames=some outer
 mod:Mod K mg base
 bs:∀b o,base.get? b=some o->s.heap.get? b=some o/\H b=none
 bsz:base.objs.size<=s.heap.objs.size
 funs:s.heap.FunFrames base outer
 frf:∀b∈frs outer,H b=none
 hok:HOk P w H s.heap
 bare:Qdu s.gens
def CE(outer:List Env)(P:Qw)(w:Ja)(H:Hp)(s:Shared)(Q:VK)(u:Value)(s':Shared):Prop:=
 ∃v H',s'.os=s.os/\Qdu s'.gens/\Un (frs outer) [] H H' s.heap s'.heap/\HOk P w H' s'.heap/\RelV v u/\Q v H'
def CR(CX:CXT)(outer:List Env)(P:Qw)(w:Ja)(H:Hp)(s:Shared)(Q:VK)(E:XK)(r:Result)(s':Shared):Prop:=
 match r with
 |.ok (.ret u)=>CE outer P w H s Q u s'
 |.ok _=>False
 |.error e=>CX outer H s E e s'
structure FnOk (P:Qw) (w:Ja) (K:PySem.W.Frag) (mg:Str->Option Value) (base:JR) (CX:CXT) (k:Nat) (f:Addr) (fd:Qq) (ps:List Str) (sp:Sp):Prop where
 len:∀vs H Q E,sp vs H Q E->vs.length=ps.length
 run:∀(A:Q9)(outer:List Env)(s:Shared)(H:Hp)(args:Args)(us:List Value)(vs:List V)(Q:VK)(E:XK),Room k A->Env0 P w K mg base A outer s H->Qeu s fd args (ps.zip us)->Vals vs us->sp vs H Q E ->
  codeAny (model P w) A (.call (.ref f) args) (CR CX outer P w H s Q E) s
theorem FnOk.imp{P:Qw}{w:Ja}{K:PySem.W.Frag}{mg:Str->Option Value}{base:JR}{CX:CXT}{k:Nat}{f:Addr}{fd:Qq}{ps:List Str}{sp sp':Sp}(F:FnOk P w K mg base CX k f fd ps sp)
  (h:∀vs H Q E,sp' vs H Q E->sp vs H Q E):FnOk P w K mg base CX k f fd ps sp':=
 ⟨λvs H Q E q=>F.len vs H Q E (h _ _ _ _ q),λA outer s H args us vs Q E hr he hb hv hs=>F.run A outer s H args us vs Q E hr he hb hv (h _ _ _ _ hs)⟩
theorem Env0.make{P:Qw}{w:Ja}{K:PySem.W.Frag}{mg:Str->Option Value}{base:JR}{A:Q9}{outer:List Env}{s:Shared}{H:Hp}(e:Env0 P w K mg base A outer s H)(C:Addr)(us:List Value)(kw:List (Str×Value)) :
  Env0 P w K mg base (A.under (.builtin "type.__call__" ⟨.ref C::us,kw⟩)) outer s H:=⟨by first | exact e.frames | (simpa [QdJ,Code.envs,Qkj,pushEnvs] using e.frames),e.mod,e.bs,e.bsz,e.funs,e.frf,e.hok,e.bare⟩
section
variable{X:Cx}{pins:List (Addr×Obj)}{σ:St}{H:Hp}{s s':Shared}
theorem Inv.env0(I:Inv X pins σ H s):Env0 X.prog X.w X.K X.mg X.base X.A X.stack s H:=
 ⟨I.ok.frames,I.ok.mod,I.bs,QL I.ok.bsz I.sz,I.stack,I.stkFree,I.hok,I.bare⟩
theorem Inv.after{Q:VK}{u:Value}(I:Inv X pins σ H s)(h:CE X.stack X.prog X.w H s Q u s'):EP X pins σ Q u s':=by
 obtain⟨v,H',os,bare,un,hok,r,q⟩:=h;obtain⟨hh,g,d,t,os'⟩:=s';obtain rfl:os'=s.os:=os;exact⟨v,H',I.call (h':=hh) (g':=g) (d':=d) (t':=t) (ch:=[]) un hok bare (λb z=>absurd z (by simp)),r,q⟩
end
def QrW(sp:Sp)(dvs:List V)(E:XK)(t:TA):TE:=λσ H Q=>t σ H λvs H1=>sp (vs++dvs) H1 Q E
def QuL(C:Addr)(m:Str)(sp:Sp)(dvs:List V)(E:XK)(ta:TE)(t:TA):TE:=λσ H Q=>ta σ H λx H1=>∃a dx fs,x=.ref a/\H1 a=some (.ins C dx fs)/\fs.lookup m=none /\
 t σ H1 λvs H2=>sp (x::(vs++dvs)) H2 Q E
def QxO(C:Addr)(sp:Sp)(dvs:List V)(E:XK)(t:TA):TE:=λσ H Q=>t σ H λvs H1=>∀x dx,H1 x=none->H1 dx=none->dx≠x ->
 sp (.ref x::(vs++dvs)) (upd (upd H1 dx (.own x)) x (.ins C dx [])) (λv H2=>v=.non/\Q (.ref x) H2) E
def Binds(K:PySem.W.Frag)(fd:Qq)(ps:List Str)(ds:List Value):Prop:=
 ∀(s:Shared)(us:List Value),K.In s.heap->(us++ds).length=ps.length->Qeu s fd ⟨us,[]⟩ (ps.zip (us++ds))
theorem Binds.all{K:PySem.W.Frag}{fd:Qq}{ps:List Str}(h:∀us:List Value,us.length=ps.length->bindArgs fd ⟨us,[]⟩=pure (ps.zip us)):Binds K fd ps []:=λs us _ hl=>by
 rw[ZV] at hl ⊢;exact .of_eq (h us hl)
def QaT(CX:CXT)(X:Cx)(E:XK):Prop:=∀(pins:List (Addr×Obj))(σ:St)(H:Hp)(s:Shared)(e:Value)(s':Shared),Inv X pins σ H s->CX X.stack H s E e s'->X.xe e s'
section
variable{X:Cx}{CX:CXT}{k:Nat}{f C:Addr}{fd:Qq}{ps:List Str}{sp:Sp}{dvs:List V}{ds:List Value}{E:XK}{x m:Str}{p pos apos:Pos}{e o:QX}{es:List QX}{ta:TE}{t:TA}
theorem Qlb{pins:List (Addr×Obj)}{σ:St}{H:Hp}{s:Shared}{Q:VK}{us:List Value}{vs:List V}(F:FnOk X.prog X.w X.K X.mg X.base CX k f fd ps sp)(hr:Room k X.A)(hb:Binds X.K fd ps ds)(hd:Vals dvs ds)(hx:QaT CX X E)
  (I:Inv X pins σ H s)(r:Vals vs us)(h:sp (vs++dvs) H Q E):wpAny (model X.prog X.w) X.A (call (.ref f) us) (EP X pins σ Q) X.xe s:=by
 have r2:Vals (vs++dvs) (us++ds):=r.append hd;have hl:(us++ds).length=ps.length:=by rw[<- r2.length];exact F.len _ _ _ _ h
 refine Qdv (QaB (F.run X.A X.stack s H ⟨us,[]⟩ (us++ds) (vs++dvs) Q E hr I.env0 (hb s us I.kIn hl) r2 h) λr s' hq=>?_);cases r with
 |error e=>exact hx pins σ H s e s' I hq
 |ok fl=>
  cases fl with
  |ret u=>exact I.after hq
  |next=>exact Jj hq
  |brk=>exact Jj hq
  |cont=>exact Jj hq
theorem pe_call(F:FnOk X.prog X.w X.K X.mg X.base CX k f fd ps sp)(hr:Room k X.A)(hg:Gl X x)(hm:X.mg x=some (.ref f))(hk:PySem.W.keepIn X.K (.ref f)=true)(hb:Binds X.K fd ps ds)(hd:Vals dvs ds)(hx:QaT CX X E)
  (ha:PA X (e::es) t)(hdb:(x == ("__debug__" : Str))=false:=by decide)(he:starEach (e::es) X.env=(false,eval e X.env)::starEach es X.env:=by rfl)(hpl:(backTo pos (starEach es X.env)).any (·.1)=false:=by rfl) :
  PE X (.Call (.Name x p) (e::es) [] pos) (QrW sp dvs E t):=by
 intro pins s σ H Q I h;refine Yp (QcW I hg hm ?_ hdb);refine PySem.W.callWith_K (h₀:=X.base) I.ok.mod.kin hk (thn (ha pos pins s σ H _ I h) λus s1 ⟨vs,H1,I1,r,q⟩=>⟨I1.kIn,?_⟩) he hpl;exact Qlb F hr hb hd hx I1 r q
theorem QcU{pl:Sem Bool}(he:PE X o ta)(c:Cls X.K C)(hm:Meth X.K C m f)(F:FnOk X.prog X.w X.K X.mg X.base CX k f fd ps sp)(hr:Room k X.A)(hb:Binds X.K fd ps ds)(hd:Vals dvs ds)(hx:QaT CX X E)(ha:PA X (e::es) t)
  (hst:starEach (e::es) X.env=(false,eval e X.env)::starEach es X.env:=by rfl)(hpl:(backTo pos (starEach es X.env)).any (·.1)=false:=by rfl)
  (ht:eval (.Call (.Attribute o m apos) (e::es) [] pos) X.env=(do
   let ov <- eval o X.env
   standAt apos.atName
   let (f,first) <- holding [ov] (getMethod ov m pl)
   callWith pos f first (backTo pos (starEach (e::es) X.env)) (backToKw pos (keywordEach [] X.env))):=by rfl) :
  PE X (.Call (.Attribute o m apos) (e::es) [] pos) (QuL C m sp dvs E ta t):=by
 intro pins s σ H Q I h;refine PySem.W.methodCall_KW (pl:=pl) (thn (he pins s σ H _ I h) λu s1 ⟨x,H1,I1,rx,a,dx,fs,ex,ea,l,q⟩=>?_) ht;subst ex;obtain rfl:u=QQ a:=rx;refine QbG I1 ea c hm l ?_
 refine PySem.W.callWith_K (first:=[.ref a]) (h₀:=X.base) I.ok.mod.kin hm.kp (thn (ha pos pins s1 σ H1 _ I1 q) λus s2 ⟨vs,H2,I2,r,q2⟩=>⟨I2.kIn,?_⟩) hst hpl;exact Qlb (us:=.ref a::us) (vs:=.ref a::vs) F hr hb hd hx I2 (.cons rfl r) q2
theorem Qcq{pl:Sem Bool}(he:PE X o ta)(c:Cls X.K C)(hm:Meth X.K C m f)(F:FnOk X.prog X.w X.K X.mg X.base CX k f fd ps sp)(hr:Room k X.A)(hb:Binds X.K fd ps ds)(hd:Vals dvs ds)(hx:QaT CX X E)
  (ht:eval (.Call (.Attribute o m apos) [] [] pos) X.env=(do
   let ov <- eval o X.env
   standAt apos.atName
   let (f,first) <- holding [ov] (getMethod ov m pl)
   callWith pos f first (backTo pos (starEach [] X.env)) (backToKw pos (keywordEach [] X.env))):=by rfl) :
  PE X (.Call (.Attribute o m apos) [] [] pos) (QuL C m sp dvs E ta QbO):=by
 intro pins s σ H Q I h;refine PySem.W.methodCall_KW (pl:=pl) (thn (he pins s σ H _ I h) λu s1 ⟨x,H1,I1,rx,a,dx,fs,ex,ea,l,q⟩=>?_) ht;subst ex;obtain rfl:u=QQ a:=rx;refine QbG I1 ea c hm l ?_
 exact PySem.W.callWith_K0 (first:=[.ref a]) I1.kIn hm.kp (Qlb (us:=[.ref a]) (vs:=[.ref a]) F hr hb hd hx I1 (.cons rfl .nil) q)
structure Mk (K:PySem.W.Frag) (C f:Addr):Prop where
 makes:PySem.W.makesIn K C=true
 init:PySem.W.findIn K (.ref C) "__init__" = some (some (.ref f))
 fn:PySem.W.isFn K (.ref f)=true
 kp:PySem.W.keepIn K (.ref C)=true
theorem QnZ{pins:List (Addr×Obj)}{σ:St}{H:Hp}{s:Shared}{Q:VK}{us:List Value}{vs:List V}(M:Mk X.K C f)(F:FnOk X.prog X.w X.K X.mg X.base CX k f fd ps sp)(hr:Room (k+1) X.A)(hb:Binds X.K fd ps ds)(hd:Vals dvs ds)
  (hx:QaT CX X E)(I:Inv X pins σ H s)(r:Vals vs us)
  (h:∀x dx,H x=none->H dx=none->dx≠x->sp (.ref x::(vs++dvs)) (upd (upd H dx (.own x)) x (.ins C dx [])) (λv H2=>v=.non/\Q (.ref x) H2) E) :
  wpAny (model X.prog X.w) X.A (call (.ref C) us) (EP X pins σ Q) X.xe s:=by
 have hq:=h (s.heap.objs.size+1) s.heap.objs.size (I.hok.fresh (Qnw _)) (I.hok.fresh (Qh _)) (Qx (Qum _));have I2:=Inv.made (C:=C) I;have r2:Vals (V.ref (s.heap.objs.size+1)::(vs++dvs)) (QQ (s.heap.objs.size+1)::(us++ds)):=.cons rfl (r.append hd);have hl:(QQ (s.heap.objs.size+1)::us++ds).length=ps.length:=by
  have e:=r2.length;rw[F.len _ _ _ _ hq] at e;exact e.symm
 refine Qdv (QoV (f:=f) I.kIn M.makes M.init (beq_iff_eq.mp M.fn) (QaB (F.run _ X.stack _ _ ⟨QQ (s.heap.objs.size+1)::us,[]⟩ (QQ (s.heap.objs.size+1)::(us++ds)) _ _ E (hr.make C us [])
  (I2.env0.make C us []) (hb _ (QQ (s.heap.objs.size+1)::us) I2.kIn hl) r2 hq) λr s' hq'=>?_))
 cases r with
 |error e=>exact hx pins σ _ _ e s' I2 hq'
 |ok fl=>
  cases fl with
  |ret u=>
   obtain⟨v,H',I3,rv,ev,q3⟩:=I2.after hq';subst ev;exact⟨rv,⟨V.ref (s.heap.objs.size+1),H',I3,rfl,q3⟩⟩
  |next=>exact Jj hq'
  |brk=>exact Jj hq'
  |cont=>exact Jj hq'
theorem Qio(M:Mk X.K C f)(F:FnOk X.prog X.w X.K X.mg X.base CX k f fd ps sp)(hr:Room (k+1) X.A)(hg:Gl X x)(hm:X.mg x=some (.ref C))(hb:Binds X.K fd ps ds)(hd:Vals dvs ds)(hx:QaT CX X E)
  (hdb:(x == ("__debug__" : Str))=false:=by decide):PE X (.Call (.Name x p) [] [] pos) (QxO C sp dvs E QbO):=by
 intro pins s σ H Q I h;refine Yp (QcW I hg hm ?_ hdb);exact PySem.W.callWith_K0 I.kIn M.kp (QnZ (us:=[]) M F hr hb hd hx I .nil h)
end
section
variable{X:Cx}{CX:CXT}{k:Nat}{f C:Addr}{fd:Qq}{ps ks:List Str}{sp:Sp}{E:XK}{x m:Str}{p pos apos kpos:Pos}{e o:QX}{es:List QX}{kws:List Qer}{te ta:TE}{t tk:TA}{nm:Option Str}
variable{g:List Value->List Value->List Value}{gV:List V->List V->List V}
end
structure Jc (N P:List Str) (sc:Y4):Prop where
 kind:sc.kind=.function
 co:sc.isCoroutine=false
 gen:sc.isGenerator=false
 nd:N.Nodup
 pre:N.take P.length=P
 par:∀x∈P,sc.names.lookup x=some .local∨sc.names.lookup x=some .cell
 nofree:∀y∈sc.names,y.2≠.free
theorem Qg0{kindOf:Str->Option Qax}{x:Str}:∀{binds:List (Str×Value)}{m:Str->Option Value},(∀v,(x,v)∉binds)->bindL kindOf binds m x=m x
 |[],_,_=>rfl
 |(n,v)::r,m,h=>by
  unfold bindL;rw[Qg0 λw hw=>h w (Jm _ hw)];split
  ·have:x≠n:=by rintro rfl;exact h v Zl
   simp[this]
  ·rfl
theorem Qg2{kindOf:Str->Option Qax}{x:Str}:∀{binds:List (Str×Value)}{m:Str->Option Value},(∀v,(x,v)∉binds)->bindC kindOf binds m x=m x
 |[],_,_=>rfl
 |(n,v)::r,m,h=>by
  unfold bindC;rw[Qg2 λw hw=>h w (Jm _ hw)];split
  ·rfl
  ·have:x≠n:=by rintro rfl;exact h v Zl
   simp[this]
theorem Qg1{kindOf:Str->Option Qax}{x:Str}{v:Value}:∀{P:List Str}{vs:List Value}{i:Nat}{m:Str->Option Value},P.Nodup->P[i]? = some x->vs[i]? = some v->kindOf x=some .local ->
  bindL kindOf (P.zip vs) m x=some v
 |[],_,_,_,_,h,_,_=>by simp at h
 |_::_,[],_,_,_,_,h,_=>by simp at h
 |p::P,w::vs,0,m,nd,h1,h2,hk=>by
  simp at h1 h2;subst h1;subst h2;show bindL kindOf ((p,w)::P.zip vs) m p=_;unfold bindL;rw[Qg0 λv hv=>(JE.mp nd).1 (Qcb hv).1,if_pos hk];simp
 |p::P,w::vs,i+1,m,nd,h1,h2,hk=>by
  show bindL kindOf ((p,w)::P.zip vs) m x=_;unfold bindL;exact Qg1 (i:=i) (JE.mp nd).2 (by simpa using h1) (by simpa using h2) hk
theorem Qg3{kindOf:Str->Option Qax}{x:Str}{v:Value}:∀{P:List Str}{vs:List Value}{i:Nat}{m:Str->Option Value},P.Nodup->P[i]? = some x->vs[i]? = some v->kindOf x≠some .local ->
  bindC kindOf (P.zip vs) m x=some v
 |[],_,_,_,_,h,_,_=>by simp at h
 |_::_,[],_,_,_,_,h,_=>by simp at h
 |p::P,w::vs,0,m,nd,h1,h2,hk=>by
  simp at h1 h2;subst h1;subst h2;show bindC kindOf ((p,w)::P.zip vs) m p=_;unfold bindC;rw[Qg2 λv hv=>(JE.mp nd).1 (Qcb hv).1,if_neg hk];simp
 |p::P,w::vs,i+1,m,nd,h1,h2,hk=>by
  show bindC kindOf ((p,w)::P.zip vs) m x=_;unfold bindC;exact Qg3 (i:=i) (JE.mp nd).2 (by simpa using h1) (by simpa using h2) hk
def start(N:List Str)(vs:List V):St:=vs.map some++QZ (N.length - vs.length) none
def cxOf(CX:CXT)(P:Qw)(w:Ja)(K:PySem.W.Frag)(mg:Str->Option Value)(base:JR)(N:List Str)(qual:Str)(scope:Y4)(f:Addr)(cd:Value)(A:Q9)(outer:List Env)(s:Shared)(H:Hp)(E:XK):Cx where
 prog:=P
 w:=w
 K:=K
 mg:=mg
 base:=base
 A:=A.deeper (envOfC qual scope s.heap.objs.size f cd)
 N:=N
 s₀:=s
 H₀:=H
 env:=envOfC qual scope s.heap.objs.size f cd
 outer:=outer
 stack:=envOfC qual scope s.heap.objs.size f cd::outer
 ex:=[]
 calm:=true
 fn:=λ_=>true
 pn:=[]
 xe:=λe s'=>wpAny (model P w) (A.deeper (envOfC qual scope s.heap.objs.size f cd)) (leaving (envOfC qual scope s.heap.objs.size f cd) e) (λ_ s''=>CX outer H s E e s'') (λe' s''=>CX outer H s E e' s'') s'
theorem QiL{sc:Y4}{n:Nat}{x:Str}(h:sc.names.lookup x=some .cell):∃c,(cellsFrom n sc.names []).lookup x=some c:=by
 have q:=PySem.W.cellsFrom_some sc.names n [] (.inl h);exact Option.isSome_iff_exists.mp q
theorem QgH{CX:CXT}{P:Qw}{w:Ja}{K:PySem.W.Frag}{mg:Str->Option Value}{base:JR}{N ps:List Str}{qual:Str}{scope:Y4}{f:Addr}{cd:Value}{A:Q9}{outer:List Env}{s s1:Shared}{H:Hp}{E:XK}{us:List Value}{vs:List V}
  (S:Jc N ps scope)(hd:A.handled=none)(e0:Env0 P w K mg base A outer s H)(hl:vs.length=ps.length)(r:Vals vs us)
  (x:InCallC s s.heap.objs.size (bindL (envOfC qual scope s.heap.objs.size f cd).kindOf (ps.zip us) λ_=>none) (cellsFrom (s.heap.objs.size+1) scope.names []) (bindC (envOfC qual scope s.heap.objs.size f cd).kindOf (ps.zip us) λ_=>none) s1) :
  Inv (cxOf CX P w K mg base N qual scope f cd A outer s H E) [] (start N vs) H s1:=by
 have hpl:ps.length<=N.length:=by have:=congrArg List.length S.pre;rw[Qas] at this;omega
 obtain⟨h1,tk,rfl,hk⟩:=x.done;have noA:∀b:Addr,b∉(cxOf CX P w K mg base N qual scope f cd A outer s H E).ex:=λb z=>absurd (show b∈([]:List Addr) from z) (by simp)
 refine⟨⟨e0.mod,S.kind,rfl,rfl,Qh _,λy z c h1 h2=>?_,λy hy=>?_,λy c _ h=>?_,λ_=>hd,Around.frames_deeper e0.frames,.inr ⟨rfl,rfl⟩,λb z=>absurd z (noA b),e0.bs,e0.bsz,λb _ _=>noA b,λb z=>absurd z (noA b),e0.funs,e0.frf⟩,
  rfl,e0.bare,Un.kept hk,⟨_,x.toInCall.ns,λi y v h1 h2 h3=>?_⟩,λy c h=>⟨_,x.cell y c h⟩,e0.hok.fresh (Qh _),λy c h=>?_,λp hp=>absurd (show p∈([]:List (Addr×Obj)) from hp) (by simp),e0.hok.kept hk,?_⟩
 ·exact name_of_addr x.apart (PySem.mem_of_lookup h1) (PySem.mem_of_lookup h2)
 ·have hy:scope.names.lookup y=some .cell∨scope.names.lookup y=some .free:=hy;rcases hy with hy | hy
  ·exact QiL hy
  ·exact absurd rfl (S.nofree _ (PySem.mem_of_lookup hy))
 ·exact Zw (x.above y c (PySem.mem_of_lookup h))
 ·have hi:i<vs.length:=by
   unfold start at h2;by_cases hi:i<vs.length
   ·exact hi
   ·rw[Qgg (by simpa using hi)] at h2;rw[YW] at h2;split at h2<;>cases h2
  have ha:vs[i]? = some v:=by
   unfold start at h2;rw[Qa8 (by simpa using hi),QC] at h2;cases e:vs[i]? with
   |none=>rw[e] at h2;cases h2
   |some a=>rw[e] at h2;cases h2;rfl
  obtain⟨u,hu,rv⟩:=r.get ha;have hp:ps[i]? = some y:=by
   rw[<- S.pre,List.getElem?_take_of_lt (by omega)];exact h1
  have ndP:ps.Nodup:=by rw[<- S.pre];exact S.nd.sublist (List.take_sublist _ _)
  refine⟨u,rv,?_⟩;rcases S.par y (Q3 hp) with k | k
  ·exact .inl ⟨k,Qg1 ndP hp hu k⟩
  ·obtain⟨c,e⟩:=QiL (n:=s.heap.objs.size+1) k;refine .inr ⟨.inl k,c,e,?_⟩;have q:=x.cell y c e;rw[Qg3 ndP hp hu (by show scope.names.lookup y≠_;rw[k];decide)] at q;exact q
 ·exact e0.hok.fresh (Zw (x.above y c (PySem.mem_of_lookup h)))
 ·unfold start;show _=N.length;rw[Qv,Qg,Qaf];omega
theorem Qv0{CX:CXT}{P:Qw}{w:Ja}{K:PySem.W.Frag}{mg:Str->Option Value}{base:JR}{k:Nat}{f:Addr}{name qual:Str}{params:Arguments}{body:List ZM}{scope:Y4}{dV kV doc pm cdv ct oc:Value}{an od:Option Addr}
  {osl:Array (Option Value)} {N ps:List Str} {sp:Sp} (lk:K.lookup f=some ⟨oc,od,.func (PySem.W.fnOf name qual params body scope dV kV doc pm an cdv ct),osl⟩) (hcd:PySem.W.codeIn K cdv qual=true) (S:Jc N ps scope)
  (len:∀vs H Q E,sp vs H Q E->vs.length=ps.length)
  (hbody:∀(A:Q9)(outer:List Env)(s:Shared)(H:Hp)(vs:List V)(Q:VK)(E:XK),Room k (A.deeper (envOfC qual scope s.heap.objs.size f cdv))->sp vs H Q E ->
   ∃t,PSs (cxOf CX P w K mg base N qual scope f cdv A outer s H E) body t/\t { nx:=λ_ H'=>Q .non H',rt:=Q } (start N vs) H) :
  FnOk P w K mg base CX (k+1) f (PySem.W.fnOf name qual params body scope dV kV doc pm an cdv ct) ps sp:=by
 refine⟨len,λA outer s H args us vs Q E hr e0 hb r hsp=>?_⟩;have hl:=len _ _ _ _ hsp;have KX:K.In s.heap:=e0.mod.kin.keeps λb o e=>(e0.bs b o e).1
 have lim:s.heap.NoLimit:=e0.mod.nolimit.keeps λb o e=>(e0.bs b o e).1
 have hkind:∀y∈ps.zip us,scope.names.lookup y.1=some .local∨(scope.names.lookup y.1=some .cell/\((cellsFrom (s.heap.objs.size+1) scope.names []).lookup y.1).isSome=true):=λ⟨n,v⟩ hy=>by
  rcases S.par n (Qcb hy).1 with q | q
  ·exact .inl q
  ·exact .inr ⟨q,PySem.W.cellsFrom_some _ _ _ (.inl q)⟩
 refine QrB hr.depth (KX _ _ lk) rfl S.co S.gen rfl (PySem.W.codeRec_of KX hcd) (hb _ _ _ _ ?_);refine Qkb S.kind hkind λenv he s1 x=>?_
 subst he;refine⟨lim.keeps x.toInCall.keep,codeAny_func ?_⟩;obtain⟨t,ht,hq⟩:=hbody A outer s H vs Q E (hr.deeper _) hsp;have I:Inv (cxOf CX P w K mg base N qual scope f cdv A outer s H E) [] (start N vs) H s1:=QgH S hr.hd e0 hl r x;refine wpAny_mono (ht [] s1 (start N vs) H _ I hq) (λfl s' hs=>?_) λe s' hs=>hs
 have fin:∀{σ':St}{H':Hp}{v:V}{u:Value},Inv (cxOf CX P w K mg base N qual scope f cdv A outer s H E) [] σ' H' s'->RelV v u->Q v H'->CE outer P w H s Q u s':=
  λ{σ' H' v u} J rv q=>⟨v,H',J.os,J.bare,J.base,J.hok,rv,q⟩
 cases fl with
 |ret u=>
  obtain⟨v,σ',H',J,rv,q⟩:=hs;exact fin J rv q
 |next=>
  obtain⟨σ',H',J,q⟩:=hs;exact fin (v:=V.non) (u:=Q6) J rfl q
 |brk=>
  obtain⟨_,_,_,q⟩:=hs;exact Jj q
 |cont=>
  obtain⟨_,_,_,q⟩:=hs;exact Jj q
section
variable{X:Cx}{x:Str}{p pos:Pos}{e:QX}{es:List QX}{t:TA}{id T:String}{r:List V->Hp->VK->Prop}
def tCB(r:List V->Hp->VK->Prop)(t:TA):TE:=λσ H Q=>t σ H λvs H1=>r vs H1 Q
theorem pe_callB(hc:CallR X (.builtin id) r)(hg:Gl X x)(hm:X.mg x=none)(hv:bootBuiltins x=some (.builtin id))(ha:PA X (e::es) t)(hn:x ≠ "__name__" := by decide)(hdb:(x == ("__debug__" : Str))=false:=by decide)
  (he:starEach (e::es) X.env=(false,eval e X.env)::starEach es X.env:=by rfl)(hpl:(backTo pos (starEach es X.env)).any (·.1)=false:=by rfl):PE X (.Call (.Name x p) (e::es) [] pos) (tCB r t):=by
 intro pins s σ H Q I h;refine Yp (Qcu I hg hm hv ?_ hn hdb);exact PyProof.Rows.callWith_builtin1 (thn (ha pos pins s σ H _ I h) λus s1 ⟨vs,H1,I1,r1,q1⟩=>hc pins s1 σ H1 vs us Q I1 r1 q1) he hpl
theorem QaP(hc:CallR X (.type T) r)(hg:Gl X x)(hm:X.mg x=none)(hv:bootBuiltins x=some (.type T))(ha:PA X (e::es) t)(hn:x ≠ "__name__" := by decide)(hdb:(x == ("__debug__" : Str))=false:=by decide)
  (he:starEach (e::es) X.env=(false,eval e X.env)::starEach es X.env:=by rfl)(hpl:(backTo pos (starEach es X.env)).any (·.1)=false:=by rfl):PE X (.Call (.Name x p) (e::es) [] pos) (tCB r t):=by
 intro pins s σ H Q I h;refine Yp (Qcu I hg hm hv ?_ hn hdb);exact JJ (thn (ha pos pins s σ H _ I h) λus s1 ⟨vs,H1,I1,r1,q1⟩=>hc pins s1 σ H1 vs us Q I1 r1 q1) he hpl
end
end L2
namespace HT
section
open PySem.SeqAt
open PySem.AutoSeq1 (wpAny_loadPart')
open PySem.MeetsSeq PySem.MeetsSeq2 PySem.MeetsSeq3
end
section
variable{prog:Qw}{w:Ja}{A:Q9}{E:Value->Shared->Prop}{s:Shared}
theorem Qt3{t b:Addr}{vs ws:List Value}{Q:Value->Shared->Prop}(ht:IsTup s.heap t vs.toArray)(hb:IsTup s.heap b ws.toArray)(hv:vs≠[])
  (h1:ws=[]->Q (.ref t) s)(h2:ws≠[]->Q (.ref s.heap.objs.size) { s with heap:=s.heap.push { cls:=.type "tuple",data:=.seq (vs++ws).toArray } })
  (hsz:vs.length+ws.length<=sizeLine):wpAny (model prog w) A (binaryOp .Add (.ref t) (.ref b)) Q E s:=by
 obtain⟨⟨cls,dd,data,sl⟩,ho,hc,n,hd⟩:=id ht;obtain⟨⟨cls2,dd2,data2,sl2⟩,ho2,hc2,n2,hd2⟩:=id hb;simp only at hc hd hc2 hd2;subst hc hd hc2 hd2;have e:vs.toArray++ws.toArray=(vs++ws).toArray:=by simp
 by_cases hw:ws=[]
 ·exact QrA ⟨_,ho,rfl⟩ ⟨_,ho2,rfl⟩ Qhg Qno PySem.F.slot_tuple_add PySem.F.entry_tuple_add (PySem.F.args_tuple_add_2 _ _)
   (tuple_addW1 t b vs.toArray ws.toArray n n2 dd dd2 sl sl2 (by simpa using hv) (by simp[hw])) ⟨ho,ho2,h1 hw⟩
 ·refine QrA ⟨_,ho,rfl⟩ ⟨_,ho2,rfl⟩ Qhg Qno PySem.F.slot_tuple_add PySem.F.entry_tuple_add (PySem.F.args_tuple_add_2 _ _)
   (tuple_addW2 t b vs.toArray ws.toArray n n2 dd dd2 sl sl2 (by simpa using hv) (by simpa using hw) (by rw[Qk,Qk];exact hsz)) ⟨ho,ho2,?_⟩
  rw[e];exact h2 hw
def sIx(n d:Nat):Option Int->Nat
 |none=>d
 |some v=>if v<0 then(v+(n:Int)).toNat else min v.toNat n
theorem Qib(n d:Nat):sIx n d none=d:=rfl
theorem Qsa(n d k:Nat):sIx n d (some (k:Int))=min k n:=by
 show(if(k:Int)<0 then((k:Int)+(n:Int)).toNat else min (k:Int).toNat n)=min k n;rw[if_neg (by omega),Qy]
theorem QuW(n d:Nat)(hd:d<=n)(o:Option Int):sIx n d o<=n:=by
 cases o with
 |none=>exact hd
 |some v=>
  show(if v<0 then(v+(n:Int)).toNat else min v.toNat n)<=n;by_cases hv:v<0
  ·rw[if_pos hv];omega
  ·rw[if_neg hv];exact Qfg _ _
theorem QmU(v:Int)(n d:Nat):(if v<0 then max (v+(n:Int)) 0 else min v (n:Int))=((sIx n d (some v):Nat):Int):=by
 show(if v<0 then max (v+(n:Int)) 0 else min v (n:Int))=(((if v<0 then(v+(n:Int)).toNat else min v.toNat n):Nat):Int);by_cases hv:v<0
 ·simp only[if_pos hv];omega
 ·simp only[if_neg hv];omega
theorem Qj9(lo hi:Option Int)(n:Nat):Qai lo hi 1 (n:Int)=(((sIx n 0 lo:Nat):Int),((sIx n n hi:Nat):Int)):=by
 have h1:¬((1:Int)<0):=by omega
 unfold Qai;simp only[h1,if_false];refine Qdw ?_ ?_
 ·cases lo with
  |none=>rfl
  |some v=>exact QmU v n 0
 ·cases hi with
  |none=>rfl
  |some v=>exact QmU v n n
theorem Qjm(i j:Nat):Yb (i:Int) (j:Int) 1=j - i:=by
 unfold Yb;have h1:(1:Int) > 0:=by omega
 simp only[h1,if_true,Int.ediv_one];split<;>omega
theorem QeH{v:Value}{o:Option Int}{Q:Option Int->Shared->Prop}(p:Qha v o)(h:Q o s):wpAny (model prog w) A (QxG v) Q E s:=by
 cases p with
 |none=>exact slicePart_none h
 |int i t=>exact slicePart_int h
theorem Qbb{sl:Addr}{vl vu:Value}{lo hi:Option Int}{n:Nat}{Q:Int×Int×Nat->Shared->Prop}(hs:s.heap.IsSliceOf sl vl vu .none)(pl:Qha vl lo)(pu:Qha vu hi)
  (h:Q (((sIx n 0 lo:Nat):Int),1,sIx n n hi - sIx n 0 lo) s):wpAny (model prog w) A (Qdb (.ref sl) (pure (n:Int))) Q E s:=by
 obtain⟨os,hos,hcs,hds⟩:=id hs;unfold Qdb QxH;refine wpAny_bind (wpAny_bind (J3 hos hds (x:=vl) rfl (wpAny_bind (J3 hos hds (x:=vu) rfl (wpAny_bind (J3 hos hds (x:=.none) rfl (Qf ?_)))))));refine wpAny_bind (slicePart_none ?_);show wpAny _ _ (if((1:Int) == 0)=true then _ else _) _ _ s;rw[if_neg (by decide)];refine wpAny_bind (QeH pl (wpAny_bind (QeH pu (wpAny_bind (Qf ?_)))));show wpAny _ _ (match Qai lo hi 1 (n:Int) with | (lo,hi)=>pure (lo,(1:Int),Yb lo hi 1)) _ _ s;rw[Qj9 lo hi n];show wpAny _ _ (pure (((sIx n 0 lo:Nat):Int),(1:Int),Yb ((sIx n 0 lo:Nat):Int) ((sIx n n hi:Nat):Int) 1)) _ _ s;rw[Qjm];exact Qf h
theorem Qn9(xs:Array Value)(i k:Nat):((QY k).filterMap λ(m:Nat)=>xs[((i:Int)+(m:Int)*1).toNat]?).toArray=((xs.toList.drop i).take k).toArray:=by
 have e:(λ(m:Nat)=>xs[((i:Int)+(m:Int)*1).toNat]?)=λm=>xs[i+m]? := by
  funext m
  have:((i:Int)+(m:Int)*1).toNat=i+m:=by omega
  rw[this]
 rw[e];have:=pick_run xs i k;rw[ZG] at this;have e2:((λx=>xs[x]?)∘λx=>i+x)=λm=>xs[i+m]? := rfl
 rw[e2] at this;rw[this]
theorem Qc0{t sl:Addr}{items:Array Value}{vl vu:Value}{lo hi:Option Int}{Q:Value->Shared->Prop}(ht:IsTup s.heap t items)(hs:s.heap.IsSliceOf sl vl vu .none)(pl:Qha vl lo)(pu:Qha vu hi)
  (hw:¬(sIx items.size 0 lo=0/\sIx items.size items.size hi=items.size))
  (h:Q (.ref s.heap.objs.size) { s with heap:=s.heap.push { cls:=.type "tuple",data:=.seq ((items.toList.drop (sIx items.size 0 lo)).take (sIx items.size items.size hi - sIx items.size 0 lo)).toArray } })
  (hsz:items.size<=sizeLine):wpAny (model prog w) A (getItem (.ref t) (.ref sl)) Q E s:=by
 have htake:sizeOk (.seq ((items.toList.drop (sIx items.size 0 lo)).take (sIx items.size items.size hi - sIx items.size 0 lo)).toArray):=by
  show((items.toList.drop (sIx items.size 0 lo)).take (sIx items.size items.size hi - sIx items.size 0 lo)).toArray.size<=sizeLine;rw[Qk,Qas,QeB,Jg];omega
 have hj:sIx items.size items.size hi<=items.size:=QuW _ _ (Qh _) hi;obtain⟨os,hos,hcs,hds⟩:=id hs;have hTs:s.TypeIs (.ref sl) "slice" := ⟨os,hos,hcs⟩;unfold getItem
 try with_reducible refine Zk ?_
 first | refine wpAny_bind (Qf ?_) | skip
 refine wpAny_bind (Qw7 ht.typeIs (by decide) ?_);refine wpAny_bind (JU (name:=YO "__getitem__") ht.typeIs JM
  (J8 JM ht.typeIs Qux ?_ (QwG _ _)))
 show wpAny _ _ (Qda (.ref t) >>= _) _ _ s;refine wpAny_bind (tupleItemsOf_ ht ?_);refine wpAny_bind (Qg6 hTs ?_);rw[if_pos (by decide)];refine wpAny_bind (Qbb hs pl pu ?_);have hno:¬((((sIx items.size 0 lo:Nat):Int) == 0&&(1:Int) == 1&&(sIx items.size items.size hi - sIx items.size 0 lo) == items.size)=true):=by
  intro q;rw[JP,JP] at q;have q1:((sIx items.size 0 lo:Nat):Int)=0:=eq_of_beq q.1.1;have q2:sIx items.size items.size hi - sIx items.size 0 lo=items.size:=eq_of_beq q.2;exact hw ⟨by omega,by omega⟩
 show wpAny _ _ (if(((sIx items.size 0 lo:Nat):Int) == 0&&(1:Int) == 1&&(sIx items.size items.size hi - sIx items.size 0 lo) == items.size)=true then _ else _) _ _ s;rw[if_neg hno,Qn9]
 first
  |exact wpAny_bind (m:=Yl _) (Jy (Qf ⟨_,rfl,Qf h⟩) htake)
  |exact wpAny_bind (m:=Yl _) (Jy (wpAny_bind (Qf (Qf ⟨_,rfl,Qf h⟩))) htake)
  |exact wpAny_bind (wpAny_bind (m:=Yl _) (Jy (Qf (Qf ⟨_,rfl,Qf h⟩)) htake))
  |exact wpAny_bind (wpAny_bind (m:=Yl _) (Jy (Qf ⟨_,rfl,Qf h⟩) htake))
end
end HT
namespace L2
abbrev TO:=St->Hp->(Option Int->Hp->Prop)->Prop
def PO(X:Cx)(e:Option QX)(t:TO):Prop:=
 ∀(pins:List (Addr×Obj))(s:Shared)(σ:St)(H:Hp)(Q:Option Int->Hp->Prop),Inv X pins σ H s->t σ H Q ->
  wpAny (model X.prog X.w) X.A (evalPart e X.env) (λu s'=>∃o H',Inv X pins σ H' s'/\Qha u o/\Q o H') X.xe s
def QrU:TO:=λ_ H Q=>Q none H
def QxM(t:TE):TO:=λσ H Q=>t σ H λx H1=>∃i,x=.int i/\Q (some i) H1
theorem intsAre_of{ns:List Int}:∀{us:List Value},Vals (ns.map V.int) us->Qes us ns:=by
 induction ns with
 |nil=>intro us r;rw[Qep] at r;cases r;exact .nil
 |cons n ns ih=>
  intro us r;rw[JQ] at r;cases r with
  |cons r1 r2=>
   obtain⟨t,e⟩:=r1;subst e;exact .cons n t (ih r2)
section
variable{X:Cx}{e:QX}{te:TE}{lo hi:Option QX}{tl th:TO}{pos p2:Pos}
theorem Qsz:PO X none QrU:=by
 intro pins s σ H Q I h;rw[evalPart_none];exact Qf ⟨none,H,I,.none,h⟩
theorem Qsy(h:PE X e te):PO X (some e) (QxM te):=by
 intro pins s σ H Q I hw;rw[evalPart_some];refine thn (h pins s σ H _ I hw) λu s1 ⟨x,H1,I1,r1,q1⟩=>?_
 obtain⟨i,rfl,q⟩:=q1;obtain⟨t,rfl⟩:=r1;exact⟨some i,H1,I1,.int i t,q⟩
def SlR(X:Cx)(r:V->Option Int->Option Int->Hp->VK->Prop):Prop:=
 ∀(pins:List (Addr×Obj))(s:Shared)(σ:St)(H:Hp)(x:V)(v vl vu:Value)(lo hi:Option Int)(sl:Addr)(Q:VK),Inv X pins σ H s->RelV x v->s.heap.IsSliceOf sl vl vu .none->Qha vl lo->Qha vu hi->r x lo hi H Q ->
  ∃T id,typeLookup (.type T) "__getitem__" = pure (some (.builtin id))/\s.TypeIs v T/\wpAny (model X.prog X.w) X.A (getItem v (.ref sl)) (EP X pins σ Q) X.xe s
def tSl(r:V->Option Int->Option Int->Hp->VK->Prop)(te:TE)(tl th:TO):TE:=λσ H Q=>te σ H λx H1=>tl σ H1 λl H2=>th σ H2 λu H3=>r x l u H3 Q
theorem Qoa{r:V->Option Int->Option Int->Hp->VK->Prop}(hr:SlR X r)(he:PE X e te)(hl:PO X lo tl)(hu:PO X hi th):PE X (.Subscript e (.Slice lo hi none p2) pos) (tSl r te tl th):=by
 intro pins s σ H Q I h;refine Qxj (thn (he pins s σ H _ I h) λv s1 ⟨x,H1,I1,r1,q1⟩=>?_);refine wpAny_Slice (thn (hl pins s1 σ H1 _ I1 q1) λvl s2 ⟨l,H2,I2,pl,q2⟩=>thn (hu pins s2 σ H2 _ I2 q2) λvu s3 ⟨u,H3,I3,pu,q3⟩=>?_);rw[evalPart_none];refine Qf ?_
 have I4:Inv X pins σ H3 { s3 with heap:=s3.heap.push { cls:=.type "slice",data:=.fields #[vl,vu,.none] } }:=I3.kept (t':=s3.toks) λb ob q=>Qd _ q
 obtain⟨T,id,hT,ht,hg⟩:=hr pins { s3 with heap:=s3.heap.push { cls:=.type "slice",data:=.fields #[vl,vu,.none] } } σ H3 x v vl vu l u s3.heap.objs.size Q I4 r1 (QwP ..) pl pu q3;show wpAny (model X.prog X.w) X.A (subscriptTail e (.Slice lo hi none p2) v (.ref s3.heap.objs.size)) (EP X pins σ Q) X.xe { s3 with heap:=s3.heap.push { cls:=.type "slice",data:=.fields #[vl,vu,.none] } };exact tail_any (ops:=[.ref s3.heap.objs.size,v]) ht hT hg (by with_unfolding_all rfl)
def QiH(xs:List V)(lo hi:Option Int):List V:=(xs.drop (HT.sIx xs.length 0 lo)).take (HT.sIx xs.length xs.length hi - HT.sIx xs.length 0 lo)
theorem Qea(xs:List V)(lo hi:Option Int):(QiH xs lo hi).length<=xs.length:=by
 unfold QiH;rw[Qas,QeB];omega
def Qzt(K:PySem.W.Frag):V->Option Int->Option Int->Hp->VK->Prop:=λx lo hi H Q=>∃a xs,x=.ref a/\SqT K H a xs /\
 ¬(HT.sIx xs.length 0 lo=0/\HT.sIx xs.length xs.length hi=xs.length)/\∀p,H p=none->Q (.ref p) (upd H p (.tup (QiH xs lo hi)))
theorem QuQ:SlR X (Qzt X.K):=by
 intro pins s σ H x v vl vu lo hi sl Q I rx hs pl pu h;obtain⟨a,xs,rfl,hx,hw,q⟩:=h;cases rx;obtain⟨its,r,ht,hz⟩:=I.tuple hx;have hlen:its.toArray.size=xs.length:=by rw[Qk];exact r.length.symm
 refine⟨"tuple",_,JM.lookup,ht.typeIs,?_⟩;refine HT.Qc0 ht hs pl pu (by rw[hlen];exact hw) ?_ (by rw[hlen];exact hz)
 rw[hlen];refine⟨.ref s.heap.objs.size,_,I.laid (t':=s.toks) (o:=.tup (QiH xs lo hi)) (λb ob q=>Qd _ q) (Qh _) ?_,rfl,q _ (I.hok.fresh (Qh _))⟩;exact⟨QL (Qea xs lo hi) hz,_,(r.drop (HT.sIx xs.length 0 lo)).take (HT.sIx xs.length xs.length hi - HT.sIx xs.length 0 lo),TupN.new _ _⟩
def QxZ(K:PySem.W.Frag):R2:=λx y H Q=>∃a b xs ys,x=.ref a/\y=.ref b/\SqT K H a xs/\SqT K H b ys/\xs≠[]/\xs.length+ys.length<=sizeLine /\
 (ys=[]->Q (.ref a) H)/\(ys≠[]->∀p,H p=none->Q (.ref p) (upd H p (.tup (xs++ys))))
theorem Vals.nil_iff{xs:List V}{us:List Value}(r:Vals xs us):us=[]↔xs=[]:=by
 cases r with
 |nil=>simp
 |cons _ _=>simp
theorem Qs8:OpR X (binaryOp .Add) (QxZ X.K):=by
 intro pins s σ H x y v u Q I rx ry h;obtain⟨a,b,xs,ys,rfl,rfl,ha,hb,hx,hz,q1,q2⟩:=h;cases rx;cases ry;obtain⟨its,r1,p1,_⟩:=I.tuple ha;obtain⟨its2,r2,p2,_⟩:=I.tuple hb;refine HT.Qt3 p1 p2 (λz=>hx (r1.nil_iff.mp z)) (λz=>⟨.ref a,H,I,rfl,q1 (r2.nil_iff.mp z)⟩) (λz=>?_) (by rw[<- r1.length,<- r2.length];exact hz);refine⟨.ref s.heap.objs.size,_,I.laid (t':=s.toks) (o:=.tup (xs++ys)) (λb ob q=>Qd _ q) (Qh _) ?_,rfl,q2 (λw=>z (r2.nil_iff.mpr w)) _ (I.hok.fresh (Qh _))⟩;exact⟨by rw[Qv];exact hz,_,r1.append r2,TupN.new _ _⟩
end
def ixN(n:Nat)(i:Int):Option Nat:=if 0<=i then(if i<n then some i.toNat else none) else if -(n:Int)<=i then some (i+n).toNat else none
def atI{α:Type}(xs:List α)(i:Int):Option α:=(ixN xs.length i).bind λj=>xs[j]?
theorem Qmq{n:Nat}{i:Int}{j:Nat}(h:ixN n i=some j):seqIndex? i n=some j/\j<n /\ -(n:Int)<=i/\i<n:=by
 unfold ixN at h;by_cases h0:0<=i
 ·rw[if_pos h0] at h;by_cases h1:i<n
  ·rw[if_pos h1] at h;have e:i.toNat=j:=QB h;exact⟨by rw[QiS h0 h1,e],by omega,by omega,h1⟩
  ·rw[if_neg h1] at h;cases h
 ·rw[if_neg h0] at h;by_cases h1 : -(n:Int)<=i
  ·rw[if_pos h1] at h;have e:(i+n).toNat=j:=QB h;exact⟨by rw[Qg7 (by omega) h1,e],by omega,h1,by omega⟩
  ·rw[if_neg h1] at h;cases h
theorem QhR{α:Type}{xs:List α}{i:Int}{v:α}(h:atI xs i=some v):∃j,seqIndex? i xs.length=some j/\xs[j]? = some v/\j<xs.length /\ -(xs.length:Int)<=i/\i<xs.length:=by
 unfold atI at h;cases e:ixN xs.length i with
 |none=>rw[e] at h;cases h
 |some j=>
  rw[e] at h;obtain⟨h1,h2,h3,h4⟩:=Qmq e;exact⟨j,h1,h,h2,h3,h4⟩
theorem JB{α:Type}{xs:List α}{j:Nat}{v:α}(h:xs[j]? = some v):atI xs (j:Int)=some v:=by
 have hj:j<xs.length:=(Q2.mp h).1;have e:ixN xs.length (j:Int)=some j:=by
  unfold ixN;rw[if_pos (by omega),if_pos (by omega)];simp
 unfold atI;rw[e];exact h
theorem QbI{α:Type}(xs:List α)(v:α):atI (xs++[v]) (-1)=some v:=by
 have hl:(xs++[v]).length=xs.length+1:=by simp
 have e:ixN (xs++[v]).length (-1)=some xs.length:=by
  unfold ixN;rw[hl,if_neg (by decide),if_pos (by omega)]
  congr 1
  omega
 unfold atI;rw[e];show(xs++[v])[xs.length]? = some v;simp
def QhT(b:QX):Prop:=∀o i,subscripted b false o i=operate [o,i] (getItem o i)
def IxR(X:Cx)(r:R2):Prop:=
 ∀(value slice:QX)(pins:List (Addr×Obj))(s:Shared)(σ:St)(H:Hp)(x y:V)(v u:Value)(Q:VK),Inv X pins σ H s->RelV x v->RelV y u->r x y H Q ->
  subscripted slice false v u=operate [v,u] (getItem v u)->wpAny (model X.prog X.w) X.A (subscriptTail value slice v u) (EP X pins σ Q) X.xe s
def MtR(X:Cx)(id:String)(r:V->List V->Hp->VK->Prop):Prop:=
 ∀(pins:List (Addr×Obj))(s:Shared)(σ:St)(H:Hp)(x:V)(xs:List V)(v:Value)(us:List Value)(Q:VK),Inv X pins σ H s->RelV x v->Vals xs us->r x xs H Q ->
  wpAny (model X.prog X.w) X.A (call (.builtin id) (v::us)) (EP X pins σ Q) X.xe s
section
variable{X:Cx}{a b:QX}{ta tb:TE}{pos:Pos}
theorem pe_ix{r:R2}(hr:IxR X r)(ha:PE X a ta)(hb:PE X b tb)(hs:QhT b):PE X (.Subscript a b pos) (tOp r ta tb):=by
 intro pins s σ H Q I h;exact Qxj (QyC ha hb I h λv u s2 x y H2 I2 rx ry q=>hr a b pins s2 σ H2 x y v u Q I2 rx ry q (hs _ _))
def Qp3(K:PySem.W.Frag):R2:=λx y H Q=>∃p xs i v,x=.ref p/\y=.int i/\SqL K H p xs/\atI xs i=some v/\Q v H
def QxW(K:PySem.W.Frag):R2:=λx y H Q=>∃p xs i v,x=.ref p/\y=.int i/\SqT K H p xs/\atI xs i=some v/\Q v H
theorem ix_list:IxR X (Qp3 X.K):=by
 intro value slice pins s σ H x y v u Q I rx ry h hs;obtain⟨p,xs,i,z,rfl,rfl,hq,he,q⟩:=h;cases rx;obtain⟨t,rfl⟩:=ry;obtain⟨its,r,pl,hz⟩:=I.list hq;obtain⟨j,h1,h2,h3,h4,h5⟩:=QhR he;obtain⟨w,ew,rw'⟩:=r.get h2;have hl:=r.length;have hn:=QeY;have fin:EP X pins σ Q w s:=⟨z,H,I,rw',q⟩;by_cases h0:0<=i
 ·have hj:i.toNat=j:=by
   rw[QiS h0 h5] at h1;exact QB h1
  exact item_listR pl.isList h0 (by omega) (by rw[hj];simpa using ew) fin hs
 ·have hj:(i+(its.toArray.size:Int)).toNat=j:=by
   rw[Qg7 (by omega) h4] at h1;rw[Qk,<- hl];exact QB h1
  exact QpC (x:=w) pl.isList.typeIs Qxd.lookup
   (QpB (Q:=λr s'=>r=w/\EP X pins σ Q r s') pl.isList (by omega) (by rw[Qk]<;>omega) (by omega) (by rw[hj];simpa using ew) ⟨rfl,fin⟩) hs
theorem ix_tup:IxR X (QxW X.K):=by
 intro value slice pins s σ H x y v u Q I rx ry h hs;obtain⟨p,xs,i,z,rfl,rfl,hq,he,q⟩:=h;cases rx;obtain⟨t,rfl⟩:=ry;obtain⟨its,r,pl,hz⟩:=I.tuple hq;obtain⟨j,h1,h2,h3,h4,h5⟩:=QhR he;obtain⟨w,ew,rw'⟩:=r.get h2;have hl:=r.length;have hn:=QeY;have fin:EP X pins σ Q w s:=⟨z,H,I,rw',q⟩;exact QpC (x:=w) pl.typeIs slot_tuple_getitem.lookup
  (getItem_tuple (j:=j) (Q:=λr s'=>r=w/\EP X pins σ Q r s') pl (by omega) (by omega) (by rw[Qk,<- hl];exact h1) (by simpa using ew) ⟨rfl,fin⟩) hs
theorem Qjw(its:List Value)(n j:Nat)(u:Value):Yu (·.setIfInBounds j u) { cls:=.type "list",data:=.seq its.toArray n }={ cls:=.type "list",data:=.seq (its.set j u).toArray n }:=by
 simp[Yu]
theorem Inv.lst{pins:List (Addr×Obj)}{σ:St}{H:Hp}{s:Shared}{p:Addr}{xs:List V}(I:Inv X pins σ H s)(h:H p=some (.lst xs)) :
  ∃(its:List Value)(n:Nat),Vals xs its/\s.heap.get? p=some { cls:=.type "list",data:=.seq its.toArray n }/\xs.length<=sizeLine:=by
 obtain⟨z,its,n,r,e⟩:=I.hok p _ h;exact⟨its,n,r,e,z⟩
theorem Inv.lstUpd{pins:List (Addr×Obj)}{σ:St}{H:Hp}{s:Shared}{p:Addr}{xs ys:List V}{its its':List Value}{n n':Nat}{f:Obj->Obj}(I:Inv X pins σ H s)(h:H p=some (.lst xs))
  (ho:s.heap.get? p=some { cls:=.type "list",data:=.seq its.toArray n })(hf:f { cls:=.type "list",data:=.seq its.toArray n }={ cls:=.type "list",data:=.seq its'.toArray n' })(r:Vals ys its')(hz:ys.length<=sizeLine)(t:Nat) :
  Inv X pins σ (upd H p (.lst ys)) { s with heap:=s.heap.update p f,toks:=t }:=by
 have e:(s.heap.update p f).get? p=some { cls:=.type "list",data:=.seq its'.toArray n' }:=by
  rw[Qag f ho (by rw[hf]<;>rfl),hf]
 refine I.write (x:=p) (e:=p) (by rw[h];trivial) (.inl rfl) (λb u hb q=>(Qi1 _ _ (Y2 hb)).trans q) ⟨_,e⟩ ?_
 exact⟨hz,its',n',r,e⟩
def Qlj:V->V->V->Hp->(Hp->Prop)->Prop:=λo i v H Q=>∃p xs k j,o=.ref p/\i=.int k/\H p=some (.lst xs)/\ixN xs.length k=some j/\Q (upd H p (.lst (xs.set j v)))
theorem QdC:QyI X Qlj:=by
 intro pins s σ H o i v ov iv u Q I ro ri rv h;obtain⟨p,xs,k,j,rfl,rfl,hp,hj,q⟩:=h;cases ro;obtain⟨t,rfl⟩:=ri;obtain⟨its,n,r,ho,hz⟩:=I.lst hp;obtain⟨h1,h2,h3,h4⟩:=Qmq hj;have hl:=r.length;have hn:=QeY;have I':Inv X pins σ (upd H p (.lst (xs.set j v))) { s with heap:=s.heap.update p (Yu (·.setIfInBounds j u)) }:=
  I.lstUpd hp ho (Qjw its n j u) (r.set rv j) (by rw[Zc];exact hz) s.toks
 by_cases h0:0<=k
 ·have hk:k.toNat=j:=by
   rw[QiS h0 h4] at h1;exact QB h1
  exact PySem.W.ki_setAt ho h0 (by omega) (by rw[Qk,<- hl];exact h4) (by rw[hk];exact⟨_,I',q⟩)
 ·have hk:(k+(its.toArray.size:Int)).toNat=j:=by
   rw[Qg7 (by omega) h3] at h1;rw[Qk,<- hl];exact QB h1
  exact PySem.W.ki_setBack ho (by omega) (by rw[Qk,<- hl];exact h3) (by omega) (by rw[hk];exact⟨_,I',q⟩)
theorem Qgs(lo hi:Option Int)(n:Nat):(sliceBounds lo hi none n).1=((HT.sIx n 0 lo:Nat):Int)/\(sliceBounds lo hi none n).2.1=((HT.sIx n n hi:Nat):Int)/\(sliceBounds lo hi none n).2.2=1:=by
 refine⟨?_,?_,rfl⟩
 ·cases lo with
  |none=>simp[sliceBounds,HT.sIx]
  |some i=>
   simp only[sliceBounds,HT.sIx,Qnv,show(1:Int) > 0 by decide,if_true];by_cases h:i<0
   ·simp only[h,if_true]<;>omega
   ·simp only[h,if_false]<;>omega
 ·cases hi with
  |none=>simp[sliceBounds,HT.sIx]
  |some i=>
   simp only[sliceBounds,HT.sIx,Qnv,show(1:Int) > 0 by decide,if_true];by_cases h:i<0
   ·simp only[h,if_true]<;>omega
   ·simp only[h,if_false]<;>omega
theorem Qfv(its:List Value)(lo hi:Option Int):slicePick its.toArray lo hi none=((its.drop (HT.sIx its.length 0 lo)).take (HT.sIx its.length its.length hi - HT.sIx its.length 0 lo)).toArray:=by
 obtain⟨h1,h2,h3⟩:=Qgs lo hi its.toArray.size;unfold slicePick;rw[h1,h2,h3];simp only[sliceRange_one,pick_run,Qk]<;>rfl
def Qzu(K:PySem.W.Frag):V->Option Int->Option Int->Hp->VK->Prop:=λx lo hi H Q=>∃a xs,x=.ref a/\SqL K H a xs/\∀p,H p=none->Q (.ref p) (upd H p (.lst (QiH xs lo hi)))
theorem Qr3:SlR X (Qzu X.K):=by
 intro pins s σ H x v vl vu lo hi sl Q I rx hs pl pu h;obtain⟨a,xs,rfl,hx,q⟩:=h;cases rx;obtain⟨its,r,ht,hz⟩:=I.list hx;have hlen:=r.length;refine⟨"list",_,Qxd.lookup,ht.isList.typeIs,?_⟩;refine wpAny_getItem_list_slice ht.isList hs pl pu .none (by simp) ?_ (by rw[Qk]<;>omega)
 rw[Qfv,<- hlen];refine⟨.ref s.heap.objs.size,_,I.laid (t':=s.toks) (o:=.lst (QiH xs lo hi)) (λb ob q=>Qd _ q) (Qh _) ?_,rfl,q _ (I.hok.fresh (Qh _))⟩;exact⟨QL (Qea xs lo hi) hz,_,0,(r.drop (HT.sIx xs.length 0 lo)).take (HT.sIx xs.length xs.length hi - HT.sIx xs.length 0 lo),Qs _ rfl⟩
def QgK:V->Bool
 |.non=>true
 |.bl _=>true
 |.int _=>true
 |.str _=>true
 |_=>false
def eqV:V->V->Bool
 |.non,.non=>true
 |.bl a,.bl b=>a == b
 |.bl a,.int b=>(if a then 1 else 0) == b
 |.int a,.bl b=>a == (if b then 1 else 0)
 |.int a,.int b=>a == b
 |.str a,.str b=>a == b
 |_,_=>false
theorem Qv4{A:Q9}{s:Shared}{y x:V}{u v:Value}(ry:RelV y u)(rx:RelV x v)(fy:QgK y=true)(fx:QgK x=true):Qnr A s u v (eqV y x):=by
 cases y with
 |non=>
  cases ry;cases x with
  |non=>cases rx;exact SeqAt.EqAt.same _
  |bl b=>cases rx;exact SeqAt.EqAt.none_bool b
  |int b=>obtain⟨t,rfl⟩:=rx;exact SeqAt.EqAt.none_int b t
  |str b=>obtain⟨t,rfl⟩:=rx;exact SeqAt.EqAt.none_str b t
  |_=>exact absurd (show false=true from fx) Qp
 |bl a=>
  cases ry;cases x with
  |non=>cases rx;exact SeqAt.EqAt.bool_none a
  |bl b=>cases rx;exact Qbz a b
  |int b=>obtain⟨t,rfl⟩:=rx;exact SeqAt.EqAt.bool_int a b t
  |str b=>obtain⟨t,rfl⟩:=rx;exact SeqAt.EqAt.bool_str a b t
  |_=>exact absurd (show false=true from fx) Qp
 |int a=>
  obtain⟨t',rfl⟩:=ry;cases x with
  |non=>cases rx;exact SeqAt.EqAt.int_none a t'
  |bl b=>cases rx;exact SeqAt.EqAt.int_bool a t' b
  |int b=>obtain⟨t,rfl⟩:=rx;exact SeqAt.EqAt.int_int a t' b t
  |str b=>obtain⟨t,rfl⟩:=rx;exact Qhi a t' b t
  |_=>exact absurd (show false=true from fx) Qp
 |str a=>
  obtain⟨t',rfl⟩:=ry;cases x with
  |non=>cases rx;exact SeqAt.EqAt.str_none a t'
  |bl b=>cases rx;exact SeqAt.EqAt.str_bool a t' b
  |int b=>obtain⟨t,rfl⟩:=rx;exact Qhh a t' b t
  |str b=>obtain⟨t,rfl⟩:=rx;exact SeqAt.EqAt.str_str a t' b t
  |_=>exact absurd (show false=true from fx) Qp
 |_=>exact absurd (show false=true from fy) Qp
def eqU(x:V)(u:Value):Bool:=match u with
 |.none=>eqV .non x
 |.bool b=>eqV (.bl b) x
 |.int i _=>eqV (.int i) x
 |.str z _=>eqV (.str z) x
 |_=>false
theorem Qrm{x y:V}{u:Value}(r:RelV y u)(f:QgK y=true):eqU x u=eqV y x:=by
 cases y with
 |non=>cases r;rfl
 |bl b=>cases r;rfl
 |int i=>obtain⟨t,rfl⟩:=r;rfl
 |str z=>obtain⟨t,rfl⟩:=r;rfl
 |_=>exact absurd (show false=true from f) Qp
theorem QhS{x:V}:∀{xs:List V}{us:List Value},Vals xs us->xs.all QgK=true->us.any (eqU x)=xs.any λy=>eqV y x
 |_,_,.nil,_=>rfl
 |y::xs,u::us,.cons r t,f=>by
  rw[QhY,JP] at f;rw[Yq,Yq,Qrm r f.1,QhS t f.2]
theorem QfO{A:Q9}{s:Shared}{x:V}{v:Value}(rx:RelV x v)(fx:QgK x=true):∀{xs:List V}{us:List Value},Vals xs us->xs.all QgK=true->∀u∈us,Qnr A s u v (eqU x u)
 |_,_,.nil,_=>λu hu=>by cases hu
 |y::xs,u::us,.cons r t,f=>λu' hu=>by
  rw[QhY,JP] at f;rcases Qz.mp hu with rfl | hu
  ·rw[Qrm r f.1];exact Qv4 r rx f.1 fx
  ·exact QfO rx fx t f.2 u' hu
def inV(x:V)(xs:List V):Bool:=xs.any λy=>eqV y x
def rIn(K:PySem.W.Frag)(neg:Bool):R2:=λx y H Q=>∃p xs,y=.ref p/\(SqL K H p xs∨SqT K H p xs)/\QgK x=true/\xs.all QgK=true/\Q (.bl (if neg then !inV x xs else inV x xs)) H
theorem Qgz:OpR X (compareOp .NotIn) (rIn X.K true):=by
 intro pins s σ H x y v u Q I rx ry h;obtain⟨p,xs,rfl,hq,fx,fs,q⟩:=h;cases ry;rcases hq with hq | hq
 ·obtain⟨its,r,pl,hz⟩:=I.list hq;refine Qni (eqU x) pl.isList (λw hw=>QfO rx fx r fs w (by simpa using hw)) ⟨.bl _,H,I,rfl,?_⟩;rw[show its.toArray.any (eqU x)=its.any (eqU x) by simp,QhS r fs];exact q
 ·obtain⟨its,r,pl,hz⟩:=I.tuple hq;refine Qkp (eqU x) pl (λw hw=>QfO rx fx r fs w (by simpa using hw)) ⟨.bl _,H,I,rfl,?_⟩;rw[show its.toArray.any (eqU x)=its.any (eqU x) by simp,QhS r fs];exact q
theorem ZR:CallR X (.builtin "len") (λxs H Q=>∃p ys,xs=[.ref p]/\(SqL X.K H p ys∨SqT X.K H p ys)/\Q (.int ys.length) H):=by
 intro pins s σ H xs us Q I r h;obtain⟨p,ys,rfl,hq,q⟩:=h;obtain⟨u,rfl,rx⟩:=vals1 r;cases rx;have hn:=QeY;rcases hq with hq | hq
 ·obtain⟨its,r',pl,hz⟩:=I.list hq;have hlen:=r'.length;exact Calls.call_len_list pl.isList (by simp only[Qk]<;>omega) ⟨.int ys.length,H,I.tok _,⟨s.toks+1,by rw[Qk,hlen]⟩,q⟩
 ·obtain⟨its,r',pl,hz⟩:=I.tuple hq;have hlen:=r'.length;exact len_tuple pl (by simp only[Qk]<;>omega) ⟨.int ys.length,H,I.tok _,⟨s.toks+1,by rw[Qk,hlen]⟩,q⟩
theorem QgV:CallR X (.type "list") (λxs H Q=>∃p ys,xs=[.ref p]/\(SqL X.K H p ys∨SqT X.K H p ys)/\∀l,H l=none->Q (.ref l) (upd H l (.lst ys))):=by
 intro pins s σ H xs us Q I r h;obtain⟨p,ys,rfl,hq,q⟩:=h;obtain⟨u,rfl,rx⟩:=vals1 r;cases rx;have fin:∀(its:List Value),Vals ys its->ys.length<=sizeLine->∀(h':JR)(c':Nat),(∀b o',s.heap.get? b=some o'->h'.get? b=some o') ->
   h'.get? s.heap.objs.size=some { cls:=.type "list",dict:=none,data:=.seq its.toArray c',slots:=#[] }->EP X pins σ Q (.ref s.heap.objs.size) { s with heap:=h' }:=λits r' hz h' c' kp e=>
  ⟨.ref s.heap.objs.size,_,I.laid (t':=s.toks) kp (Qh _) (show ObjOk X.prog X.w _ h' _ (.lst ys) from⟨hz,its,c',r',e⟩),rfl,q _ (I.hok.fresh (Qh _))⟩
 rcases hq with hq | hq
 ·obtain⟨its,r',pl,hz⟩:=I.list hq;have hlen:=r'.length;obtain⟨o,ho,hc,n,hd⟩:=pl.isList;exact call_list_seq p (.inl rfl) ho hc hd (λh' c' kp e=>fin its r' hz h' c' kp e) (by simp only[Qk]<;>omega)
 ·obtain⟨its,r',pl,hz⟩:=I.tuple hq;have hlen:=r'.length;obtain⟨o,ho,hc,n,hd⟩:=pl;exact call_list_seq p (.inr rfl) ho hc hd (λh' c' kp e=>fin its r' hz h' c' kp e) (by simp only[Qk]<;>omega)
theorem Qf5:CallR X (.type "tuple") (λxs H Q=>∃p ys,xs=[.ref p]/\((SqL X.K H p ys/\∀l,H l=none->Q (.ref l) (upd H l (.tup ys)))∨(SqT X.K H p ys/\Q (.ref p) H))):=by
 intro pins s σ H xs us Q I r h;obtain⟨p,ys,rfl,h⟩:=h;obtain⟨u,rfl,rx⟩:=vals1 r;cases rx;rcases h with⟨hq,q⟩ | ⟨hq,q⟩
 ·obtain⟨its,r',pl,hz⟩:=I.list hq;have hlen:=r'.length;refine call_tuple_list pl.isList (λh' kp=>?_) (by simp only[Qk]<;>omega);have I1:Inv X pins σ H { s with heap:=h' }:=I.kept (t':=s.toks) kp;have I2:Inv X pins σ (upd H h'.objs.size (.tup ys)) { s with heap:=h'.push { cls:=.type "tuple",data:=.seq its.toArray } }:=
   I1.laid (t':=s.toks) (λb o e=>Qd _ e) (Qh _) (show ObjOk X.prog X.w _ _ _ (.tup ys) from⟨hz,its,r',TupN.new _ _⟩)
  exact⟨.ref h'.objs.size,_,I2,rfl,q _ (I1.hok.fresh (Qh _))⟩
 ·obtain⟨its,r',pl,hz⟩:=I.tuple hq;exact call_tuple_same pl ⟨.ref p,H,I,rfl,q⟩
def tyV(K:PySem.W.Frag)(T:String)(x:V)(H:Hp):Prop:=match x with
 |.str _=>T = "str"
 |.int _=>T = "int"
 |.ref p=>(T = "list" /\ ∃xs,SqL K H p xs)∨(T = "tuple" /\ ∃o,K.lookup p=some o/\o.cls=.type "tuple" /\ o.dict=none) ∨
   (T = "dict" /\ ((∃kvs,H p=some (.dK kvs))∨∃kvs,H p=some (.dT kvs)))∨(T = "set" /\ ∃S n,H p=some (.set S n))
 |_=>False
theorem QpO{pins:List (Addr×Obj)}{σ:St}{H:Hp}{s:Shared}{T:String}{x:V}{v:Value}(I:Inv X pins σ H s)(r:RelV x v)(ty:tyV X.K T x H) :
  s.TypeIs v T/\∀a,v=.ref a->∃ob,s.heap.get? a=some ob/\ob.dict=none:=by
 cases x with
 |str z=>
  obtain⟨t,rfl⟩:=r;cases(show T = "str" from ty);exact⟨typeIs_str s z t,λ_ e=>nomatch e⟩
 |int i=>
  obtain⟨t,rfl⟩:=r;cases(show T = "int" from ty);exact⟨Qxc s i t,λ_ e=>nomatch e⟩
 |ref p=>
  cases r;rcases ty with⟨rfl,xs,hq⟩ | ⟨rfl,o,hk,hc,hd⟩ | ⟨rfl,hk⟩ | ⟨rfl,S,n,hk⟩
  ·obtain⟨its,_,pl,_⟩:=I.list hq;refine⟨pl.isList.typeIs,λa e=>?_⟩;cases e;obtain⟨o,n,e,c,hd,_⟩:=pl;exact⟨o,e,hd⟩
  ·refine⟨⟨o,I.kIn p o hk,hc⟩,λa e=>?_⟩;cases e;exact⟨o,I.kIn _ o hk,hd⟩
  ·have z:∃o,s.heap.get? p=some o/\o.ExactDict:=by
    rcases hk with⟨kvs,hk⟩ | ⟨kvs,hk⟩
    ·obtain⟨_,_,_,_,o,_,_,e,ex,_⟩:=I.hok p _ hk;exact⟨o,e,ex⟩
    ·obtain⟨_,_,_,_,o,_,_,e,ex,_⟩:=I.hok p _ hk;exact⟨o,e,ex⟩
   obtain⟨o,e,ex⟩:=z;refine⟨⟨o,e,ex.1⟩,λa e2=>?_⟩;cases e2;exact⟨o,e,ex.2.1⟩
  ·obtain⟨o,_,_,_,e,ex,_⟩:=I.hok p _ hk;refine⟨⟨o,e,ex.1⟩,λa e2=>?_⟩;cases e2;exact⟨o,e,ex.2.1⟩
 |_=>exact Jj ty
def Qzr(K:PySem.W.Frag)(T:String)(r:V->List V->Hp->VK->Prop)(to:TE):TE:=λσ H Q=>to σ H λx H1=>tyV K T x H1/\r x [] H1 Q
def tBM(K:PySem.W.Frag)(T:String)(r:V->List V->Hp->VK->Prop)(to:TE)(t:TA):TE:=λσ H Q=>to σ H λx H1=>tyV K T x H1/\t σ H1 λxs H2=>r x xs H2 Q
variable{o e:QX}{es:List QX}{to:TE}{t:TA}{name:Str}{apos cpos:Pos}{T id:String}{r:V->List V->Hp->VK->Prop}
theorem QlG(pa:PlainAttrs T)(slot:Slot T name id)(hty:typeOf (.builtin id)=pure (.type "method_descriptor"))(hm:MtR X id r)(ho:PE X o to)
  (hbase:attributeBase o name X.env (eval o X.env)=eval o X.env:=by rfl)(hline:(apos.endLine == cpos.line)=true:=by rfl):PE X (.Call (.Attribute o name apos) [] [] cpos) (Qzr X.K T r to):=by
 intro pins s σ H Q I h;refine wpAny_Call_method0_late hbase hline (thn (ho pins s σ H _ I h) λv s1 ⟨x,H1,I1,r1,ty,q1⟩=>?_);obtain⟨h1,h2⟩:=QpO I1 r1 ty;exact⟨T,id,pa,slot,hty,h1,h2,QbK rfl (PySem.evalArgs_none (hm pins s1 σ H1 x [] v [] Q I1 r1 .nil q1))⟩
theorem Qjn(pa:PlainAttrs T)(slot:Slot T name id)(hty:typeOf (.builtin id)=pure (.type "method_descriptor"))(hm:MtR X id r)(ho:PE X o to)(ha:PA X (e::es) t)
  (hbase:attributeBase o name X.env (eval o X.env)=eval o X.env:=by rfl)
  (hfew:((backTo cpos (starEach (e::es) X.env)).all (λx => !x.1)&&(backToKw cpos (keywordEach [] X.env)).all (λx=>x.1.isSome)
   && decide ((e::es).length+([]:List Qer).length+(if([]:List Qer).isEmpty then 0 else 1)<30))=true:=by rfl)
  (hline:(apos.endLine == cpos.line)=true:=by rfl) (hs:starEach (e::es) X.env=(false,eval e X.env)::starEach es X.env:=by rfl) (hplain:(backTo cpos (starEach es X.env)).any (·.1)=false:=by rfl) :
  PE X (.Call (.Attribute o name apos) (e::es) [] cpos) (tBM X.K T r to t):=by
 intro pins s σ H Q I h;refine wpAny_Call_method_late hbase hfew hline rfl (thn (ho pins s σ H _ I h) λv s1 ⟨x,H1,I1,r1,ty,q1⟩=>?_);obtain⟨h1,h2⟩:=QpO I1 r1 ty;refine⟨T,id,pa,slot,hty,h1,h2,?_⟩;have hA:=ha cpos pins s1 σ H1 _ I1 q1;rw[hs] at hA ⊢;refine QbK (by show(false||(backTo cpos (starEach es X.env)).any (·.1))=false;rw[hplain]<;>rfl) (Qcj ?_);exact thn hA λus s2 ⟨vs,H2,I2,r2,q2⟩=>hm pins s2 σ H2 x vs v us Q I2 r1 r2 q2
end
def MtM(X:Cx)(id:String)(r:V->List V->Hp->VK->Prop):Prop:=
 ∀(pins:List (Addr×Obj))(s:Shared)(σ:St)(H:Hp)(x:V)(xs:List V)(v:Value)(us:List Value)(Q:VK),Inv X pins σ H s->RelV x v->Vals xs us->r x xs H Q ->
  wpAny (model X.prog X.w) X.A (call (.builtin id) (v::us)) (EP X pins σ Q) X.xe s
theorem Vals.one:∀{x:V}{us:List Value},Vals [x] us->∃u,us=[u]/\RelV x u
 |_,_,.cons r .nil=>⟨_,rfl,r⟩
theorem Vals.zero:∀{us:List Value},Vals [] us->us=[]
 |_,.nil=>rfl
theorem Vals.dropLast{xs:List V}{us:List Value}(h:Vals xs us):Vals xs.dropLast us.dropLast:=by
 induction h with
 |nil=>exact .nil
 |cons r t ih=>
  cases t with
  |nil=>exact .nil
  |cons q t'=>exact .cons r ih
theorem Vals.rep{xs:List V}{us:List Value}(h:Vals xs us):∀k:Nat,Vals (QZ k xs).flatten (QZ k us).flatten
 |0=>.nil
 |k+1=>by
  rw[Zg,Zg,ZU,ZU];exact Vals.append h (Vals.rep h k)
theorem QjQ{α:Type}(l:List α):l.eraseIdx (l.length - 1)=l.dropLast:=by
 induction l with
 |nil=>rfl
 |cons a r ih=>
  cases r with
  |nil=>rfl
  |cons b r=>
   have e:(a::b::r).length - 1=((b::r).length - 1)+1:=by
    have h1:(a::b::r).length=r.length+2:=rfl;have h2:(b::r).length=r.length+1:=rfl;omega
   rw[e,List.eraseIdx_cons_succ,ih]
   all_goals rfl
theorem foldl_rep(its:List Value):∀(k:Nat)(acc:List Value),
  QpI (λx1 x2=>x1++x2) acc.toArray (QZ k its.toArray)=(acc++(QZ k its).flatten).toArray
 |0,acc=>by simp
 |k+1,acc=>by
  have e:acc.toArray++its.toArray=(acc++its).toArray:=by simp
  have e2:(acc++its)++(QZ k its).flatten=acc++(QZ (k+1) its).flatten:=by
   rw[Zg,ZU,List.append_assoc]
  rw[<- e2,<- foldl_rep its k (acc++its),<- e,Zg,List.foldl_cons]
section
variable{X:Cx}{pins:List (Addr×Obj)}{σ:St}{H:Hp}{s:Shared}{l b:Addr}{xs ys zs:List V}
theorem Inv.lset{its its':List Value}{n:Nat}{f:Array Value->Array Value}{t':Nat}(I:Inv X pins σ H s)(hH:H l=some (.lst xs))
  (e:s.heap.get? l=some { cls:=.type "list",data:=.seq its.toArray n })(hf:f its.toArray=its'.toArray)(hv:Vals ys its')(hz:ys.length<=sizeLine) :
  Inv X pins σ (upd H l (.lst ys)) { s with heap:=s.heap.update l (Yu f),toks:=t' }:=by
 have q:=PySem.IsL.update e f;rw[hf] at q;refine I.write (x:=l) (e:=l) (by rw[hH];exact trivial) (.inl rfl) (λb' u hb hu=>(Qi1 s.heap (Yu f) (Y2 hb)).trans hu) ⟨_,q⟩ ?_
 exact⟨hz,its',_,hv,q⟩
theorem Inv.lnew{its:List Value}{t':Nat}(I:Inv X pins σ H s)(hv:Vals ys its)(hz:ys.length<=sizeLine) :
  Inv X pins σ (upd H s.heap.objs.size (.lst ys)) { s with heap:=s.heap.push { cls:=.type "list",data:=.seq its.toArray },toks:=t' }:=
 I.laid (λ_ _ q=>Qd _ q) (Qh _) ⟨hz,its,0,hv,Qs _ rfl⟩
theorem Inv.fresh(I:Inv X pins σ H s):H s.heap.objs.size=none:=I.hok.fresh (Qh _)
theorem Inv.lstM(I:Inv X pins σ H s)(hH:H l=some (.lst xs)):xs.length<=sizeLine/\∃(its:List Value)(n:Nat),Vals xs its/\xs.length=its.length/\s.heap.get? l=some { cls:=.type "list",data:=.seq its.toArray n }:=by
 obtain⟨z,its,n,r,e⟩:=I.hok l _ hH;exact⟨z,its,n,r,r.length,e⟩
theorem Qiq{n:Nat}(h:n<=sizeLine):Yn n=false:=by
 unfold Yn;exact decide_eq_false (by omega)
end
section
variable{X:Cx}
def Qsl:V->List V->Hp->VK->Prop:=λx vs H Q=>∃l xs y,x=.ref l/\vs=[y]/\H l=some (.lst xs)/\xs.length<sizeLine/\Q .non (upd H l (.lst (xs++[y])))
theorem Qd1:MtM X "list.append" Qsl:=by
 intro pins s σ H x vs v us Q I rx rv h;obtain⟨l,xs,y,rfl,rfl,hH,hz,q⟩:=h;cases rx;obtain⟨u,rfl,ru⟩:=rv.one;obtain⟨z,its,n,r,hl,e⟩:=I.lstM hH;refine Qau F.slot_list_append ⟨_,e,rfl⟩ F.entry_list_append (F.args_list_append_2 _ _) (PySem.list_append l its.toArray n u (by rw[Qk];omega)) ⟨e,?_⟩;refine⟨.non,_,I.lset (its':=its++[u]) hH e (by simp) (r.append (.cons ru .nil)) ?_,rfl,q⟩;rw[Qv,List.length_singleton];omega
def Qll:V->List V->Hp->VK->Prop:=λx vs H Q=>∃l b xs zs,x=.ref l/\vs=[.ref b]/\H l=some (.lst xs)/\H b=some (.lst zs)/\xs.length+zs.length<=sizeLine/\Q .non (upd H l (.lst (xs++zs)))
theorem Qmf:MtM X "list.extend" Qll:=by
 intro pins s σ H x vs v us Q I rx rv h;obtain⟨l,b,xs,zs,rfl,rfl,hH,hB,hz,q⟩:=h;cases rx;obtain⟨u,rfl,ru⟩:=rv.one;cases ru;obtain⟨z,its,n,r,hl,e⟩:=I.lstM hH;obtain⟨z2,its2,n2,r2,hl2,e2⟩:=I.lstM hB;have hsz:its.toArray.size+its2.toArray.size<=sizeLine:=by rw[Qk,Qk];omega
 have hlong:¬(!its.toArray.isEmpty&&Yn (its.toArray.size+its2.toArray.size))=true:=by
  rw[Qiq hsz,Qhd];exact Qp
 refine Qau F.slot_list_extend ⟨_,e,rfl⟩ F.entry_list_extend (F.args_list_extend_2 _ _)
  (AutoSeq1.list_extend_list_list_0 l its.toArray n b its2.toArray n2 hlong (by rw[Qk];omega) (by omega)) ⟨e,e2,?_⟩
 refine⟨.non,_,I.lset (its':=its++its2) hH e (by simp) (r.append r2) ?_,rfl,q⟩;rw[Qv];omega
def Qzv:V->List V->Hp->VK->Prop:=λx vs H Q=>∃l xs y,x=.ref l/\vs=[]/\H l=some (.lst xs)/\xs[xs.length - 1]? = some y/\Q y (upd H l (.lst xs.dropLast))
theorem Qrh:MtM X "list.pop" Qzv:=by
 intro pins s σ H x vs v us Q I rx rv h;obtain⟨l,xs,y,rfl,rfl,hH,hy,q⟩:=h;cases rx;have hus:=rv.zero;subst hus;obtain⟨z,its,n,r,hl,e⟩:=I.lstM hH;obtain⟨u,hu,ru⟩:=r.get hy;have hy':its.toArray[its.toArray.size - 1]? = some u:=by
  show its.toArray[its.length - 1]? = some u;rw[<- Qi3,<- hl];exact hu
 refine Qau F.slot_list_pop ⟨_,e,rfl⟩ F.entry_list_pop (F.args_list_pop_1 _) (MeetsSeq.list_pop_last l its.toArray n u hy' (by rw[Qk];omega)) ⟨e,?_⟩;refine⟨y,_,I.lset (its':=its.dropLast) hH e ?_ r.dropLast ?_,ru,q⟩
 ·show its.toArray.eraseIdxIfInBounds (its.toArray.size - 1)=its.dropLast.toArray;rw[Qk,List.eraseIdxIfInBounds_toArray,QjQ]
 ·rw[Qky];omega
def Qu5:V->List V->Hp->VK->Prop:=λx vs H Q=>∃l xs,x=.ref l/\vs=[]/\H l=some (.lst xs)/\Q .non (upd H l (.lst []))
theorem QoT:MtM X "list.clear" Qu5:=by
 intro pins s σ H x vs v us Q I rx rv h;obtain⟨l,xs,rfl,rfl,hH,q⟩:=h;cases rx;have hus:=rv.zero;subst hus;obtain⟨z,its,n,r,hl,e⟩:=I.lstM hH;refine Qau F.slot_list_clear ⟨_,e,rfl⟩ F.entry_list_clear (F.args_list_clear_1 _) (AutoSeq1.list_clear_list_0 l its.toArray n (by rw[Qk];omega)) ⟨e,?_⟩;exact⟨.non,_,I.lset (its':=[]) (ys:=[]) hH e rfl .nil (Je _),rfl,q⟩
def QyZ:R2:=λx y H Q=>∃l b xs zs,x=.ref l/\y=.ref b/\H l=some (.lst xs)/\H b=some (.lst zs)/\xs.length+zs.length<=sizeLine/\∀p,H p=none->Q (.ref p) (upd H p (.lst (xs++zs)))
theorem Qrf:OpR X (binaryOp .Add) QyZ:=by
 intro pins s σ H x y v u Q I rx ry h;obtain⟨l,b,xs,zs,rfl,rfl,hH,hB,hz,q⟩:=h;cases rx;cases ry;obtain⟨z,its,n,r,hl,e⟩:=I.lstM hH;obtain⟨z2,its2,n2,r2,hl2,e2⟩:=I.lstM hB;refine PySem.P.add_list e e2 ?_ (by rw[Qk,Qk];omega)
 have ea:its.toArray++its2.toArray=(its++its2).toArray:=by simp
 rw[ea];exact⟨.ref _,_,I.lnew (t':=s.toks) (r.append r2) (by rw[Qv];omega),rfl,q _ I.fresh⟩
def QyS:R2:=λx y H Q=>∃l k xs,x=.ref l/\y=.int k/\H l=some (.lst xs) /\ -(2^63)<=k/\k<2^63/\xs.length*k.toNat<=sizeLine /\
 ∀p,H p=none->Q (.ref p) (upd H p (.lst (QZ k.toNat xs).flatten))
theorem Qtz{α:Type}(xs:List α)(k:Nat):(QZ k xs).flatten.length=k*xs.length:=by
 induction k with
 |zero=>simp
 |succ k ih=>rw[Zg,ZU,Qv,ih,Nat.succ_mul,Nat.add_comm]
theorem Qrd:OpR X (binaryOp .Mult) QyS:=by
 intro pins s σ H x y v u Q I rx ry h;obtain⟨l,k,xs,rfl,rfl,hH,h1,h2,hz,q⟩:=h;cases rx;obtain⟨t,rfl⟩:=ry;obtain⟨z,its,n,r,hl,e⟩:=I.lstM hH;have hlen:its.toArray.size*k.toNat<=sizeLine:=by rw[Qk,<- hl];exact hz
 have hcap:¬its.toArray.size*k.toNat > (2^63 - 1) / 8:=by
  have:(sizeLine:Nat)<=(2^63 - 1) / 8:=by decide
  omega
 have hfit:¬(!Builtin.List.listFitsIndex k)=true:=by
  rw[fitsIndex_both h1 h2];exact Qp
 have hlong:¬Yn (its.toArray.size*k.toNat)=true:=by
  rw[Qiq hlen];exact Qp
 have hnew:QpI (λx1 x2=>x1++x2) #[] (QZ (if its.toArray.isEmpty=true then 0 else k.toNat) its.toArray)=(QZ k.toNat its).flatten.toArray:=by
  have f0:∀m:Nat,QpI (λx1 x2=>x1++x2) #[] (QZ m its.toArray)=(QZ m its).flatten.toArray:=λm=>by
   have:=foldl_rep its m [];rw[Qup] at this;exact this
  rw[f0];cases its with
  |nil=>simp
  |cons a r'=>rw[if_neg (by simp)]
 refine wpAny_binaryOp_repeat_ref (T := "list") (U := "int") (by decide) ⟨_,e,rfl⟩ (λs'=>Qxc s' k t) noFill_list_mul F.fills_int_mul QxC repeat_list F.slot_int_index.lookup
  (Qau QxC (Qxc s k t) F.entry_int_rmul (F.args_int_rmul_2 _ _) (int___rmul___int_list k t l its.toArray n)
   ⟨e,rfl,⟨_,e,rfl⟩,Qau F.slot_list_mul ⟨_,e,rfl⟩ F.entry_list_mul (F.args_list_mul_2 _ _) (AutoListH.list___mul___list_int_3 l its.toArray n k t hfit hcap hlong) ⟨e,?_⟩⟩)
 rw[hnew];exact⟨.ref _,_,I.lnew (t':=s.toks) (r.rep k.toNat) (by rw[Qtz,Nat.mul_comm];exact hz),rfl,q _ I.fresh⟩
end
section
variable{prog:Qw}{w:Ja}{A:Q9}{E:Value->Shared->Prop}{s:Shared}
end
section
variable{X:Cx}
end
end L2
namespace Att
open PySem.W PySem.Calls
theorem Qd5{P:Params}{h:JR}:∀(ns:List Int)(vs:List Value),WellAll P h vs (ns.map WData.int)->Qes vs ns:=by
 intro ns;induction ns with
 |nil=>
  intro vs w;rw[Qep] at w;cases w;exact .nil
 |cons n ns ih=>
  intro vs w;rw[JQ] at w;cases w with
  |cons a b=>
   cases a;exact .cons _ _ (ih _ b)
theorem Qk1{l:OpenLaw}{n:Nat}(hn:l.most=some n){P:Params}{h:JR}{args:List WData}{vals:List Value}
  (hpre:l.row.toRowW.claim.pre args=true)(hwl:WellAll P h vals args) :
  ∃a vs ns,vals=[QQ a]/\args=[WData.list (ns.map WData.int)]/\h.get? a=some { cls:=.type "list",data:=.seq vs.toArray }/\Qes vs ns/\ns.length<=n:=by
 have hsh:WShape.hasAll [] args [.list .int]=true:=(pre_splitW hpre).1;have hc:l.pre.holds [] { args:=args }=true:=(pre_splitW hpre).2;obtain⟨d,r,rfl,h1,h2⟩:=hasAllW_cons hsh;obtain rfl:=hasAllW_nil h2;obtain⟨xs,rfl,h3⟩:=hasW_list h1;obtain⟨ns,rfl⟩:=items_int h3;have hlen:ns.length<=n:=by
  unfold OpenLaw.pre at hc;have h4:(WTm.not (.lt (.lit (.int (n:Int))) (.len (.arg 0)))).holds [] { args:=[.list (ns.map .int)] }=true:=by
   have h4:=(holds_andW hc).1;rw[hn] at h4;exact h4
  have h5:=condW_of h4 (w_not (w_lt w_lit (w_len_list (w_arg rfl))));rw[Qg] at h5;refine Nat.le_of_not_lt λq=>?_
  have q':(n:Int)<((ns.length:Nat):Int):=by omega
  first
   |(rw[decide_eq_true q'] at h5;exact absurd h5 (by decide))
   |(simp at h5;omega)
 cases hwl with
 |cons w1 w2=>
  cases w2;cases w1 with
  |list ho hall=>exact⟨_,_,ns,rfl,rfl,ho,Qd5 ns _ hall,hlen⟩
theorem QlB(l:OpenLaw)(args:List WData):l.row.toRowW.claim.post args (.bool true) args=true:=
 postW_of (r:=l.row.toRowW) (X:=(true == true))
  (show Qxg [] (.bool true) .bool=true by first | rfl | decide | simp[Qxg,WShape.arms,WShape.armsAll])
  (show(WTm.eq .res (.lit (.bool true))).value [] { args:=args,res:=some (.bool true),after:=args }=some (.bool (true == true)) from w_eq_bool (w_res rfl) w_lit) rfl
theorem QhQ{l:OpenLaw}{n:Nat}{q:Qw}{loose:List Str}{XP:(Str->Option Value)->JR->Prop}{YP:Ja->JR->Prop}{d:DefRec}
  (hn:l.most=some n)(hdf:d.params.defaults=[])
  (call:∀(w:Ja)(s₀ s₁:Shared)(mg mb:Str->Option Value)(fa:Addr)(o:Obj)(pm cd doc:Value)(a:Addr)(vs:List Value)(ns:List Int),
   Ground q loose [] XP w s₀ mg mb s₁.heap->YP w s₁.heap ->
   s₁.heap.get? fa=some o->o.data=.func (docDef d.name d.params d.body d.scope pm cd doc)->s₁.heap.CodeRec cd d.name->mg d.name=some (.ref fa) ->
   s₁.heap.get? a=some { cls:=.type "list",data:=.seq vs.toArray }->Qes vs ns->ns.length<=n->s₁.gens=#[] ->
   codeAny (model l.prog w) callerA (.call (.ref fa) ⟨[.ref a],[]⟩) (λr s'=>r=.ok (.ret (.bool true))/\OldK s₁.heap s'.heap/\s'.os=s₁.os/\Qdu s'.gens) s₁) :
  WalkO q loose XP YP l.row.toRowW d [] (λf vs=>PySem.call f vs):=by
 intro w s₀ s₁ mg mb G Y fa o pm cd doc dV kV ho hd hcd hD hmg hg args vals as hpre hlay hrd hwl hlo;obtain rfl:dV=.none:=Dflts.none hD hdf;obtain rfl:kV=.none:=Dflts.noKw hD;obtain⟨a,vs,ns,rfl,rfl,hobj,hints,hlen⟩:=Qk1 hn hpre hwl;refine enter_call (QaB (call w s₀ s₁ mg mb fa o pm cd doc a vs ns G Y ho (fd_plain hd) hcd hmg hobj hints hlen hg) λr s' hq=>?_);obtain⟨rfl,h2,h3,h4⟩:=hq;exact⟨.inl ⟨.bool true,.bool true,[],rfl,λ_=>rfl,.bool true,QlB l _,λ_=>⟨Qxw,λ_ hm=>(nomatch hm)⟩⟩,h2,h3,h4⟩
section
variable{prog:Qw}{w:Ja}{A:Q9}{E:Value->Shared->Prop}{s:Shared}{K:Frag}
end
end Att
namespace L2
theorem Qgk:∀{vs:List Value}{ns:List Int},Qes vs ns->Vals (ns.map V.int) vs
 |_,_,.nil=>.nil
 |_,_,.cons n t h=>.cons ⟨t,rfl⟩ (Qgk h)
def QyK(H:Hp):Prop:=∀b,H b=none∨∃o xs,H b=some (.frz o (.lst xs))
theorem QoX{P:Qw}{w:Ja}{K:PySem.W.Frag}{mg mb:Str->Option Value}{CX:CXT}{k:Nat}{fa a:Addr}{fd:Qq}{x:Str}{sp:Sp}{s₁:Shared}{vs:List Value}{ns:List Int}
  (KX:K.In s₁.heap)(hns:s₁.heap.Ns mainGlobals mg)(hb:s₁.heap.Ns builtinsNs mb)(hbb:∀x:Str,x ≠ "__name__" -> mb x=bootBuiltins x)(hlim:s₁.heap.NoLimit)(hg:s₁.gens=#[])
  (ha:s₁.heap.get? a=some { cls:=.type "list",data:=.seq vs.toArray })(hi:Qes vs ns)(hl:ns.length<=sizeLine)(hr:Room k callerA)
  (F:∀base:JR,K.In base->base.Ns mainGlobals mg->FnOk P w K mg base CX k fa fd [x] sp)(hbind:∀(s:Shared)(u:Value),Qeu s fd ⟨[u],[]⟩ [(x,u)])
  (hsp:∀H:Hp,QyK H->SqL K H a (ns.map V.int)->sp [.ref a] H (λv _=>v=.bl true) λ_ _ _=>False)
  (hCX:∀H e s',CX [] H s₁ (λ_ _ _=>False) e s'->False) :
  codeAny (model P w) callerA (.call (.ref fa) ⟨[.ref a],[]⟩) (λr s'=>r=.ok (.ret (.bool true))/\OldK s₁.heap s'.heap/\s'.os=s₁.os/\Qdu s'.gens) s₁:=by
 have rv:=Qgk hi;have lenV:=hi.length;have core:∀H:Hp,QyK H->SqL K H a (ns.map V.int)->HOk P w H s₁.heap->(∀b,H b≠none->b=a)->(H a≠none->K.lookup a=none) ->
   codeAny (model P w) callerA (.call (.ref fa) ⟨[.ref a],[]⟩) (λr s'=>r=.ok (.ret (.bool true))/\OldK s₁.heap s'.heap/\s'.os=s₁.os/\Qdu s'.gens) s₁:=by
  intro H hO hS hok hA hK;have base_of:∀{b:Addr}{o:Obj},s₁.heap.get? b=some o->H b=none->(Qo4 s₁.heap H).get? b=some o:=λe n=>Qo3 e n
  have noA:∀{b:Addr}{o:Obj}{es:Array DictEntry}{ep:Nat},s₁.heap.get? b=some o->o.data=.dict es ep->H b=none:=λ{b o es ep} e d=>by
   cases q:H b with
   |none=>rfl
   |some u=>
    have e':b=a:=hA b (by rw[q];simp);subst e';rw[ha] at e;cases e;have d':Data.seq vs.toArray _=Data.dict es ep:=d;cases d'
  have nsK:∀{b:Addr}{m:Str->Option Value},s₁.heap.Ns b m->(Qo4 s₁.heap H).Ns b m:=λ{b m} ⟨o,es,ep,e,d,r⟩=>⟨o,es,ep,base_of e (noA e d),d,r⟩
  have hKb:K.In (Qo4 s₁.heap H):=λb o e=>base_of (KX b o e) (by
   cases q:H b with
   |none=>rfl
   |some u=>
    have e':b=a:=hA b (by rw[q];simp);subst e';rw[hK (by rw[q];simp)] at e;cases e)
  have hM:Mod K mg (Qo4 s₁.heap H):=⟨hKb,nsK hns,⟨mb,nsK hb,hbb⟩,let ⟨mc,h1,h2⟩:=hlim;⟨mc,nsK h1,h2⟩⟩;have e0:Env0 P w K mg (Qo4 s₁.heap H) callerA [] s₁ H:=⟨rfl,hM,λb o e=>Qto e,Qah (QmA _ _),trivial,λb hb=>absurd (show b∈([]:List Addr) from hb) (by simp),hok,.of_eq hg⟩;refine QaB ((F _ hKb (nsK hns)).run callerA [] s₁ H ⟨[.ref a],[]⟩ [.ref a] [.ref a] _ _ hr e0 (hbind s₁ (.ref a)) (.cons rfl .nil) (hsp H hO hS)) λr s' h=>?_
  cases r with
  |error e=>exact(hCX H e s' h).elim
  |ok fl=>
   cases fl with
   |next=>exact Jj h
   |brk=>exact Jj h
   |cont=>exact Jj h
   |ret u=>
    obtain⟨v,H',os,bare,un,hok',r',q⟩:=h;have q':v=.bl true:=q;subst q';obtain rfl:u=Zt true:=r';refine⟨rfl,OldK.of_keep λb o e=>?_,os,bare⟩;cases q:H b with
    |none=>exact un.keep b o e q (by intro z;exact absurd (show b∈([]:List Addr) from z) (by simp)) (by simp)
    |some u=>
     rcases hO b with z | ⟨ob,xs,z⟩
     ·rw[q] at z;cases z
     ·have z2:=un.frzs b ob _ z;obtain⟨e1,_⟩:=hok b _ z;obtain⟨e2,_⟩:=hok' b _ z2;rw[e] at e1;cases e1;exact e2
 cases hk:K.lookup a with
 |some o=>
  have e:=KX a o hk;rw[ha] at e;cases e;refine core (λ_=>none) (λ_=>.inl rfl) (.inr ⟨_,vs.toArray,_,hk,rfl,rfl,rfl,by rw[Qk,lenV];exact hl,by simpa using rv⟩) (λb u z=>by have z':(none:Option HO)=some u:=z;cases z') (λb z=>absurd rfl z) λz=>absurd rfl z
 |none=>
  refine core (λb=>if b=a then some (.frz { cls:=.type "list",data:=.seq vs.toArray } (.lst (ns.map V.int))) else none) (λb=>?_) (.inl (.inr ⟨{ cls:=.type "list",data:=.seq vs.toArray },if_pos rfl⟩)) (λb u z=>?_) (λb z=>?_) λ_=>hk
  ·by_cases hb:b=a
   ·exact .inr ⟨_,_,if_pos hb⟩
   ·exact .inl (if_neg hb)
  ·by_cases hb:b=a
   ·have z':=(if_pos hb).symm.trans z;cases z';subst hb;exact⟨ha,by rw[Qg];exact hl,vs,_,rv,ha⟩
   ·have z':=(if_neg hb).symm.trans z;cases z'
  ·by_cases hb:b=a
   ·exact hb
   ·exact absurd (if_neg hb) z
theorem QrQ{l:PySem.W.OpenLaw}{n k:Nat}{q:Qw}{loose:List Str}{XP:(Str->Option Value)->JR->Prop}{YP:Ja->JR->Prop}{d:DefRec}{K:Params->PySem.W.Frag}{CX:Ja->CXT}{sp:Ja->Sp}{x:Str}
  (hn:l.most=some n)(hn2:n<=sizeLine)(hdf:d.params.defaults=[])(hr:Room k callerA)
  (hY:∀(w:Ja)(h:JR),YP w h->(K w.params).In h)
  (F:∀(w:Ja)(mg:Str->Option Value)(fa:Addr)(h:JR),(K w.params).In h->h.Ns mainGlobals mg->mg d.name=some (.ref fa) ->
   ∃fd:Qq,(∀(s:Shared)(u:Value),Qeu s fd ⟨[u],[]⟩ [(x,u)]) /\
    ∀base:JR,(K w.params).In base->base.Ns mainGlobals mg->FnOk l.prog w (K w.params) mg base (CX w) k fa fd [x] (sp w))
  (hsp:∀(w:Ja)(H:Hp)(a:Addr)(ns:List Int),ns.length<=n->QyK H->SqL (K w.params) H a (ns.map V.int)->sp w [.ref a] H (λv _=>v=.bl true) λ_ _ _=>False)
  (hCX:∀(w:Ja)(H:Hp)(s:Shared)(e:Value)(s':Shared),CX w [] H s (λ_ _ _=>False) e s'->False) :
  PySem.W.WalkO q loose XP YP l.row.toRowW d [] (λf vs=>PySem.call f vs):=by
 refine Att.QhQ hn hdf λw s₀ s₁ mg mb fa o pm cd doc a vs ns G Y ho hd hcd hmg hobj hints hlen hg=>?_
 have KX:=hY w _ Y;obtain⟨fd,hb,hF⟩:=F w mg fa _ KX G.T.g hmg;exact QoX KX G.T.g G.T.b G.T.builtins G.T.nolimit hg hobj hints (QL hlen hn2) hr hF hb (λH hO hS=>hsp w H a ns hlen hO hS) λH e s'=>hCX w H s₁ e s'
def Y7(s:ZM)(j:Nat):ZM:=match s with
 |.ClassDef _ _ _ body _ _ _ _ _ _ _=>body.getD j (.Pass ⟨0,0,0,0⟩)
 |_=>.Pass ⟨0,0,0,0⟩
def Jk(s:ZM):Arguments:=match s with
 |.FunctionDef _ a _ _ _ _ _ _ _ _=>a
 |_=>{ posonlyargs:=[],args:=[],vararg:=none,kwonlyargs:=[],kw_defaults:=[],kwarg:=none,defaults:=[] }
def Q7(s:ZM):List ZM:=match s with
 |.FunctionDef _ _ b _ _ _ _ _ _ _=>b
 |_=>[]
def Qm(s:ZM):Y4:=match s with
 |.FunctionDef _ _ _ _ _ _ sc _ _ _=>sc
 |_=>{ kind:=.function,names:=[],isGenerator:=false,isCoroutine:=false }
abbrev CX0:CXT:=λ_ _ _ _ _ _=>False
abbrev E0:XK:=λ_ _ _=>False
theorem pass0{X:Cx}:QaT CX0 X E0:=λ_ _ _ _ _ _ _ h=>h.elim
structure Fun (K:PySem.W.Frag) (x qual:Str) (st:ZM) (f:Addr) (fd:Qq):Prop where
 ex:∃(oc:Value)(od:Option Addr)(kV doc pm:Value)(an:Option Addr)(cdv ct:Value)(osl:Array (Option Value)),
  fd=PySem.W.fnOf x qual (Jk st) (Q7 st) (Qm st) .none kV doc pm an cdv ct/\K.lookup f=some ⟨oc,od,.func fd,osl⟩/\PySem.W.codeIn K cdv qual=true
 kp:PySem.W.keepIn K (.ref f)=true
section
variable{P:Qw}{w:Ja}{K:PySem.W.Frag}{mg:Str->Option Value}{base:JR}
theorem Fun.ok{x qual:Str}{st:ZM}{f:Addr}{fd:Qq}{N ps:List Str}{k:Nat}{sp:Sp}(F:Fun K x qual st f fd)(S:Jc N ps (Qm st))(len:∀vs H Q E,sp vs H Q E->vs.length=ps.length)
  (hbody:∀(cdv:Value)(A:Q9)(outer:List Env)(s:Shared)(H:Hp)(vs:List V)(Q:VK)(E:XK),Room k (A.deeper (envOfC qual (Qm st) s.heap.objs.size f cdv))->sp vs H Q E ->
   ∃t,PSs (cxOf CX0 P w K mg base N qual (Qm st) f cdv A outer s H E).nox (Q7 st) t/\t { nx:=λ_ H'=>Q .non H',rt:=Q } (start N vs) H):FnOk P w K mg base CX0 (k+1) f fd ps sp:=by
 obtain⟨oc,od,kV,doc,pm,an,cdv,ct,osl,rfl,lk,hcd⟩:=F.ex;refine Qv0 lk hcd S len λA outer s H vs Q E hr hsp=>?_
 obtain⟨t,h,q⟩:=hbody cdv A outer s H vs Q E hr hsp;exact⟨t,h.nox,q⟩
theorem Fun.binds{x qual:Str}{st:ZM}{f:Addr}{fd:Qq}{ps:List Str}(F:Fun K x qual st f fd)
  (h:∀(kV doc pm:Value)(an:Option Addr)(cdv ct:Value)(us:List Value),us.length=ps.length->bindArgs (PySem.W.fnOf x qual (Jk st) (Q7 st) (Qm st) .none kV doc pm an cdv ct) ⟨us,[]⟩=pure (ps.zip us)):Binds K fd ps []:=by
 obtain⟨oc,od,kV,doc,pm,an,cdv,ct,osl,rfl,lk,hcd⟩:=F.ex;exact .all (h kV doc pm an cdv ct)
theorem JX{x qual:Str}{st:ZM}{f:Addr}{oc:Value}{od an:Option Addr}{osl:Array (Option Value)}{kV doc pm cdv ct:Value}(l:K.lookup f=some ⟨oc,od,.func (PySem.W.fnOf x qual (Jk st) (Q7 st) (Qm st) .none kV doc pm an cdv ct),osl⟩)
  (c:PySem.W.codeIn K cdv qual=true)(k:PySem.W.keepIn K (.ref f)=true):Fun K x qual st f (PySem.W.fnOf x qual (Jk st) (Q7 st) (Qm st) .none kV doc pm an cdv ct):=⟨⟨oc,od,kV,doc,pm,an,cdv,ct,osl,rfl,l,c⟩,k⟩
end
theorem QjL{A:Q9}{k:Nat}(hr:Room k A):A.units+1<cLine:=Yd (Qnx (by decide:1<=64) _) hr.units
theorem Qgr{n:Nat}(h:n<=1000):n<sizeLine:=Yd h (by decide)
section
variable{X:Cx}
theorem pv(i:Nat){x:Str}{pos:Pos}(hN:X.N[i]? = some x:=by rfl)(hv:Vis X.env.scope x:=by first | exact QF rfl | exact QK (QF rfl) | exact QK (QK rfl))(hd:(x == ("__debug__" : Str))=false:=by decide)
  (hcd:(x == ("__classdict__" : Str))=false:=by decide):PE X (.Name x pos) (Yy i):=Qp9 hN hv hd hcd
end
theorem Qaw{A B:Prop}(h:B):if false=true then A else B:=by
 rw[if_neg Qp];exact h
theorem Qb5{A B:Prop}(h:A):if true=true then A else B:=by
 rw[if_pos rfl];exact h
theorem Qy2{c A B:Prop}[Decidable c](h1:c->A)(h2:¬c->B):if c then A else B:=by
 by_cases h:c
 ·rw[if_pos h];exact h1 h
 ·rw[if_neg h];exact h2 h
theorem QjH{c A B:Prop}[Decidable c](hc:c)(h:B):if(!decide c)=true then A else B:=by
 rw[decide_eq_true hc];exact Qaw h
def Same(H H':Hp):Prop:=∀b o,H b=some o->H' b=some o
theorem Same.refl(H:Hp):Same H H:=λ_ _ h=>h
theorem Same.trans{H H1 H2:Hp}(a:Same H H1)(b:Same H1 H2):Same H H2:=λc o h=>b c o (a c o h)
theorem Same.free{H H':Hp}(e:Same H H'){l:Addr}(h:H' l=QwK):H l=QwK:=by
 cases q:H l with
 |none=>rfl
 |some o=>
  rw[e l o q] at h;cases h
theorem Same.seq{K:PySem.W.Frag}{H H':Hp}{a:Addr}{xs:List V}(e:Same H H')(h:SqL K H a xs):SqL K H' a xs:=by
 rcases h with(h | ⟨o,h⟩) | h
 ·exact .inl (.inl (e _ _ h))
 ·exact .inl (.inr ⟨o,e _ _ h⟩)
 ·exact .inr h
end L2
set_option maxHeartbeats 4000000
namespace L2
def blk(X:Cx)(M:List Str)(scope:Y4)(cl:List (Str×Addr))(ex:List Addr)(s3:Shared)(H3:Hp)(C:Addr):Cx where
 prog:=X.prog
 w:=X.w
 K:=X.K
 mg:=X.mg
 base:=X.base
 A:=X.A
 N:=M
 s₀:=s3
 H₀:=H3
 env:=compEnvC scope cl C X.env
 outer:=X.stack
 stack:=X.stack
 ex:=ex
 fn:=λ_=>false
 calm:=X.calm
 pn:=[]
 xe:=λ_ _=>False
def Qcf(env:Env):List (Str×Qax)->List (Str×Addr)->List (Str×Addr)
 |[],acc=>acc
 |(n,k)::r,acc=>Qcf env r (if k=.free then(n,(env.cells.lookup n).getD 0)::acc else acc)
theorem QhM{env:Env}:∀(l:List (Str×Qax))(acc:List (Str×Addr)),(∀x∈l,x.2=.free->∃c,env.cells.lookup x.1=some c) ->
  (forIn (m:=Sem) l acc λx cs=>(if(x.2 == Q5)=true then do let a <- cellOf env x.1;pure (Zn ((x.1,a)::cs)) else pure (Zn cs)))=pure (Qcf env l acc)
 |[],acc,_=>rfl
 |(n,k)::r,acc,h=>by
  rw[Qcc];by_cases hk:k=.free
  ·subst hk;obtain⟨c,hc⟩:=h (n,.free) Zl rfl;have e1:cellOf env n=pure c:=by unfold cellOf;rw[hc]
   have e2:Qcf env ((n,.free)::r) acc=Qcf env r ((n,c)::acc):=by
    show Qcf env r (if Q5=.free then(n,(env.cells.lookup n).getD 0)::acc else acc)=_;rw[if_pos rfl,hc];rfl
   rw[e2];show((if(Q5 == Q5)=true then do let a <- cellOf env n;pure (Zn ((n,a)::acc)) else pure (Zn acc)) >>= _)=_;rw[if_pos (show(Q5 == Q5)=true by decide),e1];exact QhM r _ λx hx=>h x (Jm _ hx)
  ·have hb:(k == Q5)=false:=by simpa using hk
   have e2:Qcf env ((n,k)::r) acc=Qcf env r acc:=by
    show Qcf env r (if k=.free then(n,(env.cells.lookup n).getD 0)::acc else acc)=_;rw[if_neg hk]
   rw[e2];show((if(k == Q5)=true then _ else pure (Zn acc)) >>= _)=_;rw[hb,if_neg Qp];exact QhM r _ λx hx=>h x (Jm _ hx)
theorem QmT{scope:Y4}{env:Env}(h:∀x∈scope.names,x.2=.free->∃c,env.cells.lookup x.1=some c):closureFor scope env=pure (Qcf env scope.names []):=by
 have e:=QhM (env:=env) scope.names [] h;unfold closureFor;show(forIn scope.names [] _ >>= _)=_;have e':(forIn (m:=Sem) scope.names ([]:List (Str×Addr)) λx cs=>match x with | (name,kind)=>(if(kind == Q5)=true then do let a <- cellOf env name;pure (Zn ((name,a)::cs)) else pure (Zn cs)))=pure (Qcf env scope.names []):=e
 first
  |(rw[e'];rfl)
  |(refine Eq.trans (congrArg (λt=>t >>= _) e') ?_;rfl)
theorem QhN{env:Env}:∀(l:List (Str×Qax))(acc:List (Str×Addr)),(∀x∈l,x.2=.free->∃c,env.cells.lookup x.1=some c)->(∀x c,acc.lookup x=some c->env.cells.lookup x=some c) ->
  (∀x c,(Qcf env l acc).lookup x=some c->env.cells.lookup x=some c)/\(∀x c,acc.lookup x=some c->(Qcf env l acc).lookup x=some c)/\∀x,(x,Q5)∈l->∃c,(Qcf env l acc).lookup x=some c
 |[],acc,_,ha=>⟨ha,λ_ _ h=>h,λ_ h=>nomatch h⟩
 |(n,k)::r,acc,h,ha=>by
  have hr:∀x∈r,x.2=.free->∃c,env.cells.lookup x.1=some c:=λx hx=>h x (Jm _ hx)
  by_cases hk:k=.free
  ·subst hk;obtain⟨c,hc⟩:=h (n,.free) Zl rfl;have e2:Qcf env ((n,.free)::r) acc=Qcf env r ((n,c)::acc):=by
    show Qcf env r (if Q5=.free then(n,(env.cells.lookup n).getD 0)::acc else acc)=_;rw[if_pos rfl,hc];rfl
   rw[e2];have ha':∀x c',((n,c)::acc).lookup x=some c'->env.cells.lookup x=some c':=λx c' q=>by
    rw[Jh] at q;cases hx:x == n with
    |true=>
     rw[hx] at q;have z:c=c':=QB q;have y:x=n:=by simpa using hx
     rw[y,<- z];exact hc
    |false=>rw[hx] at q;exact ha x c' q
   obtain⟨i1,i2,i3⟩:=QhN r ((n,c)::acc) hr ha';refine⟨i1,λx c' q=>?_,λx hx=>?_⟩
   ·refine i2 x c' ?_
    rw[Jh];cases hx:x == n with
    |true=>
     have y:x=n:=by simpa using hx
     have:=ha x c' q;rw[y,hc] at this;exact this
    |false=>exact q
   ·rcases Qz.mp hx with z | z
    ·cases z;exact⟨c,i2 n c (by rw[Jh,beq_self_eq_true])⟩
    ·exact i3 x z
  ·have e2:Qcf env ((n,k)::r) acc=Qcf env r acc:=by
    show Qcf env r (if k=.free then(n,(env.cells.lookup n).getD 0)::acc else acc)=_;rw[if_neg hk]
   rw[e2];obtain⟨i1,i2,i3⟩:=QhN r acc hr ha;refine⟨i1,i2,λx hx=>?_⟩;rcases Qz.mp hx with z | z
   ·cases z;exact absurd rfl hk
   ·exact i3 x z
theorem QbF{l:List (Str×Qax)}{x:Str}{k:Qax}(h:l.lookup x=some k):(x,k)∈l:=by
 induction l with
 |nil=>cases h
 |cons p r ih=>
  obtain⟨n,q⟩:=p;rw[Jh] at h;cases hx:x == n with
  |true=>
   rw[hx] at h;have y:x=n:=by simpa using hx
   have z:q=k:=QB h;subst y z;exact Zl
  |false=>rw[hx] at h;exact Jm _ (ih h)
theorem QaC{env:Env}:∀{names:List (Str×Qax)}{x:Str}{k:Qax},(names.map λ(n,k)=>if(k == Q5&&env.scope.kind == .function&&env.kindOf n == some .cell) then(n,Ye) else(n,k)).lookup x=some k ->
  names.lookup x=some k∨(k=.cell/\names.lookup x=some .free)
 |[],x,k,h=>by cases h
 |(n,q)::r,x,k,h=>by
  have ih:=@QaC env r x k;rw[JQ] at h;have h':Z3 x ((if(q == Q5&&env.scope.kind == .function&&env.kindOf n == some .cell)=true then(n,Ye) else(n,q))::_)=some k:=h;cases hx:x == n with
  |true=>
   by_cases hc:(q == Q5&&env.scope.kind == .function&&env.kindOf n == some .cell)=true
   ·rw[if_pos hc,Jh,hx] at h';have z:Ye=k:=QB h';have y:q=.free:=by simp at hc;exact hc.1.1
    refine .inr ⟨z.symm,?_⟩;rw[Jh,hx,y]
   ·rw[if_neg hc,Jh,hx] at h';refine .inl ?_
    rw[Jh,hx];exact h'
  |false=>
   have h2:Z3 x (r.map λ(n,k)=>if(k == Q5&&env.scope.kind == .function&&env.kindOf n == some .cell) then(n,Ye) else(n,k))=some k:=by
    by_cases hc:(q == Q5&&env.scope.kind == .function&&env.kindOf n == some .cell)=true
    ·rw[if_pos hc,Jh,hx] at h';exact h'
    ·rw[if_neg hc,Jh,hx] at h';exact h'
   rw[Jh,hx];exact ih h2
theorem relabel_free{env:Env}:∀{names:List (Str×Qax)}{x:Str},names.lookup x=some .free->(names.map λ(n,k)=>if(k == Q5&&env.scope.kind == .function&&env.kindOf n == some .cell) then(n,Ye) else(n,k)).lookup x=some .cell ∨
   (names.map λ(n,k)=>if(k == Q5&&env.scope.kind == .function&&env.kindOf n == some .cell) then(n,Ye) else(n,k)).lookup x=some .free
 |[],x,h=>by cases h
 |(n,q)::r,x,h=>by
  have ih:=@relabel_free env r x;rw[JQ];show Z3 x ((if(q == Q5&&env.scope.kind == .function&&env.kindOf n == some .cell)=true then(n,Ye) else(n,q))::_)=some .cell∨Z3 x ((if(q == Q5&&env.scope.kind == .function&&env.kindOf n == some .cell)=true then(n,Ye) else(n,q))::_)=some .free;cases hx:x == n with
  |true=>
   rw[Jh,hx] at h;have z:q=Q5:=QB h;subst z;by_cases hc:(Q5 == Q5&&env.scope.kind == .function&&env.kindOf n == some .cell)=true
   ·rw[if_pos hc,Jh,hx];exact .inl rfl
   ·rw[if_neg hc,Jh,hx];exact .inr rfl
  |false=>
   rw[Jh,hx] at h;by_cases hc:(q == Q5&&env.scope.kind == .function&&env.kindOf n == some .cell)=true
   ·rw[if_pos hc,Jh,hx];exact ih h
   ·rw[if_neg hc,Jh,hx];exact ih h
def QhO(N:List Str)(sc:Y4)(M:List Str)(scope:Y4)(cap:List (Option Nat)):Bool:=
 cap.length == M.length&&(M.zip cap).all (λ(x,o)=>match o with
  |none=>scope.names.lookup x == some .local
  |some j=>N[j]? == some x&&(scope.names.lookup x == some .free&&(sc.names.lookup x == some .cell||sc.names.lookup x == some .free))) &&
 (scope.kind == .function&&scope.names.all λy=>y.2 != .cell&&((y.2 != .free||(sc.names.lookup y.1 == some .cell||sc.names.lookup y.1 == some .free))&&(y.2 != .local||scope.names.lookup y.1 == some .local)))
def Qc2(cap:List (Option Nat))(σ:St):St:=cap.map λo=>match o with
 |none=>none
 |some j=>(σ[j]?).getD none
structure CapOk (N:List Str) (sc:Y4) (M:List Str) (scope:Y4) (cap:List (Option Nat)):Prop where
 len:cap.length=M.length
 own:∀(i j:Nat)(x:Str),M[i]? = some x->cap[i]? = some (some j)->N[j]? = some x/\scope.names.lookup x=some .free/\(sc.names.lookup x=some .cell∨sc.names.lookup x=some .free)
 kind:scope.kind=.function
 cell:∀y∈scope.names,y.2≠.cell
 free:∀y∈scope.names,y.2=.free->sc.names.lookup y.1=some .cell∨sc.names.lookup y.1=some .free
 loc:∀y∈scope.names,y.2=.local->scope.names.lookup y.1=some .local
theorem CapOk.of{N:List Str}{sc:Y4}{M:List Str}{scope:Y4}{cap:List (Option Nat)}(h:QhO N sc M scope cap=true):CapOk N sc M scope cap:=by
 unfold QhO at h;simp only[JP,J4,beq_iff_eq] at h;obtain⟨⟨h1,h2⟩,h3,h4⟩:=h;refine⟨h1,λi j x e1 e2=>?_,h3,λy hy z=>?_,λy hy z=>?_,λy hy z=>?_⟩
 ·have hm:(x,some j)∈M.zip cap:=by
   have:(M.zip cap)[i]? = some (x,some j):=by rw[List.getElem?_zip_eq_some];exact⟨e1,e2⟩
   exact Q3 this
  have:=h2 _ hm;simp only[JP,beq_iff_eq,Bool.or_eq_true] at this;exact this
 ·have:=(h4 y hy).1;simp[z] at this
 ·have:=(h4 y hy).2.1
  simpa [z] using this
 ·have:=(h4 y hy).2.2
  simpa [z] using this
section
variable{X:Cx}{pins:List (Addr×Obj)}{σ:St}{H H3:Hp}{s3:Shared}{M:List Str}{scope:Y4}{cap:List (Option Nat)}{fp:List Addr}{h4:JR}{t4:Nat}
theorem Cx.Ok.cells(ok:X.Ok){N:List Str}(c:CapOk N X.env.scope M scope cap):∀y∈scope.names,y.2=.free->∃d,X.env.cells.lookup y.1=some d:=λy hy z=>ok.has y.1 (c.free y hy z)
theorem QgZ(I:Inv X pins σ H3 s3)(c:CapOk X.N X.env.scope M scope cap)(hf:∀b∈fp,FpOk X pins H3 b)(hb:∀b∈fp,b<s3.heap.objs.size)
  (hn:h4.Ns s3.heap.objs.size λ_=>none)(hk:∀b o,s3.heap.get? b=some o->h4.get? b=some o) :
  Inv (blk X M scope (Qcf X.env scope.names []) fp s3 H3 s3.heap.objs.size) [] (Qc2 cap σ) H3 { s3 with heap:=h4,toks:=t4 }:=by
 obtain⟨c1,c2,c3⟩:=QhN scope.names [] (I.ok.cells c) (λx d q=>by cases q);refine⟨⟨I.ok.mod,c.kind,I.ok.glob,I.ok.blt,Qh _,λx y d e1 e2=>I.ok.inj x y d (c1 x d e1) (c1 y d e2),λx hx=>?_,(λx d z=>nomatch z),I.ok.hd,I.ok.frames,.inl rfl,λb hb'=>?_,I.bs,
  QL I.ok.bsz I.sz,λb o e z=>?_,λb hb' z=>?_,I.stack,I.stkFree⟩,rfl,I.bare,Un.kept hk,⟨_,hn,λi x v e1 e2 e3=>?_⟩,λx d e=>?_,I.hok.fresh (Qh _),λx d e=>I.freeC x d (c1 x d e),λp hp=>(nomatch hp),I.hok.kept hk,?_⟩
 ·have hx':(relabel scope X.env).names.lookup x=some .cell∨(relabel scope X.env).names.lookup x=some .free:=hx;rcases hx' with q | q
  ·rcases QaC q with z | ⟨_,z⟩
   ·exact absurd rfl (c.cell _ (QbF z))
   ·exact c3 x (QbF z)
  ·rcases QaC q with z | ⟨z,_⟩
   ·exact c3 x (QbF z)
   ·cases z
 ·obtain⟨f0,f1,f2,f3,f4,f5⟩:=hf b hb';exact⟨Qx (hb b hb'),λx d e=>f4 x d (c1 x d e)⟩
 ·obtain⟨f0,f1,f2,f3,f4,f5⟩:=hf b z;rcases f3 with q | q
  ·exact I.ok.noex b o e q
  ·exact absurd (QN (Qo e) (QL I.ok.bsz q)) (Zv _)
 ·obtain⟨f0,f1,f2,f3,f4,f5⟩:=hf b hb';rcases Qz.mp (I.stkSub b z) with q | q
  ·exact f1 q
  ·exact f2 q
 ·have e2':(cap.map λo=>match o with | none=>none | some j=>(σ[j]?).getD none)[i]? = some (some v):=e2;rw[QC] at e2';cases q:cap[i]? with
  |none=>rw[q] at e2';cases e2'
  |some o=>
   rw[q] at e2';cases o with
   |none=>cases e2'
   |some j=>
    have e4:(σ[j]?).getD none=some v:=QB e2';have e5:σ[j]? = some (some v):=by
     cases r:σ[j]? with
     |none=>rw[r] at e4;cases e4
     |some o=>rw[r] at e4;exact congrArg some e4
    obtain⟨n1,n2,n3⟩:=c.own i j x e1 q;obtain⟨m,hm,hl⟩:=I.loc;obtain⟨u,ru,lk⟩:=hl j x v n1 e5 (n3.elim (λz=>.inr (.inl z)) λz=>.inr (.inr z));refine⟨u,ru,.inr ?_⟩;rcases lk with⟨k1,_⟩ | ⟨_,d,k2,k3⟩
    ·have k1':X.env.scope.names.lookup x=some .local:=k1;rcases n3 with z | z<;>(rw[z] at k1';cases k1')
    ·obtain⟨d',hd'⟩:=c3 x (QbF n2);have ed:d'=d:=by
      have:=c1 x d' hd';rw[k2] at this;exact(QB this).symm
     subst ed;exact⟨(relabel_free n2:(relabel scope X.env).names.lookup x=some .cell∨(relabel scope X.env).names.lookup x=some .free),d',hd',k3.keeps hk⟩
 ·obtain⟨v,q⟩:=I.cell x d (c1 x d e);exact⟨v,q.keeps hk⟩
 ·show(cap.map _).length=M.length;rw[Qg];exact c.len
theorem Qm6{σ':St}{s':Shared}{h':JR}(I:Inv X pins σ H3 s3)(hf:∀b∈fp,FpOk X pins H3 b)(J:Inv (blk X M scope (Qcf X.env scope.names []) fp s3 H3 s3.heap.objs.size) [] σ' H s')(hs:ZH s3.heap.objs.size s'.heap h') :
  Inv X pins σ H { s' with heap:=h' }:=by
 have u:Un (frs X.stack) fp H3 H s3.heap s'.heap:=J.base;have ne:∀b o,s3.heap.get? b=some o->b≠s3.heap.objs.size:=λb o e=>Qx (Qo e)
 have hC:H s3.heap.objs.size=none:=J.free;refine I.call' (ch:=fp) (s':={ s' with heap:=h' }) J.os ⟨λb o e n hb hx=>(hs.2 b (ne b o e)).trans (u.keep b o e n hb hx),λb o e n hb hx=>?_,u.free,λb o e hx=>?_,u.tups,u.frzs,u.tbls⟩ (λb o e=>?_) J.bare λb hb=>?_
 ·obtain⟨sl,q⟩:=u.slot b o e n hb hx;exact⟨sl,(hs.2 b (ne b o e)).trans q⟩
 ·obtain⟨o',q⟩:=u.there b o e hx;exact⟨o',(hs.2 b (ne b o e)).trans q⟩
 ·refine(J.hok b o e).stay (λc v hc q=>(hs.2 c ?_).trans q) (λ_ q=>q) λ_ _ q=>q
  rintro rfl;rcases hc with z | z
  ·rw[<- z,hC] at e;cases e
  ·rw[hC] at z;cases z
 ·obtain⟨f0,f1,f2,f3,f4,f5⟩:=hf b hb;exact⟨f3,f1,f4,f5⟩
end
def Wk:St->St->Prop
 |[],[]=>True
 |none::a,_::b=>Wk a b
 |some v::a,some u::b=>v=u/\Wk a b
 |_,_=>False
theorem Wk.len:∀{a b:St},Wk a b->a.length=b.length
 |[],[],_=>rfl
 |none::a,_::b,h=>congrArg (·+1) (Wk.len (a:=a) (b:=b) h)
 |some v::a,some u::b,h=>congrArg (·+1) (Wk.len (a:=a) (b:=b) h.2)
 |[],_::_,h=>h.elim
 |some _::_,[],h=>h.elim
 |none::_,[],h=>h.elim
 |some _::_,none::_,h=>h.elim
theorem Wk.get:∀{a b:St},Wk a b->∀(i:Nat) v,a[i]? = some (some v)->b[i]? = some (some v)
 |[],[],_,i,v,h=>by simp at h
 |none::a,x::b,h,0,v,e=>by simp at e
 |none::a,x::b,h,i+1,v,e=>by
  simp only[Z4] at e ⊢;exact Wk.get (a:=a) (b:=b) h i v e
 |some q::a,some u::b,h,0,v,e=>by
  simp only[QhV] at e ⊢;rw[<- h.1];exact e
 |some q::a,some u::b,h,i+1,v,e=>by
  simp only[Z4] at e ⊢;exact Wk.get (a:=a) (b:=b) h.2 i v e
 |[],_::_,h,_,_,_=>h.elim
 |some _::_,[],h,_,_,_=>h.elim
 |none::_,[],h,_,_,_=>h.elim
 |some _::_,none::_,h,_,_,_=>h.elim
theorem Inv.wk{X:Cx}{pins:List (Addr×Obj)}{σ σ':St}{H:Hp}{s:Shared}(I:Inv X pins σ H s)(h:Wk σ' σ):Inv X pins σ' H s:=I.weak h.len h.get
def Qi9(J:It)(body:V->Hp->(Hp->Prop)->Prop)(Qn:Hp->Prop)(H:Hp):Prop:=
 ∃W:Nat->Nat->Hp->Prop,(∃m,W 0 m H)/\∀i m H2,W i m H2->(J.stop i H2/\Qn H2)∨(J.go i H2/\∀x H3,J.yld i H2 x H3->body x H3 λH6=>∃m',m'<m/\W (i+1) m' H6)
abbrev Act:=(Shared->Prop)->Shared->Prop
def BodyOk(Y:Cx)(σ:St)(act:Act)(b:Hp->(Hp->Prop)->Prop):Prop:=
 ∀(pins:List (Addr×Obj))(s:Shared)(H:Hp)(k:Hp->Prop)(Q:Shared->Prop),Inv Y pins σ H s->b H k->(∀s' H',Inv Y pins σ H' s'->k H'->Q s')->act Q s
theorem Qeb{Y:Cx}{σ:St}{tg:QX}{elt:QX}{gens:List Qfi}{scope:Y4}{cpos:Pos}{d:Nat}{it D:Addr}{fp:List Addr}{tn:Nat->JR->Prop}{J:It}{pins:List (Addr×Obj)}{s:Shared}{H:Hp}{body:V->Hp->(Hp->Prop)->Prop}{Qn:Hp->Prop}{R:Result->Shared->Prop}{act:Value->Act}
  (hc:Y.calm=true)(T:Turn Y.prog Y.w Y.K tg J fp it tn)(st:tn 0 s.heap)(hf:∀b∈fp,FpOk Y pins H b)
  (hturn:∀(Q:PySem.Fin->Shared->Prop)(E:Value->Shared->Prop)(s:Shared),wpAny (model Y.prog Y.w) Y.A (pyNext (.ref it)) (λr s1=>match r with
   |none=>Q (.done .next) s1
   |some v=>wpAny (model Y.prog Y.w) Y.A (letOwnedTupleGo tg (.ref it) v) (λ_ s2=>act v (λs3=>Q (.again (.compLoop (.ListComp elt gens scope cpos) d (.ref it) (.ref D) Y.env)) s3) s2) E s1) E s ->
   wpAny (model Y.prog Y.w) Y.A (compTurn (.ListComp elt gens scope cpos) d (.ref it) (.ref D) Y.env) Q E s)
  (hact:∀(x:V)(u:Value),RelV x u->BodyOk Y σ (act u) (body x))
  (I:Inv Y pins σ H s)(h:Qi9 J body Qn H)(hR:∀s' H',Inv Y pins σ H' s'->Qn H'->R (.ok .next) s') :
  codeAny (model Y.prog Y.w) Y.A (.compLoop (.ListComp elt gens scope cpos) d (.ref it) (.ref D) Y.env) R s:=by
 obtain⟨W,⟨m0,w0⟩,turn⟩:=h;have stat:∀{H':Hp},(∀b∈fp,H' b=none)->∀b∈fp,FpOk Y pins H' b:=λhn b hb=>⟨hn b hb,(hf b hb).2⟩
 refine codeAny_loop rfl (λn s'=>∃i H',Inv Y pins σ H' s'/\tn i s'.heap/\(∀b∈fp,H' b=none)/\W i n H') (λn s3 hI=>?_) m0 ⟨0,H,I,st,λb hb=>(hf b hb).1,w0⟩;show wpAny _ Y.A ((compTurn (.ListComp elt gens scope cpos) d (.ref it) (.ref D) Y.env).onRaise (λx=>do noteFrame x Y.env;theTreesLotGoes x)) _ _ s3;refine wpAny_noted (hturn _ _ _ ?_);obtain⟨i,H3,I3,st3,fr3,w3⟩:=hI;rcases turn i n H3 w3 with⟨stop,qn⟩ | ⟨go,step⟩
 ·refine thn (T.done Y rfl rfl rfl hc i pins s3 σ H3 _ I3 (stat fr3) st3 stop) λr s4 ⟨hr,I4⟩=>?_
  subst hr;exact hR s4 H3 I4 qn
 ·refine thn (T.item Y rfl rfl rfl hc i pins s3 σ H3 _ I3 (stat fr3) st3 go) λr s4 ⟨u,hr,h4⟩=>?_
  subst hr;refine thn h4 λ_ s5 ⟨x,H5,I5,r5,y5,st5,fr5⟩=>?_
  have I5':=I5.pinned (stat fr5) (T.obj _ _ st5);refine hact x u r5 _ s5 H5 _ _ I5' (step x H5 y5) λs7 H7 I7 ⟨m',hm,w7⟩=>?_
  refine⟨rfl,m',hm,i+1,H7,I7.unpinned,T.keep _ _ _ st5 λb hb o e=>(I7.pin (b,o) (JA _ (JA _ (QbE hb e)))).1,λb hb=>?_,w7⟩;obtain⟨o,e,dd⟩:=T.obj _ _ st5 b hb;exact(I7.pin (b,o) (JA _ (JA _ (QbE hb e)))).2.1
abbrev QkL (ifs:List QX) (env:Env):Sem Bool:=forIn ifs true λc r=>if r=true then do let ok <- isTrue c env (eval c env);pure (Zn ok) else pure (Zn r)
def PTs(Y:Cx)(ifs:List QX)(t:TT):Prop:=
 ∀(pins:List (Addr×Obj))(s:Shared)(σ:St)(H:Hp)(Q:Bool->Hp->Prop),Inv Y pins σ H s->t σ H Q->wpAny (model Y.prog Y.w) Y.A (QkL ifs Y.env) (TP Y pins σ Q) Y.xe s
def Qhq:TT:=λ_ H Q=>Q true H
theorem Qly{Y:Cx}:PTs Y [] Qhq:=λpins s σ H Q I h=>wpAny_tests_nil ⟨H,I,h⟩
theorem Qsu{Y:Cx}{c:QX}{t:TT}(h:PT Y c t):PTs Y [c] t:=λpins s σ H Q I q=>wpAny_tests_one (h pins s σ H Q I q)
def Qpz(Y:Cx)(tg:QX)(ifs:List QX)(inner:Act):Value->Act:=λu Q s=>
 wpAny (model Y.prog Y.w) Y.A (assign tg Y.env u) (λ_ s4=>wpAny (model Y.prog Y.w) Y.A (QkL ifs Y.env) (λok s5=>if ok=true then inner Q s5 else Q s5) (λ_ _=>False) s4) (λ_ _=>False) s
def bOf(σ:St)(g:TG)(tc:TT)(inner:St->Hp->(Hp->Prop)->Prop):V->Hp->(Hp->Prop)->Prop:=λx H k=>g x σ H λσ4 H4=>Wk σ σ4/\tc σ4 H4 λb H5=>
 if b=true then inner σ4 H5 k else k H5
theorem QhP{Y:Cx}{σ:St}{tg:QX}{ifs:List QX}{g:TG}{tc:TT}{inner:Act}{ri:St->Hp->(Hp->Prop)->Prop}(hx:Y.xe=λ_ _=>False)(hg:PG Y tg g)(ht:PTs Y ifs tc)(he:∀σ4,BodyOk Y σ4 inner (ri σ4))(x:V)(u:Value)(r:RelV x u) :
  BodyOk Y σ (Qpz Y tg ifs inner u) (bOf σ g tc ri x):=by
 intro pins s H k Q I h hQ;have hx':∀(v:Value)(s':Shared),Y.xe v s'->False:=λv s' z=>by rw[hx] at z;exact z
 refine wpAny_mono (hg pins s σ H x u _ I r h) (λ_ s4 ⟨σ4,H4,I4,wk,q4⟩=>?_) hx';refine wpAny_mono (ht pins s4 σ4 H4 _ I4 q4) (λb s5 ⟨H5,I5,q5⟩=>?_) hx';cases b with
 |false=>
  rw[if_neg Qp] at q5;rw[if_neg Qp];exact hQ s5 H5 (I5.wk wk) q5
 |true=>
  rw[if_pos rfl] at q5;rw[if_pos rfl];exact he σ4 pins s5 H5 k Q I5 q5 λs' H' I' k'=>hQ s' H' (I'.wk wk) k'
def Qnd(Y:Cx)(elt:QX)(D:Addr):Act:=λQ s=>wpAny (model Y.prog Y.w) Y.A (eval elt Y.env) (λv s6=>wpAny (model Y.prog Y.w) Y.A (call (.builtin "list.append") [.ref D,v]) (λ_ s7=>Q s7) (λ_ _=>False) s6) (λ_ _=>False) s
def Quu(p:Addr)(te:TE):St->Hp->(Hp->Prop)->Prop:=λσ H k=>te σ H λv H6=>∃ys,H6 p=some (.lst ys)/\ys.length<sizeLine/\k (upd H6 p (.lst (ys++[v])))
theorem QiO{Y:Cx}{σ:St}{elt:QX}{te:TE}{D:Addr}(hx:Y.xe=λ_ _=>False)(he:PE Y elt te):BodyOk Y σ (Qnd Y elt D) (Quu D te σ):=by
 intro pins s H k Q I h hQ;have hx':∀(v:Value)(s':Shared),Y.xe v s'->False:=λv s' z=>by rw[hx] at z;exact z
 refine wpAny_mono (he pins s σ H _ I h) (λv s6 ⟨y,H6,I6,r6,ys,e,hz,q⟩=>?_) hx';exact wpAny_mono (Qd1 (X:=Y) pins s6 σ H6 (.ref D) [y] (.ref D) [v] (λ_ H'=>k H') I6 rfl (.cons r6 .nil) ⟨D,ys,y,rfl,rfl,e,hz,q⟩) (λ_ s7 ⟨_,H7,I7,_,q7⟩=>hQ s7 H7 I7 q7) hx'
theorem QnD{Y:Cx}{elt tg iter:QX}{ifs:List QX}{scope:Y4}{cpos:Pos}{it D:Addr}(Q:PySem.Fin->Shared->Prop)(E:Value->Shared->Prop)(s:Shared)
  (h:wpAny (model Y.prog Y.w) Y.A (pyNext (.ref it)) (λr s1=>match r with
   |none=>Q (.done .next) s1
   |some v=>wpAny (model Y.prog Y.w) Y.A (letOwnedTupleGo tg (.ref it) v) (λ_ s2=>Qpz Y tg ifs (Qnd Y elt D) v (λs3=>Q (.again (.compLoop (.ListComp elt [⟨tg,iter,ifs,0⟩] scope cpos) 0 (.ref it) (.ref D) Y.env)) s3) s2) E s1) E s) :
  wpAny (model Y.prog Y.w) Y.A (compTurn (.ListComp elt [⟨tg,iter,ifs,0⟩] scope cpos) 0 (.ref it) (.ref D) Y.env) Q E s:=by
 rw[compTurn_list];refine wpAny_bind (wpAny_standAt (wpAny_bind (thn h λr s1 h1=>?_)));cases r with
 |none=>exact Qf h1
 |some v=>
  refine wpAny_bind (thn h1 λ_ s2 h2=>?_);refine wpAny_bind (wpAny_mono h2 (λ_ s4 h4=>wpAny_bind (wpAny_mono h4 (λok s5 h5=>?_) λ_ _ f=>f.elim)) λ_ _ f=>f.elim);cases ok with
  |false=>exact Qf h5
  |true=>exact wpAny_bind (wpAny_bind (wpAny_mono h5 (λx s6 h6=>wpAny_bind (wpAny_mono h6 (λ_ s7 h7=>Qf (Qf h7)) λ_ _ f=>f.elim)) λ_ _ f=>f.elim))
def tComp(cap:List (Option Nat))(wi:TI)(g:TG)(tc:TT)(te:TE):TE:=λσ H Q=>wi σ H λJ H1=>∀p,H1 p=none->Qi9 J (bOf (Qc2 cap σ) g tc (Quu p te)) (Q (.ref p)) (upd H1 p (.lst []))
theorem FpOk.upd{X:Cx}{pins:List (Addr×Obj)}{H:Hp}{b a:Addr}{o:HO}(h:FpOk X pins H b)(hne:b≠a):FpOk X pins (upd H a o) b:=⟨by rw[QU hne];exact h.1,h.2⟩
theorem Qip{X:Cx}{M:List Str}{cap:List (Option Nat)}{elt tg iter:QX}{ifs:List QX}{scope:Y4}{pos:Pos}{wi:TI}{g:TG}{tc:TT}{te:TE}(hc:X.calm=true)(ok:QhO X.N X.env.scope M scope cap=true)
  (hi:PI X tg iter wi)(hb:∀cl ex s3 H3 C,PG (blk X M scope cl ex s3 H3 C) tg g/\PTs (blk X M scope cl ex s3 H3 C) ifs tc/\PE (blk X M scope cl ex s3 H3 C) elt te)
  (hs:∀x,foldedSetIterable iter X.env x=pure x:=by intro _;rfl):PE X (.ListComp elt [⟨tg,iter,ifs,0⟩] scope pos) (tComp cap wi g tc te):=by
 intro pins s σ H Q I h;have c:=CapOk.of ok;rw[eval_ListComp];refine Qnh (use:=none) rfl hs (QmT (I.ok.cells c)) c.kind c.loc ?_
 refine thn (hi pins s σ H _ I h) λv s1 h1=>thn h1 λitv s2 h2=>?_
 obtain⟨it,fp,tn,J,H2,e,I2,T,st2,f2,hW⟩:=h2;subst e;refine Jy (Quk c.cell (by intro y hy;simp at hy) (λh₁ hns₁ hsb₁=>?_) c.kind);have I3:Inv X pins σ (upd H2 s2.heap.objs.size (.lst [])) { s2 with heap:=s2.heap.push { cls:=.type "list",data:=.seq ([]:List Value).toArray } }:=I2.lnew (t':=s2.toks) (ys:=[]) .nil (Je _);have lt2:∀b∈fp,b<s2.heap.objs.size:=λb hb=>by obtain⟨o,e,_⟩:=T.obj _ _ st2 b hb;exact Qo e
 have f3:∀b∈fp,FpOk X pins (upd H2 s2.heap.objs.size (.lst [])) b:=λb hb=>(f2 b hb).upd (Qx (lt2 b hb))
 generalize hs3:({ s2 with heap:=s2.heap.push { cls:=.type "list",data:=.seq ([]:List Value).toArray } }:Shared)=s3 at I3;have e3:s3.heap=s2.heap.push { cls:=.type "list",data:=.seq ([]:List Value).toArray }:=by rw[<- hs3]
 have z3:s3.heap.objs.size=s2.heap.objs.size+1:=by rw[e3,Z7]
 have hk:∀b o,s3.heap.get? b=some o->h₁.get? b=some o:=λb o e=>hsb₁.extBut b o (by
  have:=Qo e;rw[e3] at this;exact Qx this) (Qd _ (e3 ▸ e))
 have hn₁:h₁.Ns s3.heap.objs.size λ_=>none:=by rw[e3];exact hns₁
 have B:=QgZ (t4:=s3.toks+([]:List (Str×Value)).length) (fp:=fp) I3 c f3 (λb hb=>by rw[z3];exact QrF (lt2 b hb)) hn₁ hk;have st4:tn 0 h₁:=T.keep _ _ _ st2 λb hb o e=>hk b o (by rw[e3];exact Qd _ e)
 have fp4:∀b∈fp,FpOk (blk X M scope (Qcf X.env scope.names []) fp s3 (upd H2 s2.heap.objs.size (.lst [])) s3.heap.objs.size) [] (upd H2 s2.heap.objs.size (.lst [])) b:=λb hb=>by
  refine⟨(f3 b hb).1,(B.ok.exf b hb).1,B.ok.exfs b hb,.inl hb,(B.ok.exf b hb).2,λp hp=>(nomatch hp)⟩
 obtain⟨hg,ht,he⟩:=hb (Qcf X.env scope.names []) fp s3 (upd H2 s2.heap.objs.size (.lst [])) s3.heap.objs.size;have loop:codeAny (model X.prog X.w) X.A (.compLoop (.ListComp elt [⟨tg,iter,ifs,0⟩] scope pos) 0 (.ref it) (.ref s2.heap.objs.size) (compEnvC scope (Qcf X.env scope.names []) s3.heap.objs.size X.env))
   (compPost (model X.prog X.w) X.A X.xe none (EP X pins σ Q) (.ref s2.heap.objs.size) s3.heap.objs.size) { s3 with heap:=h₁,toks:=s3.toks+([]:List (Str×Value)).length }:=by
  refine Qeb (Y:=blk X M scope (Qcf X.env scope.names []) fp s3 (upd H2 s2.heap.objs.size (.lst [])) s3.heap.objs.size) (gens:=[⟨tg,iter,ifs,0⟩]) (d:=0) hc T st4 fp4
   (λQ E s h=>QnD Q E s h) (λx u r=>QhP rfl hg ht (λσ4=>QiO rfl he) x u r) B (hW _ (I2.hok.fresh (Qh _))) λs' H' I' q=>?_
  obtain⟨m,hn,_⟩:=I'.loc;exact⟨m,hn,λh' hs'=>⟨.ref s2.heap.objs.size,H',Qm6 I3 f3 I' hs',rfl,q⟩⟩
 exact QpD loop (T.self _ 0 _ _ _ st4 loop)
section
variable{X:Cx}
theorem Zq:CallR X (.builtin "isinstance") (λxs H Q=>∃x t T b,xs=[x,.ty T]/\TyOf X.K H x t/\PySem.W.kitOne X.K t (.type T)=some b/\Q (.bl b) H):=by
 intro pins s σ H xs us Q I r h;obtain⟨x,t,T,b,rfl,ty,e,q⟩:=h;obtain⟨u,v,rfl,ru,rv⟩:=vals2 r;cases(show v=Y3 T from rv);exact Qmr I ru ty e λtk=>⟨.bl b,H,I.tok tk,rfl,q⟩
theorem Qpv{bs:List Bool}:∀{us:List Value},Vals (bs.map V.bl) us->LSm.BoolsAre us bs:=by
 induction bs with
 |nil=>intro us r;cases r;exact .nil
 |cons b bs ih=>
  intro us r;cases r with
  |cons r t=>
   cases(show _=Zt b from r);exact .cons b (ih t)
theorem Qpu:CallR X (.builtin "all") (λxs H Q=>∃(p:Addr)(bs:List Bool),xs=[.ref p]/\SqL X.K H p (bs.map V.bl)/\X.calm=true/\Q (.bl (bs.all id)) H):=by
 intro pins s σ H xs us Q I r h;obtain⟨p,bs,rfl,hp,hc,q⟩:=h;obtain⟨u,rfl,ru⟩:=vals1 r;cases ru;obtain⟨its,rv,pl,hz⟩:=I.list hp;have hl:=pl.isList;have hb:=Qpv rv;have hlt:p<s.heap.objs.size:=by obtain⟨_,e,_⟩:=hl;exact Qo e
 refine call_all_walk (Qw8 hl ?_);refine⟨s.heap.objs.size,[s.heap.objs.size,p],[s.heap.objs.size],its.toArray.size,_,_,λi=>(bs[i]?).getD true,rfl,Walks.list (A:=X.A.in1) (I.ok.hd hc) _ p (Qx hlt) its.toArray,
  ⟨⟨_,Qs _ rfl,rfl,rfl⟩,hl.push _⟩,λi v s' Q' E' hP hQ=>?_,λh' tk hk=>?_⟩
 ·obtain⟨b,e,rfl⟩:=hb.get i v (by simpa using hP);simp only[e,Option.getD_some] at hQ;exact Z6 hQ
 ·have e:((QY its.toArray.size).all λi=>(bs[i]?).getD true)=bs.all id:=by
   rw[Qk,hb.length];exact LSm.range_all bs
  rw[e];exact⟨.bl _,H,I.kept (LSm.kept_iter hk),rfl,q⟩
def QyR:V->Option Int->Option Int->Hp->VK->Prop:=λx lo hi H Q=>∃a xs,x=.ref a/\H a=some (.tup xs)/\∀p H',Same H H'->H' p=some (.tup (QiH xs lo hi))->Q (.ref p) H'
theorem Jn{H:Hp}{p:Addr}{o:HO}(h:H p=none):Same H (upd H p o):=λb u e=>by rw[QU (QP e h)];exact e
theorem Qb6{prog:Qw}{w:Ja}{A:Q9}{E:Value->Shared->Prop}{s:Shared}{t sl:Addr}{items:Array Value}{vl vu:Value}{lo hi:Option Int}{Q:Value->Shared->Prop}(ht:IsTup s.heap t items)(hs:s.heap.IsSliceOf sl vl vu .none)(pl:Qha vl lo)(pu:Qha vu hi)
  (h1:HT.sIx items.size 0 lo=0)(h2:HT.sIx items.size items.size hi=items.size)(h:Q (.ref t) s):wpAny (model prog w) A (getItem (.ref t) (.ref sl)) Q E s:=by
 obtain⟨os,hos,hcs,hds⟩:=id hs;have hTs:s.TypeIs (.ref sl) "slice" := ⟨os,hos,hcs⟩;unfold getItem
 try with_reducible refine Zk ?_
 first | refine wpAny_bind (Qf ?_) | skip
 refine wpAny_bind (Qw7 ht.typeIs (by decide) ?_);refine wpAny_bind (JU (name:=YO "__getitem__") ht.typeIs JM
  (J8 JM ht.typeIs Qux ?_ (QwG _ _)))
 show wpAny _ _ (Qda (.ref t) >>= _) _ _ s;refine wpAny_bind (tupleItemsOf_ ht ?_);refine wpAny_bind (Qg6 hTs ?_);rw[if_pos (by decide)];refine wpAny_bind (HT.Qbb hs pl pu ?_);show wpAny _ _ (if(((HT.sIx items.size 0 lo:Nat):Int) == 0&&(1:Int) == 1&&(HT.sIx items.size items.size hi - HT.sIx items.size 0 lo) == items.size)=true then _ else _) _ _ s;rw[if_pos (by rw[h1,h2];simp)];refine wpAny_bind (m:=QxE _) (wpAny_bind (Qg6 ht.typeIs (Qf ?_)));rw[if_pos (by decide)];exact wpAny_bind (wpAny_rule (Qf ⟨_,rfl,Qf h⟩))
theorem QuR:SlR X QyR:=by
 intro pins s σ H x v vl vu lo hi sl Q I rx hs pl pu h;obtain⟨a,xs,rfl,hx,q⟩:=h;by_cases hw:HT.sIx xs.length 0 lo=0/\HT.sIx xs.length xs.length hi=xs.length
 ·cases rx;obtain⟨its,r,ht,hz⟩:=I.tuple (SqT.of hx);have hlen:its.toArray.size=xs.length:=by rw[Qk];exact r.length.symm
  refine⟨"tuple",_,JM.lookup,ht.typeIs,?_⟩;refine Qb6 ht hs pl pu (by rw[hlen];exact hw.1) (by rw[hlen];exact hw.2) ?_
  refine⟨.ref a,H,I,rfl,q a H (Same.refl H) ?_⟩;have e:QiH xs lo hi=xs:=by
   unfold QiH;rw[hw.1,hw.2];simp
  rw[e];exact hx
 ·exact QuQ pins s σ H (.ref a) v vl vu lo hi sl Q I rx hs pl pu ⟨a,xs,rfl,SqT.of hx,hw,λp hp=>q p _ (Jn hp) upd_same⟩
def Qn6:R2:=λx y H Q=>∃a b xs ys,x=.ref a/\y=.ref b/\H a=some (.tup xs)/\H b=some (.tup ys)/\xs.length+ys.length<=sizeLine/\∀p H',Same H H'->H' p=some (.tup (xs++ys))->Q (.ref p) H'
theorem QlX:OpR X (binaryOp .Add) Qn6:=by
 intro pins s σ H x y v u Q I rx ry h;obtain⟨a,b,xs,ys,rfl,rfl,ha,hb,hz,q⟩:=h;by_cases hx:xs=[]
 ·subst hx;cases rx;cases ry;obtain⟨its,r1,p1,_⟩:=I.tuple (SqT.of ha);obtain⟨its2,r2,p2,_⟩:=I.tuple (SqT.of hb);cases r1;obtain⟨⟨cls,dd,data,sl⟩,ho,hc,n,hd⟩:=id p1;obtain⟨⟨cls2,dd2,data2,sl2⟩,ho2,hc2,n2,hd2⟩:=id p2;simp only at hc hd hc2 hd2;subst hc hd hc2 hd2;exact QrA ⟨_,ho,rfl⟩ ⟨_,ho2,rfl⟩ Qhg Qno PySem.F.slot_tuple_add PySem.F.entry_tuple_add (PySem.F.args_tuple_add_2 _ _)
   (tuple_addW0 a b #[] its2.toArray n n2 dd dd2 sl sl2 rfl) ⟨ho,ho2,⟨.ref b,H,I,rfl,q b H (Same.refl H) hb⟩⟩
 ·exact Qs8 pins s σ H _ _ v u Q I rx ry ⟨a,b,xs,ys,rfl,rfl,SqT.of ha,SqT.of hb,hx,hz,λe=>q a H (Same.refl H) (by rw[e,ZV];exact ha),λ_ p hp=>q p _ (Jn hp) upd_same⟩
def QxQ:TE:=λ_ H Q=>∀p,H p=none->Q (.ref p) (upd H p (.dK []))
theorem QsE{pos:Pos}:PE X (.Dict [] [] pos) QxQ:=λpins s σ H Q I h=>by
 refine wpAny_Dict_empty ⟨.ref s.heap.objs.size,_,I.laid (a:=s.heap.objs.size) (o:=.dK []) (t':=s.toks) (λ_ _ q=>Qd _ q) (Qh _) ?_,rfl,h _ (I.hok.fresh (Qh _))⟩;have hb:sysModules<s.heap.objs.size:=Nat.lt_trans (by decide) (I.mod.glob.keeps I.bk).lt;exact⟨Je _,beq_eq_false_iff_ne.mpr (Y2 (Qx hb)),[],.nil,Qi2 s.heap⟩
end
end L2
namespace Rz
open Sem (wp)
section
variable{prog:Qw}{w:Ja}{A:Q9}{E:Value->Shared->Prop}{s:Shared}
theorem QfL{it t:Addr}{i:Nat}{items:Array Value}{x:Value}{Q:Value->Shared->Prop}(hit:s.heap.IsTupleIter it t i)(ht:s.heap.IsTuple t items)(hx:items[i]? = some x)
  (hQ:∀h',h'.IsTupleIter it t (i+1)->ZH it s.heap h'->Q x { s with heap:=h' }):wpAny (model prog w) A (Jw (.ref it)) Q E s:=by
 obtain⟨o,ho,hc,hd⟩:=id hit;obtain⟨ol,hol,_,nl,hdl⟩:=ht;unfold Jw;refine wpAny_bind (JU (name:=YO "__next__") hit.typeIs YD
  (J8 YD hit.typeIs Qhl ?_ (Qhb _)))
 show wpAny _ _ (field (.ref it) 0 >>= _) _ _ s;refine wpAny_bind (J3 ho hd (x:=.ref t) rfl ?_);show wpAny _ _ (if(QQ t == Q6)=true then _ else _) _ _ s;rw[if_neg (show ¬((QQ t == Q6)=true) from Qp)];show wpAny _ _ (field (.ref it) 1 >>= _) _ _ s;refine wpAny_bind (J3 ho hd (x:=.int i 0) rfl ?_);show wpAny _ _ (seqItems? (.ref t) >>= _) _ _ s;refine wpAny_bind (Yi hol hdl ?_);simp only[Qy,hx];refine wpAny_bind (Qeg ho hd (by simp) (Qf ⟨x,rfl,Qf (hQ _ ?_ (Yk ..))⟩));exact⟨_,Qag _ ho (Qku (Qa6 hd _)),(QrE ..).trans hc,by
  rw[Qa6 hd];simp[rawInt]⟩
theorem Qma{it t:Addr}{i:Nat}{items:Array Value}{Q:Value->Shared->Prop}(hh:A.handled=none)(hit:s.heap.IsTupleIter it t i)(ht:s.heap.IsTuple t items)(hx:items[i]? = none)
  (hE:∀h' e,Heap.ExtBut it s.heap h'->(∃o,h'.get? e=some o/\o.cls=.type "StopIteration")->E (.ref e) { s with heap:=h' }):wpAny (model prog w) A (Jw (.ref it)) Q E s:=by
 obtain⟨o,ho,hc,hd⟩:=id hit;obtain⟨ol,hol,_,nl,hdl⟩:=ht;unfold Jw;refine wpAny_bind (JU (name:=YO "__next__") hit.typeIs YD
  (J8 YD hit.typeIs Qhl ?_ (Qhb _)))
 show wpAny _ _ (field (.ref it) 0 >>= _) _ _ s;refine wpAny_bind (J3 ho hd (x:=.ref t) rfl ?_);show wpAny _ _ (if(QQ t == Q6)=true then _ else _) _ _ s;rw[if_neg (show ¬((QQ t == Q6)=true) from Qp)];show wpAny _ _ (field (.ref it) 1 >>= _) _ _ s;refine wpAny_bind (J3 ho hd (x:=.int i 0) rfl ?_);show wpAny _ _ (seqItems? (.ref t) >>= _) _ _ s;refine wpAny_bind (Yi hol hdl ?_);simp only[Qy,hx];refine wpAny_bind (wpAny_rule (wpAny_bind (Qeg ho hd (by simp) ?_)));show wpAny _ _ (newExc (.type "StopIteration") [] >>= _) _ _ _;refine wpAny_bind ?_
 simp only[newExc,newTuple];refine wpAny_bind (Jy ?_ (by size_fits));refine wpAny_bind (m:=firstArgMember _ _) (Ya (a:=Q6) (by first | rfl | (simp only[firstArgMember];rfl)) ?_);refine Jy ?_ (by size_fits)
 simp only[raiseNew];refine wpAny_bind (wpAny_handled ?_)
 first | rw[show A.in1.handled=none from hh] | rw[hh]
 refine wpAny_bind (Qf (wpAny_throw ?_));exact hE _ _ (((Yk ..).extBut.push _).push _) ⟨_,Qs _ rfl,rfl⟩
structure Apart (z TI TO i1 i2 t1 t2:Addr):Prop where
 a1:TI≠z
 a2:TO≠z
 a3:i1≠z
 a4:i2≠z
 a5:TI≠TO
 a6:TI≠i1
 a7:TI≠i2
 a8:TO≠i1
 a9:TO≠i2
 b1:i1≠i2
 b2:t1≠z/\t1≠TO/\t1≠i1/\t1≠i2
 b3:t2≠z/\t2≠TO/\t2≠i1/\t2≠i2
structure Qne (h:JR) (z TI TO i1 i2 t1 t2:Addr) (f:Value) (k:Nat):Prop where
 zp:QrJ h z TI TO f
 ti:IsPair h TI (.ref i1) (.ref i2)
 to:∃a b,IsPair h TO a b
 i1:h.IsTupleIter i1 t1 k
 i2:h.IsTupleIter i2 t2 k
theorem Qmb{z TI TO i1 i2 t1 t2:Addr}{k:Nat}{xs ys:Array Value}{x y:Value}{Q:Option Value->Shared->Prop}(D:Apart z TI TO i1 i2 t1 t2)(Z:Qne s.heap z TI TO i1 i2 t1 t2 .none k)
  (hl1:s.heap.IsTuple t1 xs)(hl2:s.heap.IsTuple t2 ys)(hx:xs[k]? = some x)(hy:ys[k]? = some y)
  (hQ:∀h',Qne h' z TI TO i1 i2 t1 t2 (rawInt s.heap.objs.size) (k+1)->IsPair h' s.heap.objs.size x y->(∀c o,c≠z->c≠TO->c≠i1->c≠i2->s.heap.get? c=some o->h'.get? c=some o)->Q (some (.ref s.heap.objs.size)) { s with heap:=h' }) :
  wpAny (model prog w) A (pyNext (.ref z)) Q E s:=by
 obtain⟨hz,hTI,⟨a,b,hTO⟩,h1,h2⟩:=Z;have hT:s.TypeIs (.ref z) "zip" := ⟨_,hz,rfl⟩;unfold pyNext;refine wpAny_bind (QaW (JU (name:=YO "__next__") hT QcI (J8 QcI hT QwQ ?_ (QuE _))));show wpAny _ _ (field (.ref z) 2 >>= _) _ _ _;refine wpAny_bind (J3 hz rfl (x:=.bool false) rfl ?_);show wpAny _ _ (field (.ref z) 3 >>= _) _ _ _;refine wpAny_bind (J3 hz rfl (x:=.ref TI) rfl (wpAny_bind (Yi hTI rfl ?_)));show wpAny _ _ (Zh (.ref z) >>= _) _ _ _;refine wpAny_bind ?_
 unfold Zh;refine wpAny_bind (J3 hz rfl (x:=.none) rfl (Qf ?_));simp only[if_true];refine wpAny_bind (wpAny_rule (wpAny_bind (J3 hz rfl (x:=.ref TO) rfl (wpAny_bind (Yo hz (by simp) λg1 z1 s1=>?_)))))
 replace z1:QrJ g1 z TI TO .ellipsis:=z1
 refine wpAny_bind ?_
 simp only[QrG,Qun,Qcc,QuC];refine wpAny_bind (wpAny_bind (Qfb ?_));show wpAny _ _ (Jw (.ref i1) >>= _) _ _ _;refine wpAny_bind (QfL (h1.extBut s1.extBut D.a3) (hl1.extBut s1.extBut D.b2.1) hx λg2 p2 s2=>Qf ?_);have o2:IsPair g2 TO a b:=s2.extBut _ _ D.a8 (s1.extBut _ _ D.a2 hTO);refine wpAny_bind (Yi o2 rfl (wpAny_bind (QdH o2 λg3 o3 s3=>wpAny_bind (Quv (Qf ?_)))))
 replace o3:IsPair g3 TO x b:=o3
 refine wpAny_bind (wpAny_bind (Qfb ?_));show wpAny _ _ (Jw (.ref i2) >>= _) _ _ _;refine wpAny_bind (QfL (((h2.extBut s1.extBut D.a4).extBut s2.extBut D.b1.symm).extBut s3.extBut D.a9.symm)
  (((hl2.extBut s1.extBut D.b3.1).extBut s2.extBut D.b3.2.2.1).extBut s3.extBut D.b3.2.1) hy λg4 p4 s4=>Qf ?_)
 have o4:IsPair g4 TO x b:=s4.extBut _ _ D.a9 o3;refine wpAny_bind (Yi o4 rfl (wpAny_bind (QdH o4 λg5 o5 s5=>wpAny_bind (Quv (Qf (Qf ?_))))))
 replace o5:IsPair g5 TO x y:=o5
 refine wpAny_bind (Yi o5 rfl (wpAny_bind (wpAny_newTuple ?_)));have sz:g5.objs.size=s.heap.objs.size:=by rw[s5.1,s4.1,s3.1,s2.1,s1.1]
 have kp:∀c o,c≠z->c≠TO->c≠i1->c≠i2->s.heap.get? c=some o->g5.get? c=some o:=λc o c1 c2 c3 c4 e=>
  s5.extBut _ _ c2 (s4.extBut _ _ c4 (s3.extBut _ _ c2 (s2.extBut _ _ c3 (s1.extBut _ _ c1 e))))
 have z5:QrJ g5 z TI TO .ellipsis:=s5.extBut _ _ D.a2.symm (s4.extBut _ _ D.a4.symm (s3.extBut _ _ D.a2.symm (s2.extBut _ _ D.a3.symm z1)));have q1:g5.IsTupleIter i1 t1 (k+1):=((p2.extBut s3.extBut D.a8.symm).extBut s4.extBut D.b1).extBut s5.extBut D.a8.symm;have q2:g5.IsTupleIter i2 t2 (k+1):=p4.extBut s5.extBut D.a9.symm;show wpAny _ _ (QaK (.ref z) (.ref g5.objs.size) >>= _) _ _ _;refine wpAny_bind ?_
 unfold QaK;have z6:QrJ (g5.push { cls:=.type "tuple",data:=.seq #[x,y] }) z TI TO .ellipsis:=Qd _ z5;refine wpAny_bind (Yo z6 (by simp) λg7 z7 s7=>?_)
 replace z7:QrJ g7 z TI TO (rawInt g5.objs.size):=z7
 refine Yo z7 (by simp) λg8 z8 s8=>?_
 replace z8:QrJ g8 z TI TO (rawInt g5.objs.size):=z8
 have up:∀c o,c≠z->g5.get? c=some o->g8.get? c=some o:=λc o c1 e=>s8.extBut _ _ c1 (s7.extBut _ _ c1 (Qd _ e))
 have ne:g5.objs.size≠z:=Qci (Qo z5);have t8:IsPair g8 g5.objs.size x y:=s8.extBut _ _ ne (s7.extBut _ _ ne (Qs _ rfl));rw[sz] at z8 t8;refine Qf ⟨_,rfl,Qf ?_⟩;show Q (some (.ref g5.objs.size)) _;rw[sz];exact hQ g8 ⟨z8,up _ _ D.a1 (kp _ _ D.a1 D.a5 D.a6 D.a7 hTI),⟨x,y,up _ _ D.a2 o5⟩,q1.at λo e=>up _ o D.a3 e,q2.at λo e=>up _ o D.a4 e⟩ t8 λc o c1 c2 c3 c4 e=>up c o c1 (kp c o c1 c2 c3 c4 e)
theorem QoN{z TI TO i1 i2 t1 t2:Addr}{k:Nat}{xs ys:Array Value}{Q:Option Value->Shared->Prop}(hh:A.handled=none)(D:Apart z TI TO i1 i2 t1 t2)(Z:Qne s.heap z TI TO i1 i2 t1 t2 .none k)
  (hl1:s.heap.IsTuple t1 xs)(hl2:s.heap.IsTuple t2 ys)(hend:xs[k]? = none∨ys[k]? = none)
  (hQ:∀h',(∀c o,c≠z->c≠TO->c≠i1->c≠i2->s.heap.get? c=some o->h'.get? c=some o)->Q none { s with heap:=h' }):wpAny (model prog w) A (pyNext (.ref z)) Q E s:=by
 obtain⟨hz,hTI,⟨a,b,hTO⟩,h1,h2⟩:=Z;have hT:s.TypeIs (.ref z) "zip" := ⟨_,hz,rfl⟩;have fin:∀(h':JR)(e:Addr),(∀c o,c≠z->c≠TO->c≠i1->c≠i2->s.heap.get? c=some o->h'.get? c=some o)->(∃o,h'.get? e=some o/\o.cls=.type "StopIteration") ->
   wpAny (model prog w) A (isInstance (.ref e) (.type "StopIteration") >>= λx=>if x=true then pure none else throw (.ref e)) Q E { s with heap:=h' }:=λh' e hk he=>by
  obtain⟨o,ho,hc⟩:=he;refine wpAny_bind (Qhe (T := "StopIteration") (b:=true) ⟨o,ho,hc⟩ isSubtype_stop ?_);exact Qf (hQ _ hk)
 unfold pyNext;refine wpAny_bind (QaW (JU (name:=YO "__next__") hT QcI (J8 QcI hT QwQ ?_ (QuE _))));show wpAny _ _ (field (.ref z) 2 >>= _) _ _ _;refine wpAny_bind (J3 hz rfl (x:=.bool false) rfl ?_);show wpAny _ _ (field (.ref z) 3 >>= _) _ _ _;refine wpAny_bind (J3 hz rfl (x:=.ref TI) rfl (wpAny_bind (Yi hTI rfl ?_)));show wpAny _ _ (Zh (.ref z) >>= _) _ _ _;refine wpAny_bind ?_
 unfold Zh;refine wpAny_bind (J3 hz rfl (x:=.none) rfl (Qf ?_));simp only[if_true];refine wpAny_bind (wpAny_rule (wpAny_bind (J3 hz rfl (x:=.ref TO) rfl (wpAny_bind (Yo hz (by simp) λg1 z1 s1=>?_)))))
 replace z1:QrJ g1 z TI TO .ellipsis:=z1
 refine wpAny_bind ?_
 simp only[QrG,Qun,Qcc,QuC];refine wpAny_bind (wpAny_bind (Qfb ?_));show wpAny _ _ (Jw (.ref i1) >>= _) _ _ _;cases hx:xs[k]? with
 |none=>
  refine wpAny_bind (Qma hh (h1.extBut s1.extBut D.a3) (hl1.extBut s1.extBut D.b2.1) hx λg2 e s2 he=>?_);obtain⟨oe,hoe,hce⟩:=he;have z2:QrJ g2 z TI TO .ellipsis:=s2 _ _ D.a3.symm z1;have hez:e≠z:=λq=>by subst q;rw[z2] at hoe;cases hoe;simp at hce
  refine Yo z2 (by simp) λg3 _ s3=>?_
  exact fin g3 e (λc o c1 _ c3 _ q=>s3.extBut _ _ c1 (s2 _ _ c3 (s1.extBut _ _ c1 q))) ⟨oe,s3.extBut _ _ hez hoe,hce⟩
 |some x=>
  have hy:ys[k]? = none:=by
   rcases hend with q | q
   ·rw[hx] at q;cases q
   ·exact q
  refine wpAny_bind (QfL (h1.extBut s1.extBut D.a3) (hl1.extBut s1.extBut D.b2.1) hx λg2 p2 s2=>Qf ?_);have o2:IsPair g2 TO a b:=s2.extBut _ _ D.a8 (s1.extBut _ _ D.a2 hTO);refine wpAny_bind (Yi o2 rfl (wpAny_bind (QdH o2 λg3 o3 s3=>wpAny_bind (Quv (Qf ?_)))));refine wpAny_bind (wpAny_bind (Qfb ?_));show wpAny _ _ (Jw (.ref i2) >>= _) _ _ _;refine wpAny_bind (Qma hh (((h2.extBut s1.extBut D.a4).extBut s2.extBut D.b1.symm).extBut s3.extBut D.a9.symm)
   (((hl2.extBut s1.extBut D.b3.1).extBut s2.extBut D.b3.2.2.1).extBut s3.extBut D.b3.2.1) hy λg4 e s4 he=>?_)
  obtain⟨oe,hoe,hce⟩:=he;have z4:QrJ g4 z TI TO .ellipsis:=s4 _ _ D.a4.symm (s3.extBut _ _ D.a2.symm (s2.extBut _ _ D.a3.symm z1));have hez:e≠z:=λq=>by subst q;rw[z4] at hoe;cases hoe;simp at hce
  refine Yo z4 (by simp) λg5 _ s5=>?_
  exact fin g5 e (λc o c1 c2 c3 c4 q=>s5.extBut _ _ c1 (s4 _ _ c4 (s3.extBut _ _ c2 (s2.extBut _ _ c3 (s1.extBut _ _ c1 q))))) ⟨oe,s5.extBut _ _ hez hoe,hce⟩
end
abbrev zh1 (h:JR) (t1:Addr):JR:=h.push { cls:=.type "tuple_iterator",data:=.fields #[.ref t1,.int 0 0] }
abbrev zh2 (h:JR) (t1 t2:Addr):JR:=(zh1 h t1).push { cls:=.type "tuple_iterator",data:=.fields #[.ref t2,.int 0 0] }
abbrev zh3 (h:JR) (t1 t2:Addr):JR:=(zh2 h t1 t2).push { cls:=.type "tuple",data:=.seq #[.ref h.objs.size,.ref (zh1 h t1).objs.size] }
abbrev zh4 (h:JR) (t1 t2:Addr):JR:=(zh3 h t1 t2).push { cls:=.type "tuple",data:=.seq #[.none,.none] }
abbrev zh5 (h:JR) (t1 t2:Addr):JR:=(zh4 h t1 t2).push { cls:=.type "zip",data:=.fields #[.none,.bool false,.bool false,.ref (zh2 h t1 t2).objs.size,.ref (zh3 h t1 t2).objs.size] }
theorem made(t1 t2:Addr)(xs ys:Array Value) :
  Meets (QbM.«zip.__new__» ⟨[.type "zip",.ref t1,.ref t2],[]⟩) (λ_ R s=>s.heap.IsTuple t1 xs/\s.heap.IsTuple t2 ys/\R (.ok (.ret (.ref (zh4 s.heap t1 t2).objs.size))) { s with heap:=zh5 s.heap t1 t2 }):=
 .of_wp λprog w A R s h=>by
  obtain⟨hp,g,d,tk,os⟩:=s;obtain⟨hl1,hl2,h⟩:=h;have hsub:=sub_zip;have k1:QxA (QwI ⟨hp,g,d,tk,os⟩) t1 xs:=hl1;have k2:QxA (QwI ⟨hp.push { cls:=.type "tuple_iterator",data:=.fields #[.ref t1,.int 0 0] },g,d,tk,os⟩) t2 ys:=hl2.at λo e=>Qd _ e
  wp_walk using Qfa k1,Qfa k2
  exact⟨_,rfl,h⟩
section
variable{prog:Qw}{w:Ja}{A:Q9}{E:Value->Shared->Prop}{s:Shared}
theorem Qpt{t1 t2:Addr}{xs ys:Array Value}{Q:Value->Shared->Prop}(hl1:s.heap.IsTuple t1 xs)(hl2:s.heap.IsTuple t2 ys)
  (h:∀h',Qne h' (s.heap.objs.size+4) (s.heap.objs.size+2) (s.heap.objs.size+3) s.heap.objs.size (s.heap.objs.size+1) t1 t2 .none 0->(∀c o,s.heap.get? c=some o->h'.get? c=some o)->Q (.ref (s.heap.objs.size+4)) { s with heap:=h' }) :
  wpAny (model prog w) A (call (.type "zip") [.ref t1,.ref t2]) Q E s:=by
 refine callType_new F.called_zip (by decide) (F.typeCall_zip_2 _ _) (F.newCall_zip_2 _ _) (λobj=>F.args_object_init_3 obj _ _) F.entry_zip_new (made t1 t2 xs ys) ⟨hl1,hl2,?_⟩;have z1:(zh1 s.heap t1).objs.size=s.heap.objs.size+1:=Z7 ..;have z2:(zh2 s.heap t1 t2).objs.size=s.heap.objs.size+2:=by rw[Z7,z1]
 have z3:(zh3 s.heap t1 t2).objs.size=s.heap.objs.size+3:=by rw[Z7,z2]
 have z4:(zh4 s.heap t1 t2).objs.size=s.heap.objs.size+4:=by rw[Z7,z3]
 have g5:(zh5 s.heap t1 t2).get? (zh4 s.heap t1 t2).objs.size=some _:=Qs _ rfl;have g4:(zh5 s.heap t1 t2).get? (zh3 s.heap t1 t2).objs.size=some _:=Qd _ (Qs _ rfl);have g3:(zh5 s.heap t1 t2).get? (zh2 s.heap t1 t2).objs.size=some _:=Qd _ (Qd _ (Qs _ rfl));have g2:(zh5 s.heap t1 t2).get? (zh1 s.heap t1).objs.size=some _:=Qd _ (Qd _ (Qd _ (Qs _ rfl)));have g1:(zh5 s.heap t1 t2).get? s.heap.objs.size=some _:=Qd _ (Qd _ (Qd _ (Qd _ (Qs _ rfl))));show _/\_;rw[z2,z3,z4] at g5;rw[z1,z2] at g3;rw[z3] at g4;rw[z1] at g2;rw[z4];exact⟨⟨_,g5,rfl⟩,h _ ⟨g5,g3,⟨_,_,g4⟩,⟨_,g1,rfl,rfl⟩,⟨_,g2,rfl,rfl⟩⟩ λc o x=>Qd _ (Qd _ (Qd _ (Qd _ (Qd _ x))))⟩
end
end Rz
namespace L2
section
variable{X:Cx}{pins:List (Addr×Obj)}{σ:St}{H:Hp}{s:Shared}{h':JR}
theorem Inv.turnedNew{t':Nat}{ch:List Addr}{a:Addr}{o:HO}(I:Inv X pins σ H s)(hch:∀b∈ch,FpOk X pins H b)(k:∀b u,b∉ch->s.heap.get? b=some u->h'.get? b=some u)(hp:s.heap.objs.size<=a)
  (new:ObjOk X.prog X.w (upd H a o) h' a o):Inv X pins σ (upd H a o) { s with heap:=h',toks:=t' }:=by
 have hn:H a=none:=I.hok.fresh hp;have nch:∀b u,H b=some u->b∉ch:=λb u e z=>by rw[(hch b z).1] at e;cases e
 refine I.step (g':=s.gens) (d':=s.drawn) (ch:=ch) (λb hb=>?_) (λb u _ _ hc e _=>k b u hc e) (λb u _ _ hc e _=>⟨u.slots,k b u hc e⟩) (λb u hc e n=>?_) (λb u hc e=>⟨u,k b u hc e⟩)
  (λb xs e=>by rw[QU (QP e hn)];exact e) (λb u v e=>by rw[QU (QP e hn)];exact e) (λb ps e=>⟨#[],by rw[QU (QP e hn),e];simp⟩) (λm hm=>?_) (λb u e=>?_) I.bare
 ·obtain⟨f0,f1,f2,f3,f4,f5⟩:=hch b hb;exact⟨f3,f1,f4,f5⟩
 ·rw[QU (Qx (QN (Qo e) hp))];exact n
 ·obtain⟨u,es,ep,ho,r⟩:=hm;exact⟨u,es,ep,k _ u (λz=>(hch _ z).2.1 rfl) ho,r⟩
 ·by_cases hb:b=a
  ·subst hb;rw[upd_same] at e;cases e;exact new
  ·rw[QU hb] at e;refine(I.hok b u e).stay (λc v hc q=>k c v ?_ q) (λc q=>by rw[QU (QP q hn)];exact q) λc xs q=>by rw[QU (QP q hn)];exact q
   rcases hc with z | z
   ·rw[z];exact nch b u e
   ·exact nch c _ z
theorem Inv.turnedAll{t':Nat}{ch:List Addr}(I:Inv X pins σ H s)(hch:∀b∈ch,FpOk X pins H b)(k:∀b u,b∉ch->s.heap.get? b=some u->h'.get? b=some u):Inv X pins σ H { s with heap:=h',toks:=t' }:=by
 have nch:∀b u,H b=some u->b∉ch:=λb u e z=>by rw[(hch b z).1] at e;cases e
 refine I.step (g':=s.gens) (d':=s.drawn) (ch:=ch) (λb hb=>?_) (λb u _ _ hc e _=>k b u hc e) (λb u _ _ hc e _=>⟨u.slots,k b u hc e⟩) (λb u hc e n=>n) (λb u hc e=>⟨u,k b u hc e⟩)
  (λb xs e=>e) (λb u v e=>e) (λb ps e=>⟨#[],by rw[e];simp⟩) (λm hm=>?_) (λb u e=>?_) I.bare
 ·obtain⟨f0,f1,f2,f3,f4,f5⟩:=hch b hb;exact⟨f3,f1,f4,f5⟩
 ·obtain⟨u,es,ep,ho,r⟩:=hm;exact⟨u,es,ep,k _ u (λz=>(hch _ z).2.1 rfl) ho,r⟩
 ·refine(I.hok b u e).stay (λc v hc q=>k c v ?_ q) (λc q=>q) λc xs q=>q
  rcases hc with z | z
  ·rw[z];exact nch b u e
  ·exact nch c _ z
end
def Itz(t1 t2:Addr):It:=
 ⟨λi H=>∃xs ys x y,H t1=some (.tup xs)/\H t2=some (.tup ys)/\xs[i]? = some x/\ys[i]? = some y,
  λi H v H'=>∃p x y,H p=none/\(∀xs,H t1=some (.tup xs)->xs[i]? = some x)/\(∀ys,H t2=some (.tup ys)->ys[i]? = some y)/\v=.ref p/\H'=upd H p (.tup [x,y]),
  λi H=>∃xs ys,H t1=some (.tup xs)/\H t2=some (.tup ys)/\(xs.length<=i∨ys.length<=i)⟩
theorem QnC{P:Qw}{w:Ja}{K:PySem.W.Frag}{elts:List QX}{x1}{tpos:Pos}{z TI TO i1 i2 t1 t2:Addr}(D:Rz.Apart z TI TO i1 i2 t1 t2) :
  Turn P w K (.Tuple elts x1 tpos) (Itz t1 t2) [z,TI,TO,i1,i2] z (λi h=>Rz.Qne h z TI TO i1 i2 t1 t2 .none i) where
 mem:=by simp
 obj:=λi h st b hb=>by
  obtain⟨a1,a2,⟨_,_,a3⟩,⟨o4,a4,_,d4⟩,⟨o5,a5,_,d5⟩⟩:=st;simp only[Qz,Jb,or_false] at hb;rcases hb with rfl | rfl | rfl | rfl | rfl
  ·exact⟨_,a1,λv q=>nomatch q⟩
  ·exact⟨_,a2,λv q=>nomatch q⟩
  ·exact⟨_,a3,λv q=>nomatch q⟩
  ·exact⟨_,a4,λv q=>by rw[d4] at q;cases q⟩
  ·exact⟨_,a5,λv q=>by rw[d5] at q;cases q⟩
 keep:=λi h h' st k=>by
  obtain⟨a1,a2,⟨a,b,a3⟩,a4,a5⟩:=st;exact⟨k z (by simp) _ a1,k TI (by simp) _ a2,⟨a,b,k TO (by simp) _ a3⟩,a4.at λo e=>k i1 (by simp) o e,a5.at λo e=>k i2 (by simp) o e⟩
 item:=by
  intro X hP hw hK hc i pins s σ H E I hf st hg;subst hP hw hK;obtain⟨xs,ys,x,y,h1,h2,hx,hy⟩:=hg;obtain⟨its1,r1,p1,_⟩:=I.tuple (SqT.of h1);obtain⟨its2,r2,p2,_⟩:=I.tuple (SqT.of h2);obtain⟨u1,hu1,ru1⟩:=r1.get hx;obtain⟨u2,hu2,ru2⟩:=r2.get hy;refine Rz.Qmb D st (show s.heap.IsTuple t1 its1.toArray from p1) (show s.heap.IsTuple t2 its2.toArray from p2) (by simpa using hu1) (by simpa using hu2) λh' st' tp kp=>?_
  have hlt:∀b∈[z,TI,TO,i1,i2],b≠s.heap.objs.size:=λb hb=>by
   obtain⟨a1,a2,⟨_,_,a3⟩,⟨o4,a4,_,d4⟩,⟨o5,a5,_,d5⟩⟩:=st;simp only[Qz,Jb,or_false] at hb;rcases hb with rfl | rfl | rfl | rfl | rfl
   ·exact Qx (Qo a1)
   ·exact Qx (Qo a2)
   ·exact Qx (Qo a3)
   ·exact Qx (Qo a4)
   ·exact Qx (Qo a5)
  have fr:H s.heap.objs.size=none:=I.hok.fresh (Qh _);refine⟨_,rfl,Qkn st'.zp λh2' z2 s2=>?_⟩;have I1:Inv X pins σ (upd H s.heap.objs.size (.tup [x,y])) { s with heap:=h2',toks:=s.toks }:=by
   refine I.turnedNew (ch:=[z,TI,TO,i1,i2]) hf (λb u hb e=>?_) (Qh _) ⟨by show 2<=sizeLine;decide,[u1,u2],.cons ru1 (.cons ru2 .nil),?_⟩
   ·simp only[Qz,Jb,or_false,not_or] at hb;exact s2.extBut _ _ hb.1 (kp b u hb.1 hb.2.2.1 hb.2.2.2.1 hb.2.2.2.2 e)
   ·exact⟨_,s2.extBut _ _ (hlt z (by simp)).symm tp,rfl,rfl,0,rfl⟩
  refine⟨.ref s.heap.objs.size,_,I1,rfl,⟨_,x,y,fr,λxs' e=>?_,λys' e=>?_,rfl,rfl⟩,?_,λb hb=>?_⟩
  ·rw[h1] at e;cases e;exact hx
  ·rw[h2] at e;cases e;exact hy
  ·obtain⟨a1,a2,⟨a,b,a3⟩,a4,a5⟩:=st';exact⟨z2,s2.extBut _ _ D.a1 a2,⟨a,b,s2.extBut _ _ D.a2 a3⟩,a4.extBut s2.extBut D.a3,a5.extBut s2.extBut D.a4⟩
  ·rw[QU (hlt b hb)];exact(hf b hb).1
 done:=by
  intro X hP hw hK hc i pins s σ H E I hf st hg;subst hP hw hK;obtain⟨xs,ys,h1,h2,he⟩:=hg;obtain⟨its1,r1,p1,_⟩:=I.tuple (SqT.of h1);obtain⟨its2,r2,p2,_⟩:=I.tuple (SqT.of h2);have l1:=r1.length;have l2:=r2.length;refine Rz.QoN (I.ok.hd hc) D st (show s.heap.IsTuple t1 its1.toArray from p1) (show s.heap.IsTuple t2 its2.toArray from p2) ?_ λh' kp=>⟨rfl,I.turnedAll (t':=s.toks) (ch:=[z,TI,TO,i1,i2]) hf λb u hb e=>?_⟩
  ·rcases he with q | q
   ·exact .inl (by simp;omega)
   ·exact .inr (by simp;omega)
  ·simp only[Qz,Jb,or_false,not_or] at hb;exact kp b u hb.1 hb.2.2.1 hb.2.2.2.1 hb.2.2.2.2 e
 self:=λ_ _ _ _ _ st h=>QcD st.zp h
section
variable{X:Cx}
theorem apart_new(n t1 t2:Nat)(h1:t1<n)(h2:t2<n):Rz.Apart (n+4) (n+2) (n+3) n (n+1) t1 t2 where
 a1:=by show ¬(n+2=n+4);omega
 a2:=by show ¬(n+3=n+4);omega
 a3:=by show ¬(n=n+4);omega
 a4:=by show ¬(n+1=n+4);omega
 a5:=by show ¬(n+2=n+3);omega
 a6:=by show ¬(n+2=n);omega
 a7:=by show ¬(n+2=n+1);omega
 a8:=by show ¬(n+3=n);omega
 a9:=by show ¬(n+3=n+1);omega
 b1:=by show ¬(n=n+1);omega
 b2:=⟨by show ¬(t1=n+4);omega,by show ¬(t1=n+3);omega,by show ¬(t1=n);omega,by show ¬(t1=n+1);omega⟩
 b3:=⟨by show ¬(t2=n+4);omega,by show ¬(t2=n+3);omega,by show ¬(t2=n);omega,by show ¬(t2=n+1);omega⟩
def QzF(ta:TA):TI:=λσ H R=>ta σ H λvs H1=>∃t1 t2 xs ys,vs=[.ref t1,.ref t2]/\H1 t1=some (.tup xs)/\H1 t2=some (.tup ys)/\R (Itz t1 t2) H1
theorem Qm3:bootBuiltins "zip" = some (.type "zip"):=by decide +kernel
theorem Qvh{a b:QX}{elts:List QX}{x1}{tpos:Pos}{ta:TA}{p pos:Pos}(hg:Gl X "zip")(hm:X.mg "zip" = none)(ha:PA X [a,b] ta)(hs:starEach [a,b] X.env=[(false,eval a X.env),(false,eval b X.env)]:=by rfl)(hs2:starEach [b] X.env=[(false,eval b X.env)]:=by rfl) :
  PI X (.Tuple elts x1 tpos) (.Call (.Name "zip" p) [a,b] [] pos) (QzF ta):=by
 intro pins s σ H R I h;refine Call_ (Qcu I hg hm Qm3 (JJ (thn (ha pos pins s σ H _ I h) λus s1 ⟨vs,H1,I1,r1,q1⟩=>?_) (by rw[hs,hs2]) (by rw[hs2];rfl)));obtain⟨t1,t2,xs,ys,e,h1,h2,q⟩:=q1;subst e;obtain⟨u,v,rfl,ru,rv⟩:=vals2 r1;cases(show u=QQ t1 from ru);cases(show v=QQ t2 from rv);obtain⟨its1,w1,p1,_⟩:=I1.tuple (SqT.of h1);obtain⟨its2,w2,p2,_⟩:=I1.tuple (SqT.of h2);have n1:t1<s1.heap.objs.size:=I1.hok.lt h1;have n2:t2<s1.heap.objs.size:=I1.hok.lt h2;refine Rz.Qpt (show s1.heap.IsTuple t1 its1.toArray from p1) (show s1.heap.IsTuple t2 its2.toArray from p2) λh' st kp=>?_
 refine QcD (s:={ s1 with heap:=h' }) st.zp ?_
 have D:=apart_new s1.heap.objs.size t1 t2 n1 n2;refine⟨s1.heap.objs.size+4,_,_,_,H1,rfl,I1.kept (t':=s1.toks) kp,QnC D,st,λb hb=>?_,q⟩;have hb':s1.heap.objs.size<=b:=by
  simp only[Qz,Jb,or_false] at hb;rcases hb with rfl | rfl | rfl | rfl | rfl<;>omega
 exact I1.fpOk hb' (I1.hok.fresh hb')
end
end L2
namespace Rk
open L2
def QyO:Option HO->Option (List V)
 |some (.tup xs)=>some xs
 |_=>none
def Qev(H:Hp):V->Option (List V)
 |.ref a=>QyO (H a)
 |_=>none
theorem tupOf_at(H:Hp)(a:Addr):Qev H (.ref a)=QyO (H a):=rfl
def isT(H:Hp)(x:V):Bool:=(Qev H x).isSome
def isI:V->Bool
 |.int _=>true
 |_=>false
def isB:V->Bool
 |.bl _=>true
 |_=>false
def Kn(p:Addr)(H:Hp):V->Prop
 |.non=>True
 |.bl _=>True
 |.int _=>True
 |.str _=>True
 |.ref a=>a≠p/\((∃xs,H a=some (.tup xs))∨(∃xs,H a=some (.lst xs))∨∃kvs,H a=some (.dK kvs))
 |_=>False
def KnD(p:Addr):Nat->Hp->V->Prop
 |0,H,x=>Kn p H x
 |n+1,H,x=>Kn p H x/\∀xs,Qev H x=some xs->∀y∈xs,KnD p n H y
def KX(p:Addr)(H H':Hp):Prop:=∀b o,b≠p->H b=some o->H' b=some o
theorem KX.of{p:Addr}{H H':Hp}(h:Same H H'):KX p H H':=λb o _ e=>h b o e
theorem KX.new{p q:Addr}{H:Hp}{o:HO}(h:H q=none):KX p H (L2.upd H q o):=KX.of (Jn h)
theorem Qus{p:Addr}{H H':Hp}(k:KX p H H'):∀{x:V},Kn p H x->Qev H' x=Qev H x
 |.non,h=>rfl
 |.bl _,h=>rfl
 |.int _,h=>rfl
 |.str _,h=>rfl
 |.ref a,⟨n,h⟩=>by
  rcases h with⟨xs,e⟩ | ⟨xs,e⟩ | ⟨xs,e⟩<;>rw[tupOf_at,tupOf_at,e,k a _ n e]
 |.byt _,h=>h.elim
 |.flt _,h=>h.elim
 |.ty _,h=>h.elim
theorem KnD.tup{p:Addr}{H:Hp}{n:Nat}{a:Addr}{xs:List V}(hp:a≠p)(e:H a=some (.tup xs))(h:∀y∈xs,KnD p n H y):KnD p (n+1) H (.ref a):=
 ⟨⟨hp,.inl ⟨xs,e⟩⟩,λys z y hy=>h y (by
  have z':some xs=some ys:=by rw[<- z,tupOf_at,e];rfl
  cases z';exact hy)⟩
theorem KnD.int{p:Addr}{H:Hp}(i:Int):∀(n:Nat),KnD p n H (.int i)
 |0=>trivial
 |n+1=>⟨trivial,λ_ e=>nomatch e⟩
theorem QkK{H:Hp}{a:Addr}{xs:List V}(e:H a=some (.tup xs)):Qev H (.ref a)=some xs:=by rw[tupOf_at,e];rfl
theorem Qo1{K:PySem.W.Frag}{p:Addr}{H:Hp}:∀{x:V},Kn p H x->∃t,TyOf K H x t/\PySem.W.kitOne K t (.type "int")=some (isI x||isB x)
 |.non,h=>⟨_,.non,rfl⟩
 |.bl _,h=>⟨_,.bl _,rfl⟩
 |.int _,h=>⟨_,.int _,rfl⟩
 |.str _,h=>⟨_,.str _,rfl⟩
 |.ref a,⟨_,h⟩=>by
  rcases h with⟨xs,e⟩ | ⟨xs,e⟩ | ⟨xs,e⟩
  ·exact⟨_,.tup e,rfl⟩
  ·exact⟨_,.lst e,rfl⟩
  ·exact⟨_,.dK e,rfl⟩
 |.byt _,h=>h.elim
 |.flt _,h=>h.elim
 |.ty _,h=>h.elim
theorem Qmw{K:PySem.W.Frag}{p:Addr}{H:Hp}:∀{x:V},Kn p H x->∃t,TyOf K H x t/\PySem.W.kitOne K t (.type "bool")=some (isB x)
 |.non,h=>⟨_,.non,rfl⟩
 |.bl _,h=>⟨_,.bl _,rfl⟩
 |.int _,h=>⟨_,.int _,rfl⟩
 |.str _,h=>⟨_,.str _,rfl⟩
 |.ref a,⟨_,h⟩=>by
  rcases h with⟨xs,e⟩ | ⟨xs,e⟩ | ⟨xs,e⟩
  ·exact⟨_,.tup e,rfl⟩
  ·exact⟨_,.lst e,rfl⟩
  ·exact⟨_,.dK e,rfl⟩
 |.byt _,h=>h.elim
 |.flt _,h=>h.elim
 |.ty _,h=>h.elim
def Qri(H:Hp)(x:V):List Int:=((Qev H x).getD []).map λy=>match y with
 |.int i=>i
 |_=>0
def IntsT(H:Hp)(x:V)(ns:List Int):Prop:=∃a,x=.ref a/\H a=some (.tup (ns.map V.int))
theorem IntsT.eq{H:Hp}{x:V}{ns:List Int}(h:IntsT H x ns):Qri H x=ns:=by
 obtain⟨a,rfl,e⟩:=h;unfold Qri;rw[QkK e];show(ns.map V.int).map _=ns;rw[Q1];exact Qnn _
theorem JG:bootBuiltins "isinstance" = some (.builtin "isinstance"):=by decide +kernel
theorem QgY:bootBuiltins "int" = some (.type "int"):=by decide +kernel
theorem Qc4:bootBuiltins "bool" = some (.type "bool"):=by decide +kernel
theorem Zs:bootBuiltins "tuple" = some (.type "tuple"):=by decide +kernel
theorem Qc3:bootBuiltins "list" = some (.type "list"):=by decide +kernel
theorem Qwt:bootBuiltins "str" = some (.type "str"):=by decide +kernel
theorem Qwu:bootBuiltins "all" = some (.builtin "all"):=by decide +kernel
theorem Qby:bootBuiltins "len" = some (.builtin "len"):=by decide +kernel
theorem Qm1:bootBuiltins "max" = some (.builtin "max"):=by decide +kernel
theorem bt_min:bootBuiltins "min" = some (.builtin "min"):=by decide +kernel
end Rk
namespace L2
theorem QfP{J:It}{body:V->Hp->(Hp->Prop)->Prop}{Qn:Hp->Prop}{H:Hp}(n:Nat)(Pv:Nat->Hp->Prop)(h0:Pv 0 H)
  (hs:∀i H2,i<n->Pv i H2->J.go i H2/\∀x H3,J.yld i H2 x H3->∀k:Hp->Prop,(∀H6,Pv (i+1) H6->k H6)->body x H3 k)(hd:∀H2,Pv n H2->J.stop n H2/\Qn H2):Qi9 J body Qn H:=by
 refine⟨λi m H=>m=n - i/\i<=n/\Pv i H,⟨n,by simp,Je _,h0⟩,?_⟩;rintro i m H2 ⟨rfl,hi,p⟩;by_cases hlt:i<n
 ·obtain⟨go,st⟩:=hs i H2 hlt p;exact .inr ⟨go,λx H3 y=>st x H3 y _ λH6 p6=>⟨n - (i+1),by omega,rfl,hlt,p6⟩⟩
 ·have e:i=n:=by omega
  subst e;exact .inl (hd H2 p)
theorem Qe6{J:It}{σ:St}{g:TG}{te:TE}{p:Addr}{H1:Hp}{Qn:Hp->Prop}(n:Nat)(hn:n<sizeLine)(F:Nat->Bool)(hp:H1 p=none)
  (hs:∀i H2,i<n->Same H1 H2->J.go i H2/\∀x H3,J.yld i H2 x H3->∀k:VK,(∀H6,Same H2 H6->k (.bl (F i)) H6)->g x σ H3 λσ4 H4=>Wk σ σ4/\te σ4 H4 k)
  (hst:∀H2,Same H1 H2->J.stop n H2)(hq:∀H2,Same H1 H2->H2 p=some (.lst (((QY n).map F).map V.bl))->Qn H2) :
  Qi9 J (bOf σ g Qhq (Quu p te)) Qn (upd H1 p (.lst [])):=by
 refine QfP n (λi H2=>Same H1 H2/\H2 p=some (.lst (((QY i).map F).map V.bl))) ⟨Jn hp,upd_same⟩ (λi H2 hi ⟨s2,e2⟩=>?_) λH2 ⟨s2,e2⟩=>⟨hst H2 s2,hq H2 s2 e2⟩
 obtain⟨go,st⟩:=hs i H2 hi s2;refine⟨go,λx H3 y k hk=>?_⟩;refine st x H3 y (λv H6=>∃ys,H6 p=some (.lst ys)/\ys.length<sizeLine/\k (upd H6 p (.lst (ys++[v])))) λH6 s6=>?_
 have e6:=s6 p _ e2;refine⟨_,e6,?_,hk _ ⟨λb o e=>?_,?_⟩⟩
 ·rw[Qg,Qg,Q8];omega
 ·have hb:b≠p:=QP e hp;rw[QU hb];exact s6 b o (s2 b o e)
 ·rw[upd_same,Qgb,JF,JF];rfl
end L2
namespace Rk
open L2
def Qfu(K:PySem.W.Frag):Sp:=λvs H Q _=>∃a ns k,vs=[.ref a,.int k]/\SqL K H a ((ns:List Int).map V.int)/\ns.length<2^20/\0<=k/\∀c,Q (.int c) H
def Qr2:Sp:=λvs H Q _=>∃c,vs=[.int c]/\∀p n,H p=none->Q (.ref p) (upd H p (.lst [.int n]))
def Cs(p:Addr)(H:Hp):List V->List (Int×Int)->Prop:=Zf λx ij=>∃d,d≠p/\x=.ref d/\H d=some (.tup [.int ij.1,.int ij.2])
theorem Cs.mem{p:Addr}{H:Hp}:∀{ps:List V}{L:List (Int×Int)},Cs p H ps L->∀x∈ps,∃ij∈L,∃d,d≠p/\x=.ref d/\H d=some (.tup [.int ij.1,.int ij.2])
 |_,_,.nil,x,h=>nomatch h
 |_,_,.cons r t,x,h=>by
  rcases Qz.mp h with e | e
  ·subst e;exact⟨_,Zl,r⟩
  ·obtain⟨ij,m,q⟩:=Cs.mem t x e;exact⟨ij,Jm _ m,q⟩
def QwE(a b:Int×Int):Prop:=a.1<b.1∨(a.1=b.1/\a.2<b.2)
structure Good (h w:Int) (L:List (Int×Int)):Prop where
 asc:L.Pairwise QwE
 ins:∀x∈L,0<=x.1/\x.1<h/\0<=x.2/\x.2<w
 len:L.length<=36
structure QyM (p:Addr) (H:Hp) (q:Addr) (h w:Int) (L:List (Int×Int)):Prop where
 ne:q≠p
 it:∃c ps,c≠p/\H q=some (.tup [.int h,.int w,.ref c])/\H c=some (.tup ps)/\Cs p H ps L
 h1:1<=h
 h6:h<=6
 w1:1<=w
 w6:w<=6
 good:Good h w L
theorem QiC(x:Int){m:Int}(h:0<m):0<=x % m/\x % m<m:=⟨QuD _ (by omega),QpL _ h⟩
def notStar:QX->Bool
 |.Starred _ _=>false
 |_=>true
theorem Qa2{e:QX}{es:List QX}{env:Env}(h:notStar e=true):starEach (e::es) env=(false,eval e env)::starEach es env:=by
 cases e<;>first | rfl | cases h
section
variable{X:Cx}
theorem pa_c{e:QX}{es:List QX}{te:TE}{t:TA}(ha:PE X e te)(hr:PA X es t)(hs:notStar e=true:=by rfl):PA X (e::es) (Z1 te t):=pa_cons ha hr (Qa2 hs)
inductive PEs (X:Cx):List QX->List TE->Prop
 |nil:PEs X [] []
 |cons {e es te ts}:PE X e te->notStar e=true->PEs X es ts->PEs X (e::es) (te::ts)
def QyQ:List TE->TA
 |[]=>QbO
 |t::ts=>Z1 t (QyQ ts)
theorem PEs.pa{es:List QX}{ts:List TE}(h:PEs X es ts):PA X es (QyQ ts):=by
 induction h with
 |nil=>exact pa_nil
 |cons a s _ ih=>exact pa_c a ih s
end
def Sm(H:Hp)(x:V):Prop:=∀ps,Qev H x=some ps->ps.length<sizeLine
def Part(p:Addr)(H:Hp)(x:V):Prop:=KnD p 2 H x/\Sm H x
def QwB(p:Addr)(H:Hp)(x:V):Prop:=KnD p 3 H x/\Sm H x/\∀xs,Qev H x=some xs->∀y∈xs,Sm H y
theorem Qy4{P:V->Prop}:∀y∈([]:List V),P y:=λ_ h=>nomatch h
theorem Qyq{P:V->Prop}{a:V}{l:List V}(h:P a)(k:∀y∈l,P y):∀y∈a::l,P y:=λy hy=>by
 rcases Qz.mp hy with e | e
 ·subst e;exact h
 ·exact k y e
theorem Qaq{n:Nat}(h:n<=1000):n<sizeLine:=Yd h (by decide)
def Fine(p:Addr):Nat->Hp->V->Prop
 |0,H,x=>Kn p H x/\Sm H x
 |n+1,H,x=>Kn p H x/\Sm H x/\∀xs,Qev H x=some xs->∀y∈xs,Fine p n H y
theorem Fine.sm{p:Addr}{H:Hp}{x:V}:∀{n:Nat},Fine p n H x->Sm H x
 |0,h=>h.2
 |_+1,h=>h.2.1
theorem Fine.knd{p:Addr}{H:Hp}:∀{n:Nat}{x:V},Fine p n H x->KnD p n H x
 |0,_,h=>h.1
 |_+1,_,h=>⟨h.1,λxs e y hy=>(h.2.2 xs e y hy).knd⟩
theorem Fine.thing{p:Addr}{H:Hp}{x:V}(h:∀n,Fine p n H x):QwB p H x:=⟨(h 3).knd,(h 0).2,λxs e y hy=>((h 1).2.2 xs e y hy).2⟩
section
variable{X:Cx}
theorem Qhz{e:List QX}{t t':TA}(h:PA X e t)(k:∀σ H Q,t' σ H Q->t σ H Q):PA X e t':=λpos pins s σ H Q I q=>h pos pins s σ H Q I (k σ H Q q)
end
def Qi8(t:TA):TE:=λσ H Q=>t σ H λxs H1=>xs.length<=1000/\∀a H2,Same H1 H2->H1 a=none->H2 a=some (.tup xs)->Q (.ref a) H2
def QkO(t:TA):TE:=λσ H Q=>t σ H λxs H1=>xs.length<=1000/\∀a H2,Same H1 H2->H1 a=none->H2 a=some (.lst xs)->Q (.ref a) H2
section
variable{X:Cx}
theorem Qa4{es:List QX}{t:TA}{x1}{pos:Pos}(h:PA X es t):PE X (.Tuple es x1 pos) (Qi8 t):=by
 intro pins s σ H Q I hq;refine wpAny_Tuple_spliced (thn (h pos pins s σ H _ I hq) λus s1 ⟨xs,H1,I1,r,z,q⟩=>⟨by rw[<- r.length];exact Zw (Qaq z),?_⟩);have hf:H1 s1.heap.objs.size=none:=I1.hok.fresh (Qh _);refine⟨.ref s1.heap.objs.size,upd H1 s1.heap.objs.size (.tup xs),I1.laid (t':=s1.toks) (λb u e=>Qd _ e) (Qh _) ?_,rfl,q _ _ (Jn hf) hf upd_same⟩;exact⟨Zw (Qaq z),us,r,⟨_,Qs _ rfl,rfl,rfl,_,rfl⟩⟩
theorem pe_lstW{es:List QX}{t:TA}{pos:Pos}(h:PA X es t):PE X (.List es pos) (QkO t):=by
 intro pins s σ H Q I hq;refine QwF (thn (h pos pins s σ H _ I hq) λus s1 ⟨xs,H1,I1,r,z,q⟩=>⟨by rw[<- r.length];exact Zw (Qaq z),?_⟩);have hf:H1 s1.heap.objs.size=none:=I1.hok.fresh (Qh _);refine⟨.ref s1.heap.objs.size,upd H1 s1.heap.objs.size (.lst xs),I1.laid (t':=s1.toks) (λb u e=>Qd _ e) (Qh _) ?_,rfl,q _ _ (Jn hf) hf upd_same⟩;exact⟨Zw (Qaq z),us,0,r,Qs _ rfl⟩
def QxY:R2:=λx y H Q=>∃l b xs zs,x=.ref l/\y=.ref b/\H l=some (.lst xs)/\H b=some (.lst zs)/\xs.length+zs.length<=1000/\∀a H2,Same H H2->H a=none->H2 a=some (.lst (xs++zs))->Q (.ref a) H2
theorem QdX:OpR X (binaryOp .Add) QxY:=λpins s σ H x y v u Q I rx ry ⟨l,b,xs,zs,e1,e2,h1,h2,hl,k⟩=>
 Qrf pins s σ H x y v u Q I rx ry ⟨l,b,xs,zs,e1,e2,h1,h2,Zw (Qaq hl),λa ha=>k a _ (Jn ha) ha upd_same⟩
end
def FineA(p:Addr)(H:Hp)(x:V):Prop:=∀n,Fine p n H x
theorem FineA.thing{p:Addr}{H:Hp}{x:V}(h:FineA p H x):QwB p H x:=Fine.thing h
end Rk
namespace Rx
open PySem.Calls L2 PySem.W Builtin Builtin.ObjectAttr Builtin.Getset_descriptor
def ExAt(a C:Addr)(h:JR):Prop:=∃o vs,h.get? a=some o/\o.cls=.ref C/\o.data=.fields vs
theorem ExAt.ty{M:Qkw}{h:JR}{a C:Addr}(x:ExAt a C h):Looks M h (typeOf (.ref a)) (.ref C):=by
 obtain⟨o,vs,e,c,_⟩:=x;exact c ▸ (Looks.ld e).andThen .now
structure ExC (K:PySem.W.Frag) (C:Addr):Prop where
 ga:findIn K (.ref C) "__getattribute__" = some (some (.builtin "BaseException.__getattribute__"))
 hk:findIn K (.ref C) "__getattr__" = some none
 bas:mroIn K C (.type "BaseException")=some true
 cls:(clsIn K C).isSome=true
 att:findIn K (.ref C) "__class__" = some (some (.builtin "object.__class__"))
 spc:specialIn K (.builtin "object.__class__") "__get__" = some (some (.builtin "getset_descriptor.__get__"))
 tks:takesIn K (.builtin "object.__class__")=some true
 mro:mroIn K C (.type "object")=some true
section
variable{prog:Qw}{w:Ja}{A:Q9}{E:Value->Shared->Prop}{s:Shared}{K:PySem.W.Frag}{a C:Addr}
theorem QtN{M:Qkw}{h:JR}(X:K.In h)(c:ExC K C):Looks M h (find (.ref a) (.ref C) "__class__") (.bind (.builtin "getset_descriptor.__get__") (.builtin "object.__class__")):=by
 have l1:=looks_findIn (M:=M) X c.att;have l2:=looks_specialIn (M:=M) X c.spc;have l3:=looks_takesIn (M:=M) X c.tks;have l4:Looks M h (dataDescriptor? (some (.builtin "object.__class__")) (some (.builtin "getset_descriptor.__get__"))) (some (.builtin "getset_descriptor.__get__",.builtin "object.__class__")):=l3.andThen .now;exact l1.andThen (l2.andThen (l4.andThen (Looks.tag .now)))
theorem Qv3{R:Result->Shared->Prop}{tp:Value}(X:K.In s.heap)(I:ExAt a C s.heap)(c:ExC K C)(h:R (.ok (.ret (.ref C))) s) :
  codeAny (model prog w) A (.call (.builtin "getset_descriptor.__get__") ⟨[.builtin "object.__class__",.ref a,tp],[]⟩) R s:=by
 obtain⟨h0,g0,d0,t0,o0⟩:=s;have la:=I.ty (M:=model prog w);have lb:=looks_mroIn (M:=model prog w) X c.mro;refine Qul KF.slot_gs.plain KF.entry_gs (KF.slot_gs.check _ _ _ _ _ _ _ _ KF.type_class (KF.args_gs _ _ _) ?_);unfold QbM.«getset_descriptor.__get__»;unfold descrGet;rw[dga_obj];refine wpAny_bind (Qf ?_);unfold descrGetter;unfold descrCheckInstance;unfold descrNameAndClass;unfold isInstance;simp only[KF.owner_class]
 repeat lk
 refine⟨Code.quiet_builtin _ (by decide +kernel),codeAny_builtin KF.entry_class ?_⟩;unfold QbM.«object.__class__»;unfold shownTypeOf
 repeat lk
 exact h
theorem Qpe{M:Qkw}{nameV:Value}{Q:Unit->Shared->Prop}(X:K.In s.heap)(I:ExAt a C s.heap)(c:ExC K C)(hq:Q () s):wpAny M A (checkBuiltinCall "BaseException.__getattribute__" ⟨[.ref a,nameV],[]⟩) Q E s:=by
 have hk:builtinKind "BaseException.__getattribute__" = some .slot:=by decide +kernel
 have hsplit:splitId "BaseException.__getattribute__" = some ("BaseException", "__getattribute__"):=by decide +kernel
 have ha:=F.args_bexc_ga (.ref a) nameV;have la:=I.ty (M:=M);have lb:=looks_mroIn (M:=M) X c.bas;have li:Looks M s.heap (isInstance (.ref a) (.type "BaseException")) true:=la.andThen lb;simp only[checkBuiltinCall,hk,hsplit];refine wpAny_bind (li.at ?_)
 repeat (first | exact hq | wp_step)
theorem Qpd{Q:Option Value->Shared->Prop}(X:K.In s.heap)(I:ExAt a C s.heap)(c:ExC K C)(h:Q (some (.ref C)) { s with toks:=s.toks+1 }):wpAny (model prog w) A (getAttr? (.ref a) "__class__") Q E s:=by
 obtain⟨h0,g0,d0,t0,o0⟩:=s;have la:=I.ty (M:=model prog w);have lb:=looks_findIn (M:=model prog w) X c.ga;have lc:=looks_findIn (M:=model prog w) X c.hk;have ld:=QtN (M:=model prog w) (a:=a) X c;have f3:=QpN.ga.bind (.ref a);have hx2:(onTheHeap (QQ C)&&YR "BaseException.__getattribute__" == YR "object.__getattribute__")=false:=by
  have e:(YR "BaseException.__getattribute__" == YR "object.__getattribute__")=false:=by decide +kernel
  rw[e];rfl
 unfold getAttr?;unfold getAttrBy?;unfold getAttrBy;refine wpAny_bind (wpAny_mkText (wpAny_bind (QaW (Zk (wpAny_bind (la.at (wpAny_bind (lb.at ?_))))))));simp only[hx2,Yc,if_false];unfold getAttrByItsOwn;refine wpAny_bind (m:=hookBefore (.ref C)) ?_
 show wpAny _ _ (typeLookup (.ref C) "__getattr__") _ _ _;refine lc.at ?_
 refine wpAny_bind (QaW (Zk ?_));show wpAny _ _ (boundAndCalled _ _ _) _ _ _;unfold boundAndCalled;rw[f3];refine wpAny_bind (Qf ?_);refine Qdv (Qul QpN.ga.plain F.entry_bexc_ga (Qpe X I c ?_));unfold QbM.«object.__getattribute__»;refine wpAny_bind (Qf (wpAny_bind (Qf (wpAny_bind (la.at (wpAny_bind (ld.at ?_)))))));show wpAny _ _ (bindTo (.builtin "getset_descriptor.__get__") (.builtin "object.__class__") (.ref a) (.ref C)) _ _ _;unfold bindTo;refine wpAny_bind (Zk (Qdv (Qv3 (s:=⟨h0,g0,d0,t0+1,o0⟩) X I c ?_)));exact Qf (handed_on rfl (Qf h))
theorem QtB(c:ExC K C):KitX K (.ref a) (.ref C) (ExAt a C) where
 ty:=λ_ _ _ I=>I.ty
 it:=λ_ _ X _=>by
  have q:=c.cls;unfold clsIn at q;split at q
  ·rename_i ho
   intro A' Q' E' s' k z;unfold isType loadHead;exact wpAny_bind (Qkm (k _ _ (X _ _ ho)) (Qf z))
  ·cases q
 ne:=λh tp dd its n sl X htp=>by
  have q:=c.cls;refine Yr.mpr λz=>?_
  cases Value.ref.inj (beq_iff_eq.mp z);unfold clsIn at q;split at q
  ·rename_i ho
   cases(X _ _ ho).symm.trans htp
  ·cases q
 ca:=λX I k=>Qpd X I c k
end
end Rx
namespace Rx
open PySem.Calls L2
abbrev mroV:List Value:=[.type "ValueError",.type "Exception",.type "BaseException",.type "object"]
def QwC(h:JR)(C:Addr):Prop:=∃bm N nm q bs hdct sn sub ab col dd k0 k1 k2 k3 k5 mN,
 h.get? C=some (excClassObj nm q C N bs bm hdct sn sub ab col dd k0 k1 k2 k3 k5 "ValueError.__new__")/\h.Ns N mN/\mN "__init__" = none/\OwnTail h mroV bm
theorem Qlf{K:PySem.W.Frag}{h:JR}{C:Addr}(X:K.In h)(q:PySem.W.excIn K C mroV "ValueError.__new__" = true):QwC h C:=by
 unfold PySem.W.excIn at q;split at q;next dd cd sl ho=>
  split at q;next C' bm k0 k1 k2 k3 n k5 hm hs=>
   obtain⟨q,e6⟩:=Q4.mp q;obtain⟨q,e5⟩:=Q4.mp q;obtain⟨q,e4⟩:=Q4.mp q;obtain⟨q,e3⟩:=Q4.mp q;obtain⟨e1,e2⟩:=Q4.mp q;cases beq_iff_eq.mp e1;cases beq_iff_eq.mp e2;rcases cd with⟨c1,c2,c3,c4,c5,c6,c7,c8,c9,ca,cb⟩
   rcases sl with⟨sl⟩
   have e7:cb=false:=by
    cases cb with
    |false=>rfl
    |true=>cases e3
   have hm:c3=.ref C::bm:=hm;have hs:sl=[k0,k1,k2,k3,some (.builtin "ValueError.__new__"),k5]:=hs;subst hm hs e7;have hn:h.Ns c4 (h.nsMap c4):=.of_isNs (PySem.W.isNs_of_in X e5);exact⟨_,_,_,_,_,_,_,_,_,_,_,_,_,_,_,_,_,X _ _ ho,hn,PySem.W.nsMap_none_of_in X e5 (beq_iff_eq.mp e6),PySem.W.tail_of_in X e4⟩
  next=>cases q
 next=>cases q
theorem obj_there{P:Qw}{w:Ja}{H:Hp}{h:JR}{a:Addr}{o:HO}(x:ObjOk P w H h a o):∃u,h.get? a=some u:=by
 cases o with
 |lst xs=>obtain⟨_,_,_,_,e⟩:=x;exact⟨_,e⟩
 |tup xs=>obtain⟨_,_,_,p⟩:=x;obtain⟨_,e,_⟩:=p;exact⟨_,e⟩
 |dK kvs=>obtain⟨_,_,_,_,o,_,_,e,_⟩:=x;exact⟨_,e⟩
 |dT kvs=>obtain⟨_,_,_,_,o,_,_,e,_⟩:=x;exact⟨_,e⟩
 |set S n=>obtain⟨o,_,_,_,e,_⟩:=x;exact⟨_,e⟩
 |ins C dx fs=>obtain⟨_,_,_,e,_⟩:=x;exact⟨_,e⟩
 |own y=>exact x
 |xd fs=>obtain⟨_,⟨_,_,_,e,_⟩,_⟩:=x;exact⟨_,e⟩
 |rng lo hi=>obtain⟨_,_,_,e⟩:=x;exact⟨_,e⟩
 |frz ob u=>exact⟨_,x.1⟩
 |tbl ps=>exact⟨_,x⟩
 |met f y=>exact⟨_,x⟩
 |ext φ=>exact x.2.1
def Fly(P:Qw)(w:Ja)(outer:List Env)(H:Hp)(s:Shared)(C:Addr)(H':Hp)(e:Value)(s':Shared):Prop:=
 ∃(a t:Addr)(B:JR),e=.ref a/\s'.os=s.os/\Qdu s'.gens/\QxB B outer a (.ref C) (.ref t) s'.heap/\s.heap.get? a=none/\H' a=none /\
  ∀h2:JR,B.StaysIn h2->s'.heap.UpToSlots h2->Un (frs outer) [] H H' s.heap h2/\HOk P w H' h2
def CXE(P:Qw)(w:Ja):CXT:=λouter H s E e s'=>∃C H',Fly P w outer H s C H' e s'/\E (.ref C) none H'
def QpR(E:XK)(C:Addr)(te:TE):TS:=λ_ σ H=>te σ H λ_ H1=>E (.ref C) none H1
section
variable{X:Cx}{E:XK}{C:Addr}{x:Str}{e0:QX}{te:TE}{np cpos pos:Pos}
theorem Qv1{pins:List (Addr×Obj)}{σ:L2.St}{H:Hp}{s:Shared}{h1:JR}{a:Addr}{vs:List Value}{M:Qkw}{EE:Value->Shared->Prop}(I:Inv X pins σ H s)(hstk:X.stack=X.env::X.outer)(hfr:X.env.frame=some X.env.locals)(hex:X.ex=[])
  (hx:Heap.MadeExcOf s.heap h1 a (.ref C) vs) :
  wpAny M X.A (leaving X.env (.ref a)) (λ_ s2=>Fly X.prog X.w X.outer X.H₀ X.s₀ C H (.ref a) s2) EE { s with heap:=h1 }:=by
 have fr:X.A.frames=some (X.env::X.outer):=by rw[<- hstk];exact I.ok.frames
 have ff:s.heap.FunFrames X.base (X.env::X.outer):=by rw[<- hstk];exact I.stack
 have hin:∀env∈X.env::X.outer,∀b,env.frame=some b->b∈frs (X.env::X.outer):=λenv he b hb=>Qdx.mpr ⟨env,he,hb⟩
 refine wpAny_leaves_madeW (base:=PySem.W.hideAll s.heap (frs (X.env::X.outer))) (h:=s.heap) (L:=X.env.locals) fr hfr (λb o q=>PySem.W.of_hideAll _ q) (PySem.W.funFrames_hide ff hin) hx λh' t x1 x2 x3 x4=>?_
 have nex:∀b:Addr,b∉X.ex:=λb=>by rw[hex];simp
 have free0:X.s₀.heap.get? a=none:=by
  cases q:X.s₀.heap.get? a with
  |none=>rfl
  |some o=>
   obtain⟨o',e⟩:=I.base.there a o q (nex a);rw[hx.new] at e;cases e
 have freeH:H a=none:=by
  cases q:H a with
  |none=>rfl
  |some o=>
   obtain⟨u,e⟩:=obj_there (I.hok a o q);rw[hx.new] at e;cases e
 have stf:∀b∈frs (X.env::X.outer),H b=none:=λb hb=>I.stkFree b (by rw[hstk];exact hb)
 refine⟨a,t,_,rfl,I.os,I.bare,x1,free0,freeH,λh2 st up=>?_⟩;have up2:s.heap.UpToSlots h2:=((QwO hx.keeps).trans x4).trans up;have kp:∀b o,s.heap.get? b=some o->b∉frs (X.env::X.outer)->h2.get? b=some o:=λb o e n=>st b o (PySem.W.hideAll_get _ e n)
 have own:∀b o,X.s₀.heap.get? b=some o->b≠X.env.locals:=λb o e z=>by
  have h1:=Qo e;have h2:=I.ok.above;rw[z] at h1;exact absurd (QN h1 h2) (Zv _)
 have nfr:∀b o,X.s₀.heap.get? b=some o->b∉frs X.outer->b∉frs (X.env::X.outer):=λb o e n hb=>by
  unfold frs at hb n;rw[QaH,hfr] at hb;rcases Qz.mp hb with z | z
  ·exact own b o e z
  ·exact n z
 have hdat:∀b∈frs X.outer,∀o,s.heap.get? b=some o->∀vs,o.data≠.fields vs:=λb hb o e=>by
  obtain⟨_,o',ho',hd⟩:=I.funs.mem hb;rw[e] at ho';cases ho';exact hd
 refine⟨⟨λb o e n hb _=>kp b o (I.base.keep b o e n hb (nex b)) (nfr b o e hb),λb o e n hb _=>?_,λb o e n _=>I.base.free b o e n (nex b),λb o e _=>?_,I.base.tups,I.base.frzs,I.base.tbls⟩,λb o e=>?_⟩
 ·obtain⟨sl,e1⟩:=I.base.slot b o e n hb (nex b);obtain⟨sl2,e2⟩:=up2 b _ e1 (hdat b hb _ e1);exact⟨sl2,e2⟩
 ·obtain⟨o',e1⟩:=I.base.there b o e (nex b);by_cases hb:b∈frs X.outer
  ·obtain⟨sl2,e2⟩:=up2 b _ e1 (hdat b hb _ e1);exact⟨_,e2⟩
  ·exact⟨o',kp b o' e1 (nfr b o e hb)⟩
 ·refine(I.hok b o e).stay (λc u hc q=>kp c u q λhm=>?_) (λ_ q=>q) λ_ _ q=>q
  have z:=stf c hm;rcases hc with r | r
  ·rw[r,e] at z;cases z
  ·rw[r] at z;cases z
theorem QfI(hxe:∀e s1,wpAny (model X.prog X.w) X.A (leaving X.env e) (λ_ s2=>CXE X.prog X.w X.outer X.H₀ X.s₀ E e s2) (λe' s2=>CXE X.prog X.w X.outer X.H₀ X.s₀ E e' s2) s1->X.xe e s1)
  (hstk:X.stack=X.env::X.outer)(hfr:X.env.frame=some X.env.locals)(hex:X.ex=[])(hc:X.calm=true)(hg:Gl X x)(hm:X.mg x=some (.ref C))(q:PySem.W.excIn X.K C mroV "ValueError.__new__" = true)
  (ha:PE X e0 te)(he:starEach [e0] X.env=[(false,eval e0 X.env)]:=by rfl)(hd:(x == ("__debug__" : Str))=false:=by decide) :
  PS X (.Raise (some (.Call (.Name x np) [e0] [] cpos)) none pos) (QpR E C te):=by
 intro pins s σ H D I h;obtain⟨bm,N,nm,qn,bs,hdct,sn,sub,ab,col,dd,k0,k1,k2,k3,k5,mN,hC,hN,hni,T⟩:=Qlf I.ok.mod.kin q;refine wpAny_Raise_call_subT (k5:=k5) (k3:=k3) (k2:=k2) (k1:=k1) (k0:=k0) (dd:=dd) (col:=col) (ab:=ab) (sub:=sub) (sn:=sn) (hdct:=hdct) (bs:=bs) (N:=N) (q:=qn) (nm:=nm) (C:=C) PySem.F.excBase_ValueError (T.hasType PySem.F.excBase_ValueError.hasBase) (I.ok.hd hc) (by rw[he];rfl) hni (QcW I hg hm ?_ hd);refine⟨rfl,?_⟩;rw[he];refine Qcj (QaV (thn (ha pins s σ H _ I h) λu s1 ⟨v,H1,I1,r1,q1⟩=>QdI ⟨rfl,by show 1<=sizeLine;decide,I1.bk _ _ hC,hN.keeps I1.bk,T.keeps I1.bk,λh' e hx=>?_⟩));exact hxe _ _ (thn (Qv1 I1 hstk hfr hex hx) λ_ s2 z=>⟨C,H1,z,q1⟩)
end
def exO(a C:Addr):HO:=.ext (ExAt a C)
structure ByC (K:PySem.W.Frag) (C R:Addr):Prop where
 ty:PySem.W.typeIn K (.ref R)=some (.type "type")
 cls:(PySem.W.clsIn K R).isSome=true
 base:PySem.W.mroIn K R (.type "BaseException")=some true
 sub:PySem.W.mroIn K C (.ref R)=some true
theorem Qjj{K:PySem.W.Frag}{M:Qkw}{h:JR}{R:Addr}(X:K.In h)(c:(PySem.W.clsIn K R).isSome=true):PySem.W.Looks M h (isType (.ref R)) true:=by
 unfold PySem.W.clsIn at c;split at c
 ·rename_i ho
  intro A' Q' E' s' k z;unfold isType loadHead;exact wpAny_bind (Qkm (k _ _ (X _ _ ho)) (Qf z))
 ·cases c
theorem Qjv{M:Qkw}{A:Q9}{E:Value->Shared->Prop}{K:PySem.W.Frag}{a C R:Addr}{s:Shared}{Q:Bool->Shared->Prop}(X:K.In s.heap)(I:ExAt a C s.heap)(c:ByC K C R)(h:Q true s) :
  wpAny M A (excMatches (.ref a) (.ref R)) Q E s:=by
 obtain⟨h0,g0,d0,t0,o0⟩:=s;have l1:=PySem.W.looks_typeIn (M:=M) X c.ty;have l2:=Qjj (M:=M) X c.cls;have l3:=PySem.W.looks_mroIn (M:=M) X c.base;have l4:=PySem.W.looks_mroIn (M:=M) X c.sub;have l5:=I.ty (M:=M);have l6:PySem.W.Looks M h0 (isSubtype (.type "type") (.type "tuple")) false:=PySem.W.Looks.of_pure tc_notTuple;unfold excMatches isExcClass isInstance
 repeat (first | lk | exact h)
abbrev mkd (X:Cx) (e:Value):Cx:={ X with A:=X.A.mark (some e),calm:=false,xe:=λ_ _=>False }
section
variable{X:Cx}{pins:List (Addr×Obj)}{σ:L2.St}{H:Hp}{s:Shared}
theorem Qmt(I:Inv X pins σ H s)(e:Value):Inv (mkd X e) pins σ H s:=
 ⟨⟨I.ok.mod,I.ok.kind,I.ok.glob,I.ok.blt,I.ok.above,I.ok.inj,I.ok.has,I.ok.cab,(λh=>nomatch h),I.ok.frames,I.ok.stk,I.ok.exf,I.ok.bs,I.ok.bsz,I.ok.noex,I.ok.exfs,I.ok.funs,I.ok.frf⟩,I.os,I.bare,I.base,I.loc,I.cell,I.free,I.freeC,I.pin,I.hok,I.len⟩
theorem QoZ{e:Value}(ok:X.Ok)(I:Inv (mkd X e) pins σ H s):Inv X pins σ H s:=⟨ok,I.os,I.bare,I.base,I.loc,I.cell,I.free,I.freeC,I.pin,I.hok,I.len⟩
theorem Qms{a C:Addr}(I:Inv X pins σ H s)(hf:H a=none)(h0:X.s₀.heap.get? a=none)(hp:∀p∈X.pn++pins,p.1≠a)(x:ExAt a C s.heap):Inv X pins σ (upd H a (exO a C)) s:=by
 obtain⟨o,vs,ho,hcl,hd⟩:=id x;have ne:∀b u,H b=some u->b≠a:=λb u e z=>by rw[z,hf] at e;cases e
 refine⟨I.ok,I.os,I.bare,⟨I.base.keep,I.base.slot,λb u e n hx=>?_,I.base.there,λb xs e=>?_,λb u xs e=>?_,λb ps e=>?_⟩,I.loc,I.cell,?_,λy c e=>?_,λp hp'=>?_,λb u e=>?_,I.len⟩
 ·rw[QU (λz=>by rw[z,h0] at e;cases e)];exact I.base.free b u e n hx
 ·have q:=I.base.tups b xs e;rw[QU (ne b _ q)];exact q
 ·have q:=I.base.frzs b u xs e;rw[QU (ne b _ q)];exact q
 ·obtain⟨m,q⟩:=I.base.tbls b ps e;exact⟨m,by rw[QU (ne b _ q)];exact q⟩
 ·obtain⟨m,⟨oL,es,ep,hoL,hdL,_⟩,_⟩:=I.loc;rw[QU (λz=>by rw[z,ho] at hoL;cases hoL;rw[hd] at hdL;cases hdL)];exact I.free
 ·obtain⟨v,oc,hoc,hdc⟩:=I.cell y c e;rw[QU (λz=>by rw[z,ho] at hoc;cases hoc;rw[hd] at hdc;cases hdc)];exact I.freeC y c e
 ·obtain⟨e,n,r⟩:=I.pin p hp';exact⟨e,by rw[QU (hp p hp')];exact n,r⟩
 ·by_cases hb:b=a
  ·subst hb;rw[upd_same] at e;cases e;exact⟨x,⟨o,ho⟩,λh1 h2 y k=>by
    obtain⟨o',vs',e',c',d'⟩:=y;exact⟨o',vs',k _ e',c',d'⟩⟩
  ·rw[QU hb] at e;exact(I.hok b u e).stay (λ_ _ _ q=>q) (λc q=>by rw[QU (ne c _ q)];exact q) λc xs q=>by rw[QU (ne c _ q)];exact q
theorem Qo0{i:Nat}{n:Str}{m:Str->Option Value}{v:Option Value}{h':JR}{tk:Nat}(I:Inv X pins σ H s)(hN:X.N.Nodup)(hi:X.N[i]? = some n)
  (hm:∀(j:Nat)(x:Str)(u:V),X.N[j]? = some x->σ[j]? = some (some u)->Vis X.env.scope x->∃y,RelV u y/\Look X.env s.heap m x y)
  (hn:h'.Ns X.env.locals (λx=>if x=n then v else m x))(hs:ZH X.env.locals s.heap h'):Inv X pins (σ.set i none) H { s with heap:=h',toks:=tk }:=by
 have neL:∀b o,X.s₀.heap.get? b=some o->b≠X.env.locals:=λb o e=>Qx (QN (Qo e) I.ok.above)
 have cne:=I.cne;refine⟨I.ok,I.os,I.bare,⟨λb o e z hb hx=>(hs.2 b (neL b o e)).trans (I.base.keep b o e z hb hx),λb o e z hb hx=>?_,I.base.free,λb o e hx=>?_,I.base.tups,I.base.frzs,I.base.tbls⟩,⟨_,hn,λj y u e1 e2 e3=>?_⟩,λy c e=>?_,I.free,I.freeC,λp hp=>?_,λb o e=>?_,?_⟩
 ·obtain⟨sl,e1⟩:=I.base.slot b o e z hb hx;exact⟨sl,(hs.2 b (neL b o e)).trans e1⟩
 ·obtain⟨o',e1⟩:=I.base.there b o e hx;exact⟨o',(hs.2 b (neL b o e)).trans e1⟩
 ·by_cases hj:j=i
  ·subst hj;rw[Qei] at e2;split at e2
   ·split at e2<;>cases e2
   ·exact absurd rfl ‹¬_›
  ·rw[Qav (Y2 hj)] at e2;obtain⟨u',r',q⟩:=hm j y u e1 e2 e3;refine⟨u',r',?_⟩;rcases q with⟨k,e⟩ | ⟨k,c,e,z⟩
   ·have:y≠n:=λe=>hj (QfM hN e1 (e ▸ hi))
    exact .inl ⟨k,by simp[this,e]⟩
   ·exact .inr ⟨k,c,e,z.sameBut hs (cne y c e)⟩
 ·obtain⟨w',z⟩:=I.cell y c e;exact⟨w',z.sameBut hs (cne y c e)⟩
 ·obtain⟨e,z,ne,nf,d⟩:=I.pin p hp;exact⟨(hs.2 p.1 ne).trans e,z,ne,nf,d⟩
 ·refine(I.hok b o e).stay (λc u hc q=>(hs.2 c ?_).trans q) (λ_ q=>q) λ_ _ q=>q
  rintro rfl;have z:=I.free;rcases hc with r | r
  ·rw[r,e] at z;cases z
  ·rw[r] at z;cases z
 ·rw[Zc];exact I.len
end
def XP(X:Cx)(pins:List (Addr×Obj))(Ex:L2.St->Addr->Hp->Prop)(e:Value)(s1:Shared):Prop:=
 ∃(σ:L2.St)(C:Addr)(H':Hp)(a t:Addr)(B:JR),e=.ref a/\QxB B X.stack a (.ref C) (.ref t) s1.heap/\H' a=none/\X.s₀.heap.get? a=none/\(∀p∈X.pn++pins,p.1≠a) /\
  (∀(h2:JR)(tk:Nat),B.StaysIn h2->s1.heap.UpToSlots h2->Inv X pins σ H' { s1 with heap:=h2,toks:=tk })/\Ex σ C H'
abbrev TX:=L2.St->Hp->VK->(Addr->Hp->Prop)->Prop
def PEX(X:Cx)(e:QX)(t:TX):Prop:=∀(pins:List (Addr×Obj))(s:Shared)(σ:L2.St)(H:Hp)(Q:VK)(Ex:Addr->Hp->Prop),Inv X pins σ H s->t σ H Q Ex ->
 wpAny (model X.prog X.w) X.A (eval e X.env) (EP X pins σ Q) (XP X pins λσ1 C H1=>σ1=σ/\Ex C H1) s
section
variable{X:Cx}{k:Nat}{f:Addr}{fd:Qq}{ps:List Str}{sp:Sp}{x:Str}{p pos:Pos}{e:QX}{es:List QX}{t:TA}
end
section
variable{X:Cx}{R:Addr}{i:Nat}{n r:Str}{call hx:QX}{tc:TX}{th:TE}{rp np hp hpos pos:Pos}
end
structure Qng (k:Nat) (A:Q9):Prop where
 dp:A.depth+3*k+5<recursionLimit
 un:A.units+16*k+200<cLine
theorem Room.m{k:Nat}{A:Q9}(r:Room k A)(e:Value):Qng k (A.mark (some e)):=⟨r.dp,r.un⟩
structure FnM (P:Qw) (w:Ja) (K:PySem.W.Frag) (mg:Str->Option Value) (base:JR) (k:Nat) (f:Addr) (fd:Qq) (ps:List Str) (sp:Sp):Prop where
 len:∀vs H Q E,sp vs H Q E->vs.length=ps.length
 run:∀(A:Q9)(outer:List Env)(s:Shared)(H:Hp)(args:Args)(us:List Value)(vs:List V)(Q:VK)(E:XK),Qng k A->Env0 P w K mg base A outer s H->Qeu s fd args (ps.zip us)->Vals vs us->sp vs H Q E ->
  codeAny (model P w) A (.call (.ref f) args) (CR CX0 outer P w H s Q E) s
def cxM(P:Qw)(w:Ja)(K:PySem.W.Frag)(mg:Str->Option Value)(base:JR)(N:List Str)(qual:Str)(scope:Y4)(f:Addr)(cd:Value)(A:Q9)(outer:List Env)(s:Shared)(H:Hp)(E:XK):Cx:=
 { cxOf CX0 P w K mg base N qual scope f cd A outer s H E with calm:=false,xe:=λ_ _=>False }
section
variable{P:Qw}{w:Ja}{K:PySem.W.Frag}{mg:Str->Option Value}{base:JR}
theorem QjJ{N ps:List Str}{qual:Str}{scope:Y4}{f:Addr}{cd:Value}{A:Q9}{outer:List Env}{s s1:Shared}{H:Hp}{E:XK}{us:List Value}{vs:List V}
  (S:Jc N ps scope)(e0:Env0 P w K mg base A outer s H)(hl:vs.length=ps.length)(r:Vals vs us)
  (x:InCallC s s.heap.objs.size (bindL (envOfC qual scope s.heap.objs.size f cd).kindOf (ps.zip us) λ_=>none) (cellsFrom (s.heap.objs.size+1) scope.names []) (bindC (envOfC qual scope s.heap.objs.size f cd).kindOf (ps.zip us) λ_=>none) s1) :
  L2.Inv (cxM P w K mg base N qual scope f cd A outer s H E) [] (start N vs) H s1:=by
 have e1:Env0 P w K mg base { A with handled:=none } outer s H:=⟨e0.frames,e0.mod,e0.bs,e0.bsz,e0.funs,e0.frf,e0.hok,e0.bare⟩;have I:=QgH (CX:=CX0) (E:=E) (A:={ A with handled:=none }) S rfl e1 hl r x;exact⟨⟨I.ok.mod,I.ok.kind,I.ok.glob,I.ok.blt,I.ok.above,I.ok.inj,I.ok.has,I.ok.cab,(λh=>nomatch h),I.ok.frames,I.ok.stk,I.ok.exf,I.ok.bs,I.ok.bsz,I.ok.noex,I.ok.exfs,I.ok.funs,I.ok.frf⟩,I.os,I.bare,I.base,I.loc,I.cell,I.free,I.freeC,I.pin,I.hok,I.len⟩
theorem okM{x qual:Str}{st:ZM}{f:Addr}{fd:Qq}{N ps:List Str}{k:Nat}{sp:Sp}(F:Fun K x qual st f fd)(S:Jc N ps (Qm st))(len:∀vs H Q E,sp vs H Q E->vs.length=ps.length)
  (hbody:∀(cdv:Value)(A:Q9)(outer:List Env)(s:Shared)(H:Hp)(vs:List V)(Q:VK)(E:XK),Qng k (A.deeper (envOfC qual (Qm st) s.heap.objs.size f cdv))->sp vs H Q E ->
   ∃t,PSs (cxM P w K mg base N qual (Qm st) f cdv A outer s H E) (Q7 st) t/\t { nx:=λ_ H'=>Q .non H',rt:=Q } (start N vs) H):FnM P w K mg base (k+1) f fd ps sp:=by
 obtain⟨oc,od,kV,doc,pm,an,cdv,ct,osl,rfl,lk,hcd⟩:=F.ex;refine⟨len,λA outer s H args us vs Q E hr e0 hb r hsp=>?_⟩;have hl:=len _ _ _ _ hsp;have KX:K.In s.heap:=e0.mod.kin.keeps λb o e=>(e0.bs b o e).1
 have lim:s.heap.NoLimit:=e0.mod.nolimit.keeps λb o e=>(e0.bs b o e).1
 have hkind:∀y∈ps.zip us,(Qm st).names.lookup y.1=some .local∨((Qm st).names.lookup y.1=some .cell/\((cellsFrom (s.heap.objs.size+1) (Qm st).names []).lookup y.1).isSome=true):=λ⟨n,v⟩ hy=>by
  rcases S.par n (Qcb hy).1 with q | q
  ·exact .inl q
  ·exact .inr ⟨q,PySem.W.cellsFrom_some _ _ _ (.inl q)⟩
 have hdp:A.depth<recursionLimit:=by have:=hr.dp;omega
 refine QrB hdp (KX _ _ lk) rfl S.co S.gen rfl (PySem.W.codeRec_of KX hcd) (hb _ _ _ _ ?_);refine Qkb S.kind hkind λenv he s1 x=>?_
 subst he;refine⟨lim.keeps x.toInCall.keep,codeAny_func ?_⟩;have hr2:Qng k (A.deeper (envOfC qual (Qm st) s.heap.objs.size f cdv)):=⟨by have:=hr.dp;show A.depth+1+3*k+5<_;omega,by have:=hr.un;show A.units+3+16*k+200<_;omega⟩;obtain⟨t,ht,hq⟩:=hbody cdv A outer s H vs Q E hr2 hsp;have I:=QjJ (E:=E) S e0 hl r x;refine wpAny_mono (ht [] s1 (start N vs) H _ I hq) (λfl s' hs=>?_) λe s' hs=>Jj hs
 have fin:∀{σ':L2.St}{H':Hp}{v:V}{u:Value},L2.Inv (cxM P w K mg base N qual (Qm st) f cdv A outer s H E) [] σ' H' s'->RelV v u->Q v H'->CE outer P w H s Q u s':=
  λ{σ' H' v u} J rv q=>⟨v,H',J.os,J.bare,J.base,J.hok,rv,q⟩
 cases fl with
 |ret u=>
  obtain⟨v,σ',H',J,rv,q⟩:=hs;exact fin J rv q
 |next=>
  obtain⟨σ',H',J,q⟩:=hs;exact fin (v:=V.non) (u:=Q6) J rfl q
 |brk=>
  obtain⟨_,_,_,q⟩:=hs;exact Jj q
 |cont=>
  obtain⟨_,_,_,q⟩:=hs;exact Jj q
end
section
variable{X:Cx}{k:Nat}{f:Addr}{fd:Qq}{ps:List Str}{sp:Sp}{x:Str}{p pos:Pos}{e:QX}{es:List QX}{t:TA}
theorem Qof(F:FnM X.prog X.w X.K X.mg X.base k f fd ps sp)(hr:Qng k X.A)(hg:Gl X x)(hm:X.mg x=some (.ref f))(hk:PySem.W.keepIn X.K (.ref f)=true)(hb:Binds X.K fd ps [])
  (ha:PA X (e::es) t)(hdb:(x == ("__debug__" : Str))=false:=by decide)(he:starEach (e::es) X.env=(false,eval e X.env)::starEach es X.env:=by rfl)(hpl:(backTo pos (starEach es X.env)).any (·.1)=false:=by rfl) :
  PE X (.Call (.Name x p) (e::es) [] pos) (λσ H Q=>t σ H λvs H1=>sp vs H1 Q E0):=by
 intro pins s σ H Q I h;refine Yp (QcW I hg hm ?_ hdb);refine PySem.W.callWith_K (h₀:=X.base) I.ok.mod.kin hk (thn (ha pos pins s σ H _ I h) λus s1 ⟨vs,H1,I1,r,q⟩=>⟨I1.kIn,?_⟩) he hpl;have hl:us.length=ps.length:=by rw[<- r.length];exact F.len _ _ _ _ q
 have hbb:Qeu s1 fd ⟨us,[]⟩ (ps.zip us):=by
  have z:=hb s1 us I1.kIn (by rw[ZV];exact hl);rw[ZV] at z;exact z
 refine Qdv (QaB (F.run X.A X.stack s1 H1 ⟨us,[]⟩ us vs Q _ hr I1.env0 hbb r q) λr s2 hq=>?_);cases r with
 |error e=>exact Jj hq
 |ok fl=>
  cases fl with
  |ret u=>exact I1.after hq
  |next=>exact Jj hq
  |brk=>exact Jj hq
  |cont=>exact Jj hq
end
section
variable{X:Cx}
theorem QgW:CallR X (.builtin "isinstance") (λxs H Q=>∃a C y c b,xs=[.ref a,y]/\H a=some (exO a C)/\ExC X.K C/\(∀u,RelV y u->u=c)/\PySem.W.kitOne X.K (.ref C) c=some b/\Q (.bl b) H):=by
 intro pins s σ H xs us Q I r h;obtain⟨a,C,y,c,b,rfl,ha,hc,hy,e,q⟩:=h;obtain⟨u,v,rfl,ru,rv⟩:=vals2 r;cases(show u=QQ a from ru);cases hy v rv;exact PySem.W.kia_one (QtB hc) I.kIn (I.hok a _ ha).1 e (λz=>nomatch z) λtk=>⟨.bl b,H,I.tok tk,rfl,q⟩
theorem QiN{bs:List Bool}{us:List Value}(r:Vals (bs.map V.bl) us):us=bs.map Zt:=by
 induction bs generalizing us with
 |nil=>cases r;rfl
 |cons b bs ih=>
  cases r with
  |cons r t=>
   cases(show _=Zt b from r);rw[ih t];rfl
def QcZ:Value->Bool
 |.bool b=>b
 |_=>false
theorem QjU(bs:List Bool):(bs.map Zt).countP QcZ=bs.countP id:=by
 rw[List.countP_map];exact List.countP_congr λb _=>Iff.rfl
def Qsk:V->List V->Hp->VK->Prop:=λx vs H Q=>∃(l:Addr)(bs:List Bool),x=.ref l/\vs=[.bl true]/\H l=some (.lst (bs.map V.bl))/\Q (.int (bs.countP id:Nat)) H
theorem QoS:MtR X "list.count" Qsk:=by
 intro pins s σ H x vs v us Q I rx rv h;obtain⟨l,bs,rfl,rfl,hH,q⟩:=h;cases rx;obtain⟨u,rfl,ru⟩:=rv.one;cases(show u=Zt true from ru);obtain⟨z,its,n,r,hl,e⟩:=I.lstM hH;have hi:=QiN r;subst hi;refine Qau F.slot_list_count ⟨_,e,rfl⟩ F.entry_list_count (F.args_list_count_2 _ _) (SeqAt.list_countAt l (bs.map Zt).toArray n none #[] (.bool true) QcZ) ⟨e,λy hy=>?_,?_⟩
 ·obtain⟨b,_,rfl⟩:=QH.mp (YG.mp hy);have:=Qbz (A:=X.A.in1) (s:=s) b true;rw[show(b == true)=b by cases b<;>rfl] at this;exact this
 ·have e2:((bs.map Zt).toArray.toList.countP QcZ:Nat)=bs.countP id:=QjU bs;rw[e2];exact⟨.int (bs.countP id:Nat),H,I.tok _,⟨_,rfl⟩,q⟩
def Qsi:V->List V->Hp->VK->Prop:=λx vs H Q=>∃(l:Addr)(bs:List Bool)(j:Nat),x=.ref l/\vs=[.bl true]/\H l=some (.lst (bs.map V.bl))/\bs[j]? = some true/\(∀m,m<j->bs[m]? = some false)/\Q (.int (j:Nat)) H
theorem QoR:MtR X "list.index" Qsi:=by
 intro pins s σ H x vs v us Q I rx rv h;obtain⟨l,bs,j,rfl,rfl,hH,hj,hm,q⟩:=h;cases rx;obtain⟨u,rfl,ru⟩:=rv.one;cases(show u=Zt true from ru);obtain⟨z,its,n,r,hl,e⟩:=I.lstM hH;have hi:=QiN r;subst hi;have hlt:=(Q2.mp hj).1;have hsz:(bs.map Zt).toArray.size=bs.length:=by simp
 rw[Qg] at z;have hbig:bs.length<2^60:=Yd z (by decide);refine Qau F.slot_list_index ⟨_,e,rfl⟩ F.entry_list_index (F.args_list_index_2 _ _) (SeqAt.list_indexAt l (bs.map Zt).toArray n none #[] (.bool true) QcZ j (by rw[hsz];exact hlt) (by omega) ?_ ?_) ⟨e,λy hy=>?_,?_⟩
 ·have:=(Q2.mp hj).2;simp[QcZ,this]
 ·intro m hm1 hm2;have:=(Q2.mp (hm m hm2)).2;simp[QcZ,this]
 ·obtain⟨b,_,rfl⟩:=QH.mp (YG.mp hy);have:=Qbz (A:=X.A.in1) (s:=s) b true;rw[show(b == true)=b by cases b<;>rfl] at this;exact this
 ·exact⟨.int (j:Nat),H,I.tok _,⟨_,rfl⟩,q⟩
end
end Rx
namespace Rd
open L2
mutual
inductive Dat (H:Hp):V->Qc->Prop
 |non:Dat H .non .none
 |bl (b:Bool):Dat H (.bl b) (.bool b)
 |int (i:Int):Dat H (.int i) (.int i)
 |str (x:Str):JO (.str x)=true->Dat H (.str x) (.str x)
 |tup {a:Addr} {xs:List V} {ds:List Qc}:H a=some (.tup xs)->Dats H xs ds->Dat H (.ref a) (.tuple ds)
 |lst {a:Addr} {xs:List V} {ds:List Qc}:H a=some (.lst xs)->Dats H xs ds->Dat H (.ref a) (.list ds)
inductive Dats (H:Hp):List V->List Qc->Prop
 |nil:Dats H [] []
 |cons {x:V} {xs:List V} {d:Qc} {ds:List Qc}:Dat H x d->Dats H xs ds->Dats H (x::xs) (d::ds)
end
mutual
theorem YL{P:Qw}{w:Ja}{H:Hp}{h:JR}(ok:HOk P w H h):∀(d:Qc)(x:V)(v:Value),Dat H x d->RelV x v->(∃as,Reads h v d as)/\d.canLay0=true
 |.none,_,v,.non,r=>by cases r;exact⟨⟨_,.none⟩,rfl⟩
 |.bool b,_,v,.bl _,r=>by cases r;exact⟨⟨_,.bool b⟩,rfl⟩
 |.int i,_,v,.int _,r=>by obtain⟨t,rfl⟩:=r;exact⟨⟨_,.int i t⟩,rfl⟩
 |.str z,_,v,.str _ c,r=>by obtain⟨t,rfl⟩:=r;exact⟨⟨_,.str z t⟩,c⟩
 |.tuple ds,_,v,.tup (a:=a) (xs:=xs) e q,r=>by
  cases r;obtain⟨_,its,rv,o,ho,hc,_,n,hd⟩:=ok a _ e;obtain⟨⟨as,ra⟩,cl⟩:=YU ok ds xs its q rv;exact⟨⟨as,.tuple ho hc hd ra⟩,cl⟩
 |.list ds,_,v,.lst (a:=a) (xs:=xs) e q,r=>by
  cases r;obtain⟨_,its,n,rv,ho⟩:=ok a _ e;obtain⟨⟨as,ra⟩,cl⟩:=YU ok ds xs its q rv;exact⟨⟨a::as,.list ho rfl rfl ra⟩,cl⟩
 |.dict _,_,_,q,_=>nomatch q
theorem YU{P:Qw}{w:Ja}{H:Hp}{h:JR}(ok:HOk P w H h):∀(ds:List Qc)(xs:List V)(vs:List Value),Dats H xs ds->Vals xs vs->(∃as,ReadsAll h vs ds as)/\Yj ds=true
 |[],_,vs,.nil,r=>by cases r;exact⟨⟨_,.nil⟩,rfl⟩
 |d::ds,_,vs,.cons (x:=x) (xs:=xs) q qs,r=>by
  cases r with
  |cons r rs=>
   obtain⟨⟨a1,r1⟩,c1⟩:=YL ok d x _ q r;obtain⟨⟨a2,r2⟩,c2⟩:=YU ok ds xs _ qs rs;exact⟨⟨_,.cons r1 r2⟩,by simp[Yj,c1,c2]⟩
end
mutual
theorem QiD{H H':Hp}(s:Same H H'):∀(d:Qc)(x:V),Dat H x d->Dat H' x d
 |.none,_,.non=>.non
 |.bool _,_,.bl _=>.bl _
 |.int _,_,.int _=>.int _
 |.str _,_,.str _ c=>.str _ c
 |.tuple ds,_,.tup (xs:=xs) e q=>.tup (s _ _ e) (Qcy s ds xs q)
 |.list ds,_,.lst (xs:=xs) e q=>.lst (s _ _ e) (Qcy s ds xs q)
 |.dict _,_,q=>nomatch q
theorem Qcy{H H':Hp}(s:Same H H'):∀(ds:List Qc)(xs:List V),Dats H xs ds->Dats H' xs ds
 |[],_,.nil=>.nil
 |d::ds,_,.cons (x:=x) (xs:=xs) q qs=>.cons (QiD s d x q) (Qcy s ds xs qs)
end
theorem Dat.same{H H':Hp}{x:V}{d:Qc}(q:Dat H x d)(s:Same H H'):Dat H' x d:=QiD s d x q
theorem Dats.same{H H':Hp}{xs:List V}{ds:List Qc}(q:Dats H xs ds)(s:Same H H'):Dats H' xs ds:=Qcy s ds xs q
theorem Dats.length{H:Hp}:∀{xs:List V}{ds:List Qc},Dats H xs ds->xs.length=ds.length
 |_,_,.nil=>rfl
 |_,_,.cons _ q=>by rw[QV,QV,q.length]
theorem Dats.get{H:Hp}:∀{xs:List V}{ds:List Qc},Dats H xs ds->∀(i:Nat)(x:V),xs[i]? = some x->∃d,ds[i]? = some d/\Dat H x d
 |_,_,.nil,i,x,e=>by simp at e
 |_,_,.cons q qs,0,x,e=>by simp at e;subst e;exact⟨_,rfl,q⟩
 |_,_,.cons q qs,i+1,x,e=>qs.get i x (by simpa using e)
section
variable{X:Cx}
def Qzx(X:Cx):R2:=λx y H Q=>∃dx dy,Dat H x dx/\Dat H y dy/\X.A.units+min dx.depth dy.depth<cLine/\Q (.bl (Jd dx dy)) H
theorem QlW:OpR X (compareOp .Eq) (Qzx X):=by
 intro pins s σ H x y v u Q I rx ry h;obtain⟨dx,dy,qx,qy,hu,q⟩:=h;obtain⟨⟨as,ra⟩,ca⟩:=YL I.hok dx x v qx rx;obtain⟨⟨bs,rb⟩,cb⟩:=YL I.hok dy y u qy ry;exact SeqAt.compareEq_reads ra rb ca cb hu ⟨.bl _,H,I,rfl,q⟩
open Classical in
noncomputable def eqH (h:JR) (d:Qc) (y:Value):Bool:=decide (∃e as,Reads h y e as/\e.canLay0=true/\Jd e d=true)
open Classical in
theorem Qys{h:JR}{d:Qc}{y:Value}(q:∃e as,Reads h y e as/\e.canLay0=true/\Jd e d=true):eqH h d y=true:=by
 unfold eqH;exact decide_eq_true q
open Classical in
theorem Qyt{h:JR}{d:Qc}{y:Value}(q:¬ ∃e as,Reads h y e as/\e.canLay0=true/\Jd e d=true):eqH h d y=false:=by
 unfold eqH;exact decide_eq_false q
theorem Qrn{h:JR}{d e:Qc}{y:Value}{as:List Addr}(r:Reads h y e as)(c:e.canLay0=true):eqH h d y=Jd e d:=by
 cases q:Jd e d with
 |true=>exact Qys ⟨e,as,r,c,q⟩
 |false=>
  refine Qyt λ⟨e',as',r',c',q'⟩=>?_
  rw[<- SeqAt.Reads.unique e e' y as as' c r r',q] at q';cases q'
theorem Qef{h:JR}{d:Qc}:∀{vs:List Value}{ds:List Qc}{as:List Addr},ReadsAll h vs ds as->Yj ds=true->vs.any (eqH h d)=ds.any λe=>Jd e d
 |_,_,_,.nil,_=>rfl
 |_,_,_,.cons r rs,c=>by
  simp only[Yj,JP] at c;rw[Yq,Yq,Qrn r c.1,Qef rs c.2]
theorem Qd2{A:Q9}{s:Shared}{d:Qc}{v:Value}{bs:List Addr}(rv:Reads s.heap v d bs)(cv:d.canLay0=true):∀{vs:List Value}{ds:List Qc}{as:List Addr},ReadsAll s.heap vs ds as->Yj ds=true->A.units+d.depth<cLine ->
  ∀u∈vs,Qnr A s u v (eqH s.heap d u)
 |_,_,_,.nil,_,_=>λu hu=>nomatch hu
 |_,_,_,.cons (d:=e) r rs,c,hu=>λu hm=>by
  simp only[Yj,JP] at c;rcases Qz.mp hm with z | z
  ·subst z;rw[Qrn r c.1];exact SeqAt.eqAt_reads e d A s _ v _ bs r rv c.1 cv (Yd (Qnx (Qfg _ _) _) hu)
  ·exact Qd2 rv cv rs c.2 hu u z
def QyW(X:Cx)(neg:Bool):R2:=λx y H Q=>∃c ps ds d,y=.ref c/\H c=some (.tup ps)/\Dats H ps ds/\Dat H x d/\X.A.in1.units+d.depth<cLine/\Q (.bl (if neg then !(ds.any λe=>Jd e d) else ds.any λe=>Jd e d)) H
theorem QvD:OpR X (compareOp .In) (QyW X false):=by
 intro pins s σ H x y v u Q I rx ry h;obtain⟨c,ps,ds,d,rfl,hc,qs,qx,hu,q⟩:=h;cases ry;obtain⟨⟨as,ra⟩,ca⟩:=YL I.hok d x v qx rx;obtain⟨_,its,rv,tp⟩:=I.hok c _ hc;have tp:=TupN.tup tp;obtain⟨⟨bs,rb⟩,cb⟩:=YU I.hok ds ps its qs rv;refine SeqAt.in_tupleAt (eqH s.heap d) tp (λw hw=>Qd2 ra ca rb cb hu w (YG.mp hw)) ⟨.bl _,H,I,rfl,?_⟩;rw[show its.toArray.any (eqH s.heap d)=its.any (eqH s.heap d) by simp,Qef rb cb];exact q
theorem QlS:OpR X (compareOp .NotIn) (QyW X true):=by
 intro pins s σ H x y v u Q I rx ry h;obtain⟨c,ps,ds,d,rfl,hc,qs,qx,hu,q⟩:=h;cases ry;obtain⟨⟨as,ra⟩,ca⟩:=YL I.hok d x v qx rx;obtain⟨_,its,rv,tp⟩:=I.hok c _ hc;have tp:=TupN.tup tp;obtain⟨⟨bs,rb⟩,cb⟩:=YU I.hok ds ps its qs rv;refine Qkp (eqH s.heap d) tp (λw hw=>Qd2 ra ca rb cb hu w (YG.mp hw)) ⟨.bl _,H,I,rfl,?_⟩;rw[show its.toArray.any (eqH s.heap d)=its.any (eqH s.heap d) by simp,Qef rb cb];exact q
end
theorem Qh2:∀{ts:List String}{us:List Value},Vals (ts.map V.ty) us->us=ts.map Y3
 |[],_,.nil=>rfl
 |t::ts,_,.cons r q=>by
  cases(show _=Y3 t from r);rw[Qh2 q];rfl
section
variable{X:Cx}
theorem QjY:CallR X (.builtin "isinstance") (λxs H Q=>∃(x:V)(t:Value)(tp:Addr)(ts:List String)(b:Bool)(d:Qc),xs=[x,.ref tp]/\H tp=some (.tup (ts.map V.ty))/\Rd.Dat H x d/\TyOf X.K H x t/\PySem.W.kitAny X.K t (ts.map Y3)=some b/\Q (.bl b) H):=by
 intro pins s σ H xs us Q I r h;obtain⟨x,t,tp,ts,b,d,rfl,htp,dat,ty,e,q⟩:=h;obtain⟨u,v,rfl,ru,rv⟩:=vals2 r;cases(show v=QQ tp from rv);obtain⟨_,its,rt,⟨oc,od,oda,osl⟩,ho,hc,_,n,hd⟩:=I.hok tp _ htp;cases Qh2 rt
 dsimp only at hc hd
 subst hc hd;have fin:∀tk,EP X pins σ Q (.bool b) { s with toks:=tk }:=λtk=>⟨.bl b,H,I.tok tk,rfl,q⟩
 cases dat with
 |non=>cases(show u=Q6 from ru);cases ty;exact PySem.W.kia_tup PySem.W.kitx_none I.kIn Ju ho e (λz=>nomatch z) fin
 |bl y=>cases(show u=Zt y from ru);cases ty;exact PySem.W.kia_tup PySem.W.kitx_bool I.kIn Ju ho e (λz=>nomatch z) fin
 |int i=>obtain⟨t,z⟩:=(show ∃t,u=QbT i t from ru);cases z;cases ty;exact PySem.W.kia_tup PySem.W.kitx_int I.kIn Ju ho e (λz=>nomatch z) fin
 |str y _=>obtain⟨t,z⟩:=(show ∃t,u=Qdq y t from ru);cases z;cases ty;exact PySem.W.kia_tup PySem.W.kitx_str I.kIn Ju ho e (λz=>nomatch z) fin
 |@tup a xs ds ea _=>
  cases(show u=QQ a from ru);obtain⟨_,_,_,p⟩:=(show ObjOk X.prog X.w H s.heap a (.tup xs) from I.hok a _ ea);obtain⟨o,h1,h2,_⟩:=p;have et:t=.type "tuple" := by
   cases ty<;>first | rfl | (rename_i e';rw[ea] at e';cases e') | skip
  subst et;exact PySem.W.kia_tup PySem.W.kitx_tuple I.kIn ⟨o,h1,h2⟩ ho e (λz=>nomatch z) fin
 |@lst a xs ds ea _=>
  cases(show u=QQ a from ru);obtain⟨_,_,n',_,h1⟩:=(show ObjOk X.prog X.w H s.heap a (.lst xs) from I.hok a _ ea);have et:t=.type "list" := by
   cases ty<;>first | rfl | (rename_i e';rw[ea] at e';cases e') | skip
  subst et;exact PySem.W.kia_tup PySem.W.kitx_list I.kIn ⟨_,h1,rfl⟩ ho e (λz=>nomatch z) fin
end
end Rd
namespace L2
def Ite(l:Addr):It:=
 ⟨λi H=>∃xs x,H l=some (.lst xs)/\xs[i]? = some x,
  λi H v H'=>∃p x,H p=none/\(∀xs,H l=some (.lst xs)->xs[i]? = some x)/\v=.ref p/\H'=upd H p (.tup [.int (i:Nat),x]),
  λi H=>∃xs,H l=some (.lst xs)/\xs.length<=i⟩
theorem QkH{P:Qw}{w:Ja}{K:PySem.W.Frag}{elts:List QX}{x1}{tpos:Pos}{e it l:Addr}(hne:e≠it) :
  Turn P w K (.Tuple elts x1 tpos) (Ite l) [e,it] e (λi h=>(∃old,IsEnum h e it (i:Nat) old)/\h.IsListIter it l i) where
 mem:=by simp
 obj:=λi h st b hb=>by
  obtain⟨⟨old,a1⟩,⟨o2,a2,_,d2⟩⟩:=st;simp only[Qz,Jb,or_false] at hb;rcases hb with rfl | rfl
  ·exact⟨_,a1,λv q=>nomatch q⟩
  ·exact⟨_,a2,λv q=>by rw[d2] at q;cases q⟩
 keep:=λi h h' st k=>by
  obtain⟨⟨old,a1⟩,⟨o2,a2,c2⟩⟩:=st;exact⟨⟨old,k e (by simp) _ a1⟩,o2,k it (by simp) _ a2,c2⟩
 item:=by
  intro X hP hw hK hc i pins s σ H E I hf st hg;subst hP hw hK;obtain⟨xs,x,h1,hx⟩:=hg;obtain⟨⟨old,a1⟩,a2⟩:=st;obtain⟨its,r1,p1,_⟩:=I.list (SqL.of h1);obtain⟨u,hu,ru⟩:=r1.get hx;refine wpAny_pyNext_enum_item a1 a2 p1.isList (x:=u) (by simpa using hu) hne λh' o' l' tp sz kp=>?_
  have fr:H s.heap.objs.size=none:=I.hok.fresh (Qh _);have n1:e≠s.heap.objs.size:=Qx (Qo a1);have n2:it≠s.heap.objs.size:=by
   obtain⟨o2,a2,_⟩:=a2;exact Qx (Qo a2)
  refine⟨_,rfl,wpAny_letOwnedTupleGo_enum o' λh2 e2 s2=>?_⟩;have I1:Inv X pins σ (upd H s.heap.objs.size (.tup [.int (i:Nat),x])) { s with heap:=h2,toks:=s.toks+1 }:=by
   refine I.turnedNew (ch:=[e,it]) hf (λb v hb q=>?_) (Qh _) ⟨by show 2<=sizeLine;decide,[.int (i:Nat) s.toks,u],.cons ⟨_,rfl⟩ (.cons ru .nil),?_⟩
   ·simp only[Qz,Jb,or_false,not_or] at hb;exact s2.extBut _ _ hb.1 (kp b v hb.1 hb.2 q)
   ·exact⟨_,s2.extBut _ _ n1.symm tp,rfl,rfl,0,rfl⟩
  refine⟨.ref s.heap.objs.size,_,I1,rfl,⟨_,x,fr,λxs' q=>?_,rfl,rfl⟩,⟨⟨u,e2⟩,?_⟩,λb hb=>?_⟩
  ·rw[h1] at q;cases q;exact hx
  ·exact l'.extBut s2.extBut hne.symm
  ·simp only[Qz,Jb,or_false] at hb;rcases hb with rfl | rfl
   ·rw[QU n1];exact(hf _ (by simp)).1
   ·rw[QU n2];exact(hf _ (by simp)).1
 done:=by
  intro X hP hw hK hc i pins s σ H E I hf st hg;subst hP hw hK;obtain⟨xs,h1,he⟩:=hg;obtain⟨⟨old,a1⟩,a2⟩:=st;obtain⟨its,r1,p1,_⟩:=I.list (SqL.of h1);have l1:=r1.length;refine wpAny_pyNext_enum_end (I.ok.hd hc) a1 a2 p1.isList (by simp;omega) λh' kp=>⟨rfl,I.turnedAll (t':=s.toks) (ch:=[e,it]) hf λb v hb q=>?_⟩
  simp only[Qz,Jb,or_false,not_or] at hb;exact kp b v hb.2 q
 self:=λ_ _ _ _ _ st h=>by
  obtain⟨⟨old,a1⟩,_⟩:=st;exact Qw9 a1 h
def Qyo(ta:TA):TI:=λσ H R=>ta σ H λvs H1=>∃l xs,vs=[.ref l]/\H1 l=some (.lst xs)/\R (Ite l) H1
theorem Qm4:bootBuiltins "enumerate" = some (.type "enumerate"):=by decide +kernel
section
variable{X:Cx}
theorem QsC{a:QX}{elts:List QX}{x1}{tpos:Pos}{ta:TA}{p pos:Pos}(hg:Gl X "enumerate")(hm:X.mg "enumerate" = none)(ha:PA X [a] ta)(hs:starEach [a] X.env=[(false,eval a X.env)]:=by rfl) :
  PI X (.Tuple elts x1 tpos) (.Call (.Name "enumerate" p) [a] [] pos) (Qyo ta):=by
 intro pins s σ H R I h;refine Call_ (Qcu I hg hm Qm4 (JJ (thn (ha pos pins s σ H _ I h) λus s1 ⟨vs,H1,I1,r1,q1⟩=>?_) hs rfl));obtain⟨l,xs,e,h1,q⟩:=q1;subst e;obtain⟨u,rfl,ru⟩:=vals1 r1;cases(show u=QQ l from ru);obtain⟨its,w1,p1,_⟩:=I1.list (SqL.of h1);refine call_enumerate_list p1.isList λh' e1 i1 sz kp=>?_
 refine Qw9 (s:={ s1 with heap:=h' }) e1 ?_
 refine⟨s1.heap.objs.size+1,_,_,_,H1,rfl,I1.kept (t':=s1.toks) kp,QkH (by show ¬(s1.heap.objs.size+1=s1.heap.objs.size);omega),⟨⟨_,e1⟩,i1⟩,λb hb=>?_,q⟩;have hb':s1.heap.objs.size<=b:=by
  simp only[Qz,Jb,or_false] at hb;rcases hb with rfl | rfl<;>omega
 exact I1.fpOk hb' (I1.hok.fresh hb')
end
section
variable{prog:Qw}{w:Ja}{A:Q9}{R:Result->Shared->Prop}{s:Shared}
theorem Qgn{elt tg iter:QX}{ifs:List QX}{g0:Qfi}{scope:Y4}{pos:Pos}{it acc:Value}{env:Env}
  (h0:codeAny (model prog w) A (.compLoop (.ListComp elt [g0,⟨tg,iter,ifs,0⟩] scope pos) 1 it acc env) R s)
  (h:wpAny (model prog w) A (pyIter it) (λit' s'=>codeAny (model prog w) A (.compLoop (.ListComp elt [g0,⟨tg,iter,ifs,0⟩] scope pos) 1 it' acc env) R s') (notedBy (model prog w) A env λx s'=>R (.error x) s') s) :
  codeAny (model prog w) A (.compStart (.ListComp elt [g0,⟨tg,iter,ifs,0⟩] scope pos) 1 it acc env) R s:=by
 refine codeAny_of_tree ?_
 show wpAny _ _ ((compStart (.ListComp elt [g0,⟨tg,iter,ifs,0⟩] scope pos) 1 it acc env).onRaise (λx=>do noteFrame x env;standAt theWindowsPlace)) _ _ s;refine wpAny_notedAt ?_
 unfold compStart;show wpAny _ _ (ask >>= _) _ _ s;refine wpAny_bind (wpAny_askSetting (wpAny_ite ?_));split
 ·first
   |exact wpAny_bind (Qf (Qf ⟨rfl,h0⟩))
   |exact Qf ⟨rfl,h0⟩
 ·first
   |exact wpAny_bind (wpAny_rule (wpAny_bind (wpAny_standAt (wpAny_bind (wpAny_mono h (λit' s' h'=>Qf ⟨rfl,h'⟩) λ_ _ x=>x)))))
   |exact wpAny_bind (wpAny_rule (wpAny_bind (wpAny_standAt (wpAny_bind (wpAny_mono h (λit' s' h'=>Qf (Qf ⟨rfl,h'⟩)) λ_ _ x=>x)))))
end
theorem QkG{Y:Cx}{elt tg iter:QX}{ifs:List QX}{g0:Qfi}{scope:Y4}{cpos:Pos}{it D:Addr}(Q:PySem.Fin->Shared->Prop)(E:Value->Shared->Prop)(s:Shared)
  (h:wpAny (model Y.prog Y.w) Y.A (pyNext (.ref it)) (λr s1=>match r with
   |none=>Q (.done .next) s1
   |some v=>wpAny (model Y.prog Y.w) Y.A (letOwnedTupleGo tg (.ref it) v) (λ_ s2=>Qpz Y tg ifs (Qnd Y elt D) v (λs3=>Q (.again (.compLoop (.ListComp elt [g0,⟨tg,iter,ifs,0⟩] scope cpos) 1 (.ref it) (.ref D) Y.env)) s3) s2) E s1) E s) :
  wpAny (model Y.prog Y.w) Y.A (compTurn (.ListComp elt [g0,⟨tg,iter,ifs,0⟩] scope cpos) 1 (.ref it) (.ref D) Y.env) Q E s:=by
 have e:compTurn (.ListComp elt [g0,⟨tg,iter,ifs,0⟩] scope cpos) 1 (.ref it) (.ref D) Y.env=(do
   standAt iter.pos
   match <- pyNext (.ref it) with
   |none=>pure (.done .next)
   |some v=>
    letOwnedTupleGo tg (.ref it) v
    assign tg Y.env v
    let mut ok:=true
    for c in ifs do
     if ok then ok <- isTrue c Y.env (eval c Y.env)
    if ok then
     (do let _ <- call (.builtin "list.append") [.ref D,<- eval elt Y.env])
    again (.compLoop (.ListComp elt [g0,⟨tg,iter,ifs,0⟩] scope cpos) 1 (.ref it) (.ref D) Y.env)):=by rfl
 rw[e];refine wpAny_bind (wpAny_standAt (wpAny_bind (thn h λr s1 h1=>?_)));cases r with
 |none=>exact Qf h1
 |some v=>
  refine wpAny_bind (thn h1 λ_ s2 h2=>?_);refine wpAny_bind (wpAny_mono h2 (λ_ s4 h4=>wpAny_bind (wpAny_mono h4 (λok s5 h5=>?_) λ_ _ f=>f.elim)) λ_ _ f=>f.elim);cases ok with
  |false=>exact Qf h5
  |true=>exact wpAny_bind (wpAny_bind (wpAny_mono h5 (λx s6 h6=>wpAny_bind (wpAny_mono h6 (λ_ s7 h7=>Qf (Qf h7)) λ_ _ f=>f.elim)) λ_ _ f=>f.elim))
def Qnc(Y:Cx)(e:QX)(iter:QX)(D:Addr):Act:=λQ s=>wpAny (model Y.prog Y.w) Y.A (eval iter Y.env) (λx s1=>wpAny (model Y.prog Y.w) Y.A (pyIter x)
 (λitv s2=>codeAny (model Y.prog Y.w) Y.A (.compStart e 1 itv (.ref D) Y.env) (λr s3=>match r with | .ok _=>Q s3 | .error _=>False) s2) (λ_ _=>False) s1) (λ_ _=>False) s
def Qww(wi:TI)(g:TG)(tc:TT)(p:Addr)(te:TE):St->Hp->(Hp->Prop)->Prop:=λσ H k=>wi σ H λJ H1=>Qi9 J (bOf σ g tc (Quu p te)) k H1
theorem Qm5{Y:Cx}{σ:St}{elt tg iter:QX}{ifs:List QX}{g0:Qfi}{scope:Y4}{cpos:Pos}{D:Addr}{wi:TI}{g:TG}{tc:TT}{te:TE}(hx:Y.xe=λ_ _=>False)(hc:Y.calm=true)
  (hi:PI Y tg iter wi)(hg:PG Y tg g)(ht:PTs Y ifs tc)(he:PE Y elt te):BodyOk Y σ (Qnc Y (.ListComp elt [g0,⟨tg,iter,ifs,0⟩] scope cpos) iter D) (Qww wi g tc D te σ):=by
 intro pins s H k Q I h hQ;have hx':∀(v:Value)(s':Shared),Y.xe v s'->False:=λv s' z=>by rw[hx] at z;exact z
 refine wpAny_mono (hi pins s σ H _ I h) (λv s1 h1=>wpAny_mono h1 (λitv s2 h2=>?_) hx') hx';obtain⟨it,fp,tn,J,H2,e,I2,T,st2,f2,hW⟩:=h2;subst e;have loop:codeAny (model Y.prog Y.w) Y.A (.compLoop (.ListComp elt [g0,⟨tg,iter,ifs,0⟩] scope cpos) 1 (.ref it) (.ref D) Y.env) (λr s3=>match r with | .ok _=>Q s3 | .error _=>False) s2:=
  Qeb (Y:=Y) (gens:=[g0,⟨tg,iter,ifs,0⟩]) (d:=1) hc T st2 f2 (λQ E s h=>QkG Q E s h) (λx u r=>QhP hx hg ht (λσ4=>QiO hx he) x u r) I2 hW λs' H' I' q=>hQ s' H' I' q
 exact Qgn loop (T.self _ 0 _ _ _ st2 loop)
theorem Qi6{Y:Cx}{elt tg iter tg2 iter2:QX}{ifs ifs2:List QX}{scope:Y4}{cpos:Pos}{it D:Addr}(hs:∀x,foldedSetIterable iter2 Y.env x=pure x)(Q:PySem.Fin->Shared->Prop)(E:Value->Shared->Prop)(s:Shared)
  (h:wpAny (model Y.prog Y.w) Y.A (pyNext (.ref it)) (λr s1=>match r with
   |none=>Q (.done .next) s1
   |some v=>wpAny (model Y.prog Y.w) Y.A (letOwnedTupleGo tg (.ref it) v) (λ_ s2=>Qpz Y tg ifs (Qnc Y (.ListComp elt [⟨tg,iter,ifs,0⟩,⟨tg2,iter2,ifs2,0⟩] scope cpos) iter2 D) v (λs3=>Q (.again (.compLoop (.ListComp elt [⟨tg,iter,ifs,0⟩,⟨tg2,iter2,ifs2,0⟩] scope cpos) 0 (.ref it) (.ref D) Y.env)) s3) s2) E s1) E s) :
  wpAny (model Y.prog Y.w) Y.A (compTurn (.ListComp elt [⟨tg,iter,ifs,0⟩,⟨tg2,iter2,ifs2,0⟩] scope cpos) 0 (.ref it) (.ref D) Y.env) Q E s:=by
 have e:compTurn (.ListComp elt [⟨tg,iter,ifs,0⟩,⟨tg2,iter2,ifs2,0⟩] scope cpos) 0 (.ref it) (.ref D) Y.env=(do
   standAt iter.pos
   match <- pyNext (.ref it) with
   |none=>pure (.done .next)
   |some v=>
    letOwnedTupleGo tg (.ref it) v
    assign tg Y.env v
    let mut ok:=true
    for c in ifs do
     if ok then ok <- isTrue c Y.env (eval c Y.env)
    if ok then
     let x <- eval iter2 Y.env
     standAt iter2.pos
     let x <- foldedSetIterable iter2 Y.env x
     let _ <- runOwn (.compStart (.ListComp elt [⟨tg,iter,ifs,0⟩,⟨tg2,iter2,ifs2,0⟩] scope cpos) 1 (<- holding [x] (pyIter x)) (.ref D) Y.env) Y.env
    again (.compLoop (.ListComp elt [⟨tg,iter,ifs,0⟩,⟨tg2,iter2,ifs2,0⟩] scope cpos) 0 (.ref it) (.ref D) Y.env)):=by rfl
 rw[e];refine wpAny_bind (wpAny_standAt (wpAny_bind (thn h λr s1 h1=>?_)));cases r with
 |none=>exact Qf h1
 |some v=>
  refine wpAny_bind (thn h1 λ_ s2 h2=>?_);refine wpAny_bind (wpAny_mono h2 (λ_ s4 h4=>wpAny_bind (wpAny_mono h4 (λok s5 h5=>?_) λ_ _ f=>f.elim)) λ_ _ f=>f.elim);cases ok with
  |false=>exact Qf h5
  |true=>
   refine wpAny_bind (wpAny_mono h5 (λx s6 h6=>wpAny_bind (wpAny_standAt ?_)) λ_ _ f=>f.elim);rw[hs x];refine wpAny_bind (Qf (wpAny_bind (Zk (wpAny_mono h6 (λitv s7 h7=>?_) λ_ _ f=>f.elim))));refine wpAny_bind (wpAny_runOwn (h:=none) (QaB h7 λr s8 h8=>?_));cases r with
   |error z=>exact h8.elim
   |ok fl=>exact Qf h8
def QpT(cap:List (Option Nat))(wi:TI)(g:TG)(tc:TT)(wi2:TI)(g2:TG)(tc2:TT)(te:TE):TE:=λσ H Q=>wi σ H λJ H1=>∀p,H1 p=none->Qi9 J (bOf (Qc2 cap σ) g tc (Qww wi2 g2 tc2 p te)) (Q (.ref p)) (upd H1 p (.lst []))
end L2
namespace Rk
open L2 Rd
def pairD(ij:Int×Int):Qc:=.tuple [.int ij.1,.int ij.2]
theorem YA(b:Int×Int):J6 (pairD b)=1:=by
 unfold pairD;simp[J6,Qez]
end Rk
namespace Rr
section
variable{prog:Qw}{w:Ja}{A:Q9}{E:Value->Shared->Prop}{s:Shared}
end
end Rr
namespace L2
def QuK(ta:TA):TE:=λσ H Q=>ta σ H λvs H1=>∃j,vs=[.int j]/\∀r H2,Same H1 H2->H1 r=none->H2 r=some (.rng 0 j)->Q (.ref r) H2
section
variable{X:Cx}
theorem Qob{a:QX}{ta:TA}{p pos:Pos}(hg:Gl X "range")(hm:X.mg "range" = none)(ha:PA X [a] ta)(hs:starEach [a] X.env=[(false,eval a X.env)]:=by rfl):PE X (.Call (.Name "range" p) [a] [] pos) (QuK ta):=by
 intro pins s σ H Q I h;refine Yp (Qcu I hg hm boot_range ?_);refine JJ (thn (ha pos pins s σ H _ I h) λus s1 ⟨vs,H1,I1,r1,q1⟩=>?_) hs rfl;obtain⟨j,e,q⟩:=q1;subst e;obtain⟨u,rfl,ru⟩:=vals1 r1;obtain⟨t,rfl⟩:=ru;refine call_range_1 ?_
 have hf:H1 s1.heap.objs.size=none:=I1.hok.fresh (Qh _);refine⟨.ref s1.heap.objs.size,upd H1 s1.heap.objs.size (.rng 0 j),I1.laid (t':=s1.toks+1+1) (λb u e=>Qd _ e) (Qh _) ⟨_,_,_,Qs _ rfl⟩,rfl,q _ _ (Jn hf) hf upd_same⟩
end
end L2
namespace Rs
open PySem.W
def sp{α:Type}(n:Nat)(c:Nat->Nat->Bool):KasT α->(α->Prop)->Prop
 |.ret a,Q=>Q a
 |.ask i j f,Q=>i<n/\j<n/\sp n c (f (c i j)) Q
theorem Qaj{α:Type}{n:Nat}{c:Nat->Nat->Bool}{Q Q':α->Prop}(h:∀a,Q a->Q' a):∀{t:KasT α},sp n c t Q->sp n c t Q'
 |.ret a,q=>h a q
 |.ask i j f,q=>⟨q.1,q.2.1,Qaj h (t:=f (c i j)) q.2.2⟩
theorem QcM{α β:Type}{n:Nat}{c:Nat->Nat->Bool}{f:α->KasT β}{Q:β->Prop}:∀{t:KasT α},sp n c t (λa=>sp n c (f a) Q)->sp n c (t.bind f) Q
 |.ret a,q=>q
 |.ask i j g,q=>⟨q.1,q.2.1,QcM (t:=g (c i j)) q.2.2⟩
theorem QhZ{α:Type}{n:Nat}{c:Nat->Nat->Bool}{cmp:Nat->Nat->(Bool->Shared->Prop)->Shared->Prop}{s:Shared}{Q:α->Shared->Prop}(hc:∀i j (C:Bool->Shared->Prop),i<n->j<n->C (c i j) s->cmp i j C s) :
  ∀{t:KasT α},sp n c t (λa=>Q a s)->t.kasWp cmp Q s
 |.ret a,q=>q
 |.ask i j f,q=>hc i j _ q.1 q.2.1 (QhZ hc (t:=f (c i j)) q.2.2)
section
variable{n:Nat}{K:Nat->Int}
abbrev cK (K:Nat->Int) (i j:Nat):Bool:=decide (K i<K j)
structure Good (n:Nat) (p:Array Nat):Prop where
 perm:p.toList.Perm (QY n)
theorem Good.size{p:Array Nat}(g:Good n p):p.size=n:=by
 have:=g.perm.length_eq;rw[Q8,Jg] at this;exact this
def at_(p:Array Nat)(i:Nat):Nat:=p.getD i 0
theorem Qg4{p:Array Nat}{i:Nat}(h:i<p.size):p[i]? = some (at_ p i):=by
 unfold at_;rw[Yh,JZ h];rfl
theorem Qpx{p q:Array Nat}{i j:Nat}(h:p[i]? = q[j]?):at_ p i=at_ q j:=by
 unfold at_;rw[Yh,Yh,h]
theorem Good.lt{p:Array Nat}(g:Good n p)(h0:0<n)(i:Nat):at_ p i<n:=by
 by_cases h:i<p.size
 ·have e:=Qg4 h;have m:at_ p i∈p.toList:=by
   have:=Array.mem_of_getElem? e;exact Qck.mpr this
  exact JI.mp (g.perm.mem_iff.mp m)
 ·unfold at_;rw[Yh,QbN (by omega)];exact h0
theorem Good.inj{p:Array Nat}(g:Good n p){i j:Nat}(hi:i<n)(hj:j<n)(e:at_ p i=at_ p j):i=j:=by
 have nd:p.toList.Nodup:=g.perm.nodup_iff.mpr List.nodup_range;have hs:=g.size;have hi':i<p.toList.length:=by rw[Jg];omega
 have hj':j<p.toList.length:=by rw[Jg];omega
 have ei:p.toList[i]=at_ p i:=by
  have:=Qg4 (p:=p) (i:=i) (by omega);rw[JZ (by omega)] at this;rw[Qat];exact QB this
 have ej:p.toList[j]=at_ p j:=by
  have:=Qg4 (p:=p) (i:=j) (by omega);rw[JZ (by omega)] at this;rw[Qat];exact QB this
 have pw:=ZL.mp nd;rcases Qbj i j with h | h | h
 ·exact absurd (ei.trans (e.trans ej.symm)) (pw i j hi' hj' h)
 ·exact h
 ·exact absurd (ej.trans (e.symm.trans ei.symm)) (pw j i hj' hi' h)
def kk(K:Nat->Int)(p:Array Nat)(i:Nat):Int:=K (at_ p i)
def Adj(K:Nat->Int)(p:Array Nat)(m:Nat):Prop:=∀i,i+1<m->kk K p i<=kk K p (i+1)
def Dsc(K:Nat->Int)(p:Array Nat)(m:Nat):Prop:=∀i,i+1<m->kk K p (i+1)<kk K p i
theorem Adj.le{p:Array Nat}{m:Nat}(h:Adj K p m){i:Nat}:∀{j:Nat},i<=j->j<m->kk K p i<=kk K p j
 |0,hij,_=>by cases Nat.le_zero.mp hij;exact Int.le_refl _
 |j+1,hij,hj=>by
  by_cases e:i=j+1
  ·rw[e];exact Int.le_refl _
  ·exact Int.le_trans (h.le (i:=i) (j:=j) (by omega) (by omega)) (h j hj)
theorem Qn4{p:Array Nat}(g:Good n p)(i j:Nat):Good n (kas_rev p i j):=⟨(QaL.mp (mirror_perm p i j _)).trans g.perm⟩
theorem Qp1{p:Array Nat}{m k:Nat}(hm:m<=p.size)(hk:k<m):at_ (kas_rev p 0 m) k=at_ p (m - 1 - k):=by
 refine Qpx ?_
 have:=getElem?_mirror_all (xs:=p) (i:=0) (j:=m) hm k
 rw[if_pos ⟨Je _,hk⟩,Nat.zero_add] at this;exact this
theorem Qse{p:Array Nat}{m:Nat}(hm:m<=p.size)(d:Dsc K p m):Adj K (kas_rev p 0 m) m:=by
 intro i hi;unfold kk;rw[Qp1 hm (by omega),Qp1 hm hi];have:=d (m - 1 - (i+1)) (by omega);have e:m - 1 - (i+1)+1=m - 1 - i:=by omega
 rw[e] at this;exact Int.le_of_lt this
theorem QkU{p:Array Nat}(g:Good n p)(h0:0<n):∀(f a:Nat),1<=a->Adj K p a ->
  sp n (cK K) (kas_asc p f a) (λm=>a<=m/\m<=a+f/\Adj K p m/\(m=a+f∨kk K p m<kk K p (m - 1)))
 |0,a,_,h=>⟨Qh _,Qh _,h,.inl rfl⟩
 |f+1,a,ha,h=>by
  refine⟨g.lt h0 a,g.lt h0 (a - 1),?_⟩;show sp n (cK K) (if decide (kk K p a<kk K p (a - 1))=true then .ret a else kas_asc p f (a+1)) _;by_cases e:kk K p a<kk K p (a - 1)
  ·rw[decide_eq_true e,if_pos rfl];exact⟨Qh _,Qfh _ _,h,.inr e⟩
  ·rw[decide_eq_false e,if_neg (by simp)];refine Qaj ?_ (QkU g h0 f (a+1) (by omega) ?_)
   ·rintro m ⟨h1,h2,h3,h4⟩;exact⟨by omega,by omega,h3,h4.imp (λq=>by omega) id⟩
   ·intro i hi;by_cases q:i+1<a
    ·exact h i q
    ·have e1:i=a - 1:=by omega
     have e2:i+1=a:=by omega
     rw[e2,e1];exact Int.not_lt.mp e
theorem QtA(inj:∀i j,i<n->j<n->K i=K j->i=j){p:Array Nat}(g:Good n p){i j:Nat}(hi:i<n)(hj:j<n)(h:i≠j):kk K p i≠kk K p j:=
 λe=>h (g.inj hi hj (inj _ _ (g.lt (by omega) i) (g.lt (by omega) j) e))
theorem QkT(inj:∀i j,i<n->j<n->K i=K j->i=j){p:Array Nat}(g:Good n p)(h0:0<n):∀(f a:Nat),1<=a->a+f<=n->Dsc K p a ->
  sp n (cK K) (kas_desc f p a 0) (λr=>r.1=p/\r.2.2=0/\a<=r.2.1/\r.2.1<=a+f/\Dsc K p r.2.1)
 |0,a,_,_,h=>⟨rfl,rfl,Qh _,Qh _,h⟩
 |f+1,a,ha,haf,h=>by
  refine⟨g.lt h0 a,g.lt h0 (a - 1),?_⟩;show sp n (cK K) (if decide (kk K p a<kk K p (a - 1))=true then(if 0 > 0 then kas_desc f (kas_rev p (a - (0+1)) a) (a+1) 0 else kas_desc f p (a+1) 0) else _) _;by_cases e:kk K p a<kk K p (a - 1)
  ·rw[decide_eq_true e,if_pos rfl,if_neg (by omega)];refine Qaj ?_ (QkT inj g h0 f (a+1) (by omega) (by omega) ?_)
   ·rintro r ⟨h1,h2,h3,h4,h5⟩;exact⟨h1,h2,by omega,by omega,h5⟩
   ·intro i hi;by_cases q:i+1<a
    ·exact h i q
    ·have e1:i=a - 1:=by omega
     have e2:i+1=a:=by omega
     rw[e2,e1];exact e
  ·rw[decide_eq_false e,if_neg (by simp)];refine⟨g.lt h0 (a - 1),g.lt h0 a,?_⟩;show sp n (cK K) (if decide (kk K p (a - 1)<kk K p a)=true then .ret (p,a,0) else _) _;have ne:=QtA (K:=K) inj g (i:=a - 1) (j:=a) (by omega) (by omega) (by omega);rw[decide_eq_true (by omega),if_pos rfl];exact⟨rfl,rfl,Qh _,Qfh _ _,h⟩
def Run(K:Nat->Int)(n:Nat)(r:Nat×Array Nat):Prop:=Good n r.2/\1<=r.1/\r.1<=n/\Adj K r.2 r.1
theorem QnI{p:Array Nat}(g:Good n p){m:Nat}(h1:1<=m)(hm:m<=n)(d:Dsc K p m):sp n (cK K) (kas_tail3 m n p) (Run K n):=by
 refine QcM ?_
 have hs:=g.size;have g':=Qn4 g 0 m;refine Qaj ?_ (QkU g' (by omega) (n - m) m h1 (Qse (by omega) d))
 rintro k ⟨a,b,c,_⟩;exact⟨g',by omega,by omega,c⟩
theorem Qhs(inj:∀i j,i<n->j<n->K i=K j->i=j){p:Array Nat}(g:Good n p){m:Nat}(hm:m+1<=n)(d:Dsc K p (m+1)):sp n (cK K) (kas_descPart m n p) (Run K n):=by
 refine QcM ?_
 refine Qaj ?_ (QkT inj g (by omega) (n - (m+1)) (m+1) (by omega) (by omega) d)
 rintro⟨p',k,q⟩ ⟨e1,e2,h3,h4,h5⟩;have e1:p'=p:=e1;have e2:q=0:=e2;subst e1 e2;show sp n (cK K) (if 0 > 0 then _ else kas_tail3 k n p') _;rw[if_neg (by omega)];have h3:m+1<=k:=h3;have h4:k<=m+1+(n - (m+1)):=h4;exact QnI g (by omega) (by omega) h5
theorem QnJ(inj:∀i j,i<n->j<n->K i=K j->i=j){p:Array Nat}(g:Good n p)(h0:0<n):sp n (cK K) (kas_count n p) (Run K n):=by
 refine QcM ?_
 refine Qaj ?_ (QkU g h0 (n - 1) 1 (Qh _) (λi hi=>by omega))
 rintro m ⟨h1,h2,h3,h4⟩;show sp n (cK K) (if(m == n)=true then .ret (m,p) else if m > 1 then _ else kas_descPart m n p) _;by_cases e:m=n
 ·rw[if_pos (beq_iff_eq.mpr e)];exact⟨g,h1,by omega,h3⟩
 ·rw[if_neg (λq=>e (beq_iff_eq.mp q))];by_cases e2:m > 1
  ·rw[if_pos e2];refine⟨g.lt h0 0,g.lt h0 (m - 1),?_⟩;show sp n (cK K) (if decide (kk K p 0<kk K p (m - 1))=true then .ret (m,p) else _) _;have le:=h3.le (i:=0) (j:=m - 1) (by omega) (by omega);have ne:=QtA (K:=K) inj g (i:=0) (j:=m - 1) (by omega) (by omega) (by omega);rw[decide_eq_true (by omega),if_pos rfl];exact⟨g,h1,by omega,h3⟩
  ·rw[if_neg e2];have em:m=1:=by omega
   subst em;refine Qhs inj g (by omega) λi hi=>?_
   have ei:i=0:=by omega
   subst ei;rcases h4 with q | q
   ·omega
   ·exact q
theorem Qfr{p:Array Nat}(g:Good n p)(h0:0<n){k:Nat}(A:Adj K p k):∀(f l r:Nat),l<=r->r<=k->r - l<=f->(∀i,i<l->kk K p i<=kk K p k)->(∀i,r<=i->i<k->kk K p k<kk K p i) ->
  sp n (cK K) (kas_place p k f l r) (λm=>m<=k/\(∀i,i<m->kk K p i<=kk K p k)/\∀i,m<=i->i<k->kk K p k<kk K p i)
 |0,l,r,h1,h2,h3,a,b=>⟨by omega,a,λi hi hk=>b i (by omega) hk⟩
 |f+1,l,r,h1,h2,h3,a,b=>by
  show sp n (cK K) (if l≥r then .ret l else _) _;by_cases e:l≥r
  ·rw[if_pos e];exact⟨by omega,a,λi hi hk=>b i (by omega) hk⟩
  ·rw[if_neg e];refine⟨g.lt h0 k,g.lt h0 ((l+r) / 2),?_⟩;show sp n (cK K) (if decide (kk K p k<kk K p ((l+r) / 2))=true then kas_place p k f l ((l+r) / 2) else kas_place p k f ((l+r) / 2+1) r) _;by_cases q:kk K p k<kk K p ((l+r) / 2)
   ·rw[decide_eq_true q,if_pos rfl];refine Qfr g h0 A f l ((l+r) / 2) (by omega) (by omega) (by omega) a λi hi hk=>?_
    exact Int.lt_of_lt_of_le q (A.le hi hk)
   ·rw[decide_eq_false q,if_neg (by simp)];refine Qfr g h0 A f ((l+r) / 2+1) r (by omega) h2 (by omega) (λi hi=>?_) b;exact Int.le_trans (A.le (i:=i) (j:=(l+r) / 2) (by omega) (by omega)) (Int.not_lt.mp q)
theorem QpX(h0:0<n):∀(f k:Nat){p:Array Nat},Good n p->k+f<=n->Adj K p k->sp n (cK K) (kas_bin f p k) (λp'=>Good n p'/\Adj K p' (k+f))
 |0,k,p,g,_,A=>⟨g,A⟩
 |f+1,k,p,g,hk,A=>by
  refine QcM ?_
  refine Qaj ?_ (Qfr g h0 A k 0 k (Je _) (Qh _) (by omega) (λi hi=>by omega) (λi hi hk=>by omega))
  rintro l ⟨hl,lo,hi⟩;have hs:=g.size;have bb:∀j,at_ (bubble p k (k - l)) j=if j=l then at_ p k else if l<j/\j<=k then at_ p (j - 1) else at_ p j:=by
   intro j;have:=getElem?_bubble (xs:=p) (src:=k) (by omega) (k - l) (by omega) j
   have e:k - (k - l)=l:=by omega
   rw[e] at this;split
   ·rename_i q;rw[if_pos q] at this;exact Qpx this
   ·rename_i q
    rw[if_neg q] at this;split
    ·rename_i q2;rw[if_pos q2] at this;exact Qpx this
    ·rename_i q2;rw[if_neg q2] at this;exact Qpx this
  refine Qaj ?_ (QpX h0 f (k+1) (p:=bubble p k (k - l)) ⟨(QaL.mp (bubble_perm p k (k - l))).trans g.perm⟩ (by omega) ?_)
  ·rintro p' ⟨a,b⟩;exact⟨a,by rw[show k+(f+1)=k+1+f by omega];exact b⟩
  ·intro i hik;unfold kk;rw[bb,bb];by_cases c1:i+1<l
   ·rw[if_neg (by omega),if_neg (by omega),if_neg (by omega),if_neg (by omega)];exact A i (by omega)
   ·by_cases c2:i+1=l
    ·rw[if_neg (by omega),if_neg (by omega),if_pos c2];exact lo i (by omega)
    ·by_cases c3:i=l
     ·rw[if_pos c3,if_neg (by omega),if_pos ⟨by omega,by omega⟩];exact Int.le_of_lt (hi (i+1 - 1) (by omega) (by omega))
     ·rw[if_neg c3,if_pos ⟨by omega,by omega⟩,if_neg (by omega),if_pos ⟨by omega,by omega⟩];have:=A (i - 1) (by omega);rw[show i - 1+1=i+1 - 1 by omega] at this;exact this
theorem Qr1(inj:∀i j,i<n->j<n->K i=K j->i=j)(h0:0<n):sp n (cK K) (kas_sort n) (λp=>Good n p/\Adj K p n):=by
 have g:Good n (Z0 (QY n)):=⟨Qeq _⟩;refine QcM ?_
 refine Qaj ?_ (QnJ inj g h0)
 rintro⟨m,p⟩ ⟨g',h1,h2,A⟩;show sp n (cK K) (if m<n then kas_bin (n - max m 1) p (max m 1) else .ret p) _;have e:max m 1=m:=by have:1<=m:=h1;omega
 rw[e];by_cases q:m<n
 ·rw[if_pos q];refine Qaj ?_ (QpX h0 (n - m) m g' (by omega) A)
  rintro p' ⟨a,b⟩;exact⟨a,by rw[show m+(n - m)=n by omega] at b;exact b⟩
 ·rw[if_neg q];have h2:m<=n:=h2;have e2:m=n:=by omega
  subst e2;exact⟨g',A⟩
end
end Rs
namespace Rs
open PySem.W PySem.Calls
section
variable{prog:Qw}{w:Ja}{A:Q9}{E:Value->Shared->Prop}{s:Shared}
def Kept(a:Addr)(h h':JR):Prop:=∀b x,b≠a->h.get? b=some x->h'.get? b=some x
theorem Qfn{h:JR}{a:Addr}(f:Obj->Obj):Kept a h (h.update a f):=λb x hb e=>(Heap.get?_update_ne _ _ _ _ hb).trans e
theorem Qgx{h:JR}{a:Addr}(o:Obj):Kept a h (h.push o):=λb x _ e=>Qd _ e
theorem Kept.trans{a:Addr}{h h1 h2:JR}(k:Kept a h h1)(k':Kept a h1 h2):Kept a h h2:=λb x hb e=>k' b x hb (k b x hb e)
theorem Qle(vs:List Value):(QY vs.length).map (λi=>vs.getD i Q6)=vs:=by
 apply Qbg
 intro i;rw[QC];by_cases h:i<vs.length
 ·rw[JC h,Qi h];show some (vs.getD i Q6)=_;rw[QJ,Qi h];rfl
 ·rw[Jr (by simpa using h),Jr (by omega)];rfl
theorem Qex{a:Addr}{vs:List Value}{n:Nat}{P:PySem.Fin->Shared->Prop}(ho:s.heap.get? a=some (seqObj "list" vs.toArray n))(h64:vs.length<64)(K:Nat->Int)(κ:QaX)
  (inj:∀i j,i<vs.length->j<vs.length->K i=K j->i=j)
  (hkind:2<=vs.length->∀h':JR,Kept a s.heap h'->∀(Q':QaX->Shared->Prop)(E':Value->Shared->Prop),Q' κ { s with heap:=h' }->wpAny (model prog w) A (keyKind' vs.toArray) Q' E' { s with heap:=h' })
  (hcmp:∀h':JR,Kept a s.heap h'->∀(i j:Nat)(C:Bool->Shared->Prop),i<vs.length->j<vs.length->C (decide (K i<K j)) { s with heap:=h' }->wpAny (model prog w) A (keyLt' κ (vs.getD i Q6) (vs.getD j Q6)) C (λ_ _=>False) { s with heap:=h' })
  (h:∀p:Array Nat,Good vs.length p->Adj K p vs.length->∀(h':JR)(e:Nat),Kept a s.heap h'->h'.get? a=some (seqObj "list" (Z0 (p.toList.map λi=>vs.getD i Q6)) e)->P (.done (.ret .none)) { s with heap:=h' }) :
  wpAny (model prog w) A (QbM.«list.sort» ⟨[.ref a],[]⟩) P E s:=by
 have ha:a<s.heap.objs.size:=Qo ho;obtain⟨e1,ho1⟩:∃e1,(s.heap.update a (Yu λ_=>(#[]:Array Value))).get? a=some (seqObj "list" #[] e1):=⟨_,get?_update_seq ho λ_=>#[]⟩
 have K3:Kept a s.heap (((s.heap.update a (Yu λ_=>(#[]:Array Value))).push (seqObj "tuple" vs.toArray 0)).push (seqObj "list" #[] 0)):=(Qfn _).trans ((Qgx _).trans (Qgx _));have ho6:(((s.heap.update a (Yu λ_=>(#[]:Array Value))).push (seqObj "tuple" vs.toArray 0)).push (seqObj "list" #[] 0)).get? a=some (seqObj "list" #[] e1):=Qd _ (Qd _ ho1);rw[list_sort_plain];refine wpAny_bind (listItems_at ho rfl ?_);refine wpAny_bind (Qnq ho rfl ?_ (by rw[Qk,ZW];omega) (Je _));refine wpAny_bind (Quw ho1 rfl ?_);refine wpAny_bind (wpAny_newTuple ?_ (by show vs.length<=_;rw[ZW];omega));refine wpAny_bind (wpAny_newList ?_ (Je _));refine Zk ?_
 show wpAny (model prog w) A _ P E { s with heap:=((s.heap.update a (Yu λ_=>(#[]:Array Value))).push (seqObj "tuple" vs.toArray 0)).push (seqObj "list" #[] 0) }
 dsimp only
 generalize (((s.heap.update a (Yu λ_=>(#[]:Array Value))).push (seqObj "tuple" vs.toArray 0)).push (seqObj "list" #[] 0))=h3 at K3 ho6 ⊢;have fin:∀p:Array Nat,Good vs.length p->Adj K p vs.length->∀st':SortSt,(arrOf st').map (·.2)=Z0 (p.toList.map λi=>vs.getD i Q6)->failedOf st'=none ->
   ∃e2,(h3.update a (Yu λ_=>Z0 (p.toList.map λi=>vs.getD i Q6))).get? a=some (seqObj "list" (Z0 (p.toList.map λi=>vs.getD i Q6)) e2):=λp _ _ _ _ _=>⟨_,get?_update_seq ho6 λ_=>_⟩
 by_cases h2:vs.toArray.size<2
 ·rw[if_pos h2,if_pos h2];refine wpAny_bind (Qf ?_);rw[StateT.run_pure];refine wpAny_bind (Qf ?_)
  dsimp only
  have gg:Good vs.length (Z0 (QY vs.length)):=⟨Qeq _⟩;have aa:Adj K (Z0 (QY vs.length)) vs.length:=λi hi=>by rw[Qk] at h2;omega
  have out:(arrOf (SortSt.mk' general' (vs.toArray.zip vs.toArray) #[] 7 none)).map (·.2)=Z0 ((Z0 (QY vs.length)).toList.map λi=>vs.getD i Q6):=by
   show(vs.toArray.zip vs.toArray).map (·.2)=_;rw[Qc8,Qle];apply Array.toList_inj.mp
   rw[Array.toList_map,Array.toList_zip];show(vs.zip vs).map (·.2)=vs;exact List.map_snd_zip (Qh _)
  obtain⟨e2,he2⟩:=fin _ gg aa _ out rfl;rw[out];refine wpAny_bind (Quw ho6 rfl ?_);refine wpAny_bind (Qnq ho6 rfl ?_ (Je _) (by rw[Qk,Qg,Qc8,Q8,ZW];omega));simp only[bne_self_eq_false,Yc,if_false];exact Qf (h _ gg aa _ e2 (K3.trans (Qfn _)) he2)
 ·rw[if_neg h2,if_neg h2];have h2':2<=vs.length:=by rw[Qk] at h2;omega
  refine wpAny_bind (hkind h2' h3 K3 _ _ ?_);refine wpAny_bind (wpAny_mono (kat_run (Q:=λst' s'=>∃p:Array Nat,Good vs.length p/\Adj K p vs.length/\arrOf st'=p.map (kas_item (vs.toArray.zip vs.toArray))/\failedOf st'=none/\s'={ s with heap:=h3 })
   (G:=λp s'=>Good vs.length p/\Adj K p vs.length/\s'={ s with heap:=h3 }) rfl h2' h64 (λp' st' s' a1 a2 a3 a4=>⟨p',a4.1,a4.2.1,a2,a3,a4.2.2⟩)
   (QhZ (c:=cK K) (λi j C hi hj hC=>hcmp h3 K3 i j C hi hj hC) (Qaj (λp q=>⟨q.1,q.2,rfl⟩) (Qr1 inj (by omega))))) ?_ λ_ _ e=>e)
  rintro⟨⟨⟩,st'⟩ s' ⟨p,gg,aa,har,hf,rfl⟩
  dsimp only
  have out:=kat_snds (ks:=vs) rfl har;obtain⟨e2,he2⟩:=fin p gg aa st' out hf;rw[out];refine wpAny_bind (Quw ho6 rfl ?_);refine wpAny_bind (Qnq ho6 rfl ?_ (Je _) (by rw[Qk,Qg,Jg,gg.size,ZW];omega));rw[hf];simp only[bne_self_eq_false,Yc,if_false];exact Qf (h p gg aa _ e2 (K3.trans (Qfn _)) he2)
theorem Qbk{Q:Value->Shared->Prop}{l:Addr}{T:String}{o:Obj}{vs:List Value}{n:Nat}(hT:T = "list" ∨ T = "tuple")(ho:s.heap.get? l=some o)(hc:o.cls=.type T)(hd:o.data=.seq vs.toArray n)(h64:vs.length<64)
  (h:∀h':JR,(∀b x,s.heap.get? b=some x->h'.get? b=some x)->∀(P:PySem.Fin->Shared->Prop)(E':Value->Shared->Prop),(∀s2,Q (.ref h'.objs.size) s2->P (.done (.ret .none)) s2) ->
   wpAny (model prog w) A.in1.in1 (QbM.«list.sort» ⟨[.ref h'.objs.size],[]⟩) P E' { s with heap:=h'.push (seqObj "list" vs.toArray 0) }) :
  wpAny (model prog w) A (call (.builtin "sorted") [.ref l]) Q E s:=by
 refine Calls.call_function_entry kind_sorted plain_sorted entry_sorted (args_sorted1 _) ?_
 unfold QbM.«sorted»;refine wpAny_bind (m:=checkCount "sorted" 1 1 _) (Qf ?_);refine wpAny_bind (wpAny_collect_seq (items:=vs.toArray) l hT ho hc hd (λh' kp=>?_) (by rw[Qk,ZW];omega));refine wpAny_bind (wpAny_newList ?_ (by rw[Qc8,ZW];omega));have hoL:(h'.push (seqObj "list" vs.toArray 0)).get? h'.objs.size=some (seqObj "list" vs.toArray 0):=Qs _ rfl;show wpAny _ _ _ _ _ { s with heap:=h'.push (seqObj "list" vs.toArray 0) };refine wpAny_bind (Zk (J8 slot_list_sort ⟨_,hoL,rfl⟩ entry_list_sort ?body (args_list_sort _)));exact h h' kp _ _ λs2 hq=>⟨_,rfl,Qf ⟨_,rfl,hq⟩⟩
end
structure PairV (h:JR) (v:Value) (ij:Int×Int):Prop where
 it:∃(a:Addr)(o:Obj)(n:Nat)(t u:Tok),v=.ref a/\h.get? a=some o/\o.cls=.type "tuple" /\ o.data=.seq #[.int ij.1 t,.int ij.2 u] n
theorem PairV.keep{h h':JR}{v:Value}{ij:Int×Int}(q:PairV h v ij)(k:∀b x,h.get? b=some x->h'.get? b=some x):PairV h' v ij:=by
 obtain⟨a,o,n,t,u,e,g,c,d⟩:=q.it;exact⟨a,o,n,t,u,e,k _ _ g,c,d⟩
inductive PairsV (h:JR):List Value->List (Int×Int)->Prop
 |nil:PairsV h [] []
 |cons {v:Value} {vs:List Value} {ij:Int×Int} {L:List (Int×Int)}:PairV h v ij->PairsV h vs L->PairsV h (v::vs) (ij::L)
theorem PairsV.keep{h h':JR}(k:∀b x,h.get? b=some x->h'.get? b=some x):∀{vs:List Value}{L:List (Int×Int)},PairsV h vs L->PairsV h' vs L
 |_,_,.nil=>.nil
 |_,_,.cons q r=>.cons (q.keep k) (r.keep k)
theorem PairsV.len{h:JR}:∀{vs:List Value}{L:List (Int×Int)},PairsV h vs L->vs.length=L.length
 |_,_,.nil=>rfl
 |_,_,.cons _ r=>by rw[QV,QV,r.len]
theorem PairsV.at_{h:JR}:∀{vs:List Value}{L:List (Int×Int)},PairsV h vs L->∀i,i<vs.length->PairV h (vs.getD i Q6) (L.getD i (0,0))
 |_,_,.nil,i,hi=>by simp at hi
 |_,_,.cons q r,0,hi=>q
 |_,_,.cons q r,i+1,hi=>by
  have:=r.at_ i (by simpa using hi)
  simpa using this
theorem PairsV.firsts{h:JR}:∀{vs:List Value}{L:List (Int×Int)},PairsV h vs L->∃fs,KatTups h vs fs/\fs.length=vs.length/\∀v∈fs,∃i t,v=QbT i t
 |_,_,.nil=>⟨[],.nil,rfl,λv hv=>nomatch hv⟩
 |_,_,.cons q r=>by
  obtain⟨fs,k,l,f⟩:=r.firsts;obtain⟨a,o,n,t,u,e,g,c,d⟩:=q.it;subst e;refine⟨_::fs,KatTups.cons g c d rfl k,by rw[QV,QV,l],λv hv=>?_⟩;rcases Qz.mp hv with z | z
  ·exact⟨_,_,z⟩
  ·exact f v z
def code(ij:Int×Int):Int:=64*ij.1+ij.2
section
variable{prog:Qw}{w:Ja}{A:Q9}{E:Value->Shared->Prop}{s:Shared}
theorem QtY{a b:Int×Int}(ha:0<=a.2/\a.2<64)(hb:0<=b.2/\b.2<64):decide (code a<code b)=if a.1=b.1 then(if a.2=b.2 then false else decide (a.2<b.2)) else decide (a.1<b.1):=by
 unfold code;split
 ·split
  ·exact decide_eq_false (by omega)
  ·by_cases q:a.2<b.2
   ·rw[decide_eq_true q];exact decide_eq_true (by omega)
   ·rw[decide_eq_false q];exact decide_eq_false (by omega)
 ·by_cases q:a.1<b.1
  ·rw[decide_eq_true q];exact decide_eq_true (by omega)
  ·rw[decide_eq_false q];exact decide_eq_false (by omega)
theorem Qs2{v v':Value}{a b:Int×Int}{C:Bool->Shared->Prop}(pa:PairV s.heap v a)(pb:PairV s.heap v' b)(ha:0<=a.2/\a.2<64)(hb:0<=b.2/\b.2<64)(h:C (decide (code a<code b)) s) :
  wpAny (model prog w) A (keyLt' (tuples' true) v v') C E s:=by
 obtain⟨x,ox,n,t,u,rfl,gx,cx,dx⟩:=pa.it;obtain⟨y,oy,m,t',u',rfl,gy,cy,dy⟩:=pb.it;rw[QtY ha hb] at h;refine kat_lt gx dx gy dy ?_
 show KatLex prog w A true false C [(.int a.1 t,.int b.1 t'),(.int a.2 u,.int b.2 u')] 0 s;refine kat_cons (Qhf ?_);by_cases e:a.1=b.1
 ·rw[if_pos e] at h;rw[show(a.1 == b.1)=true from beq_iff_eq.mpr e];refine kat_yes (kat_cons (Qhf ?_));by_cases e2:a.2=b.2
  ·rw[if_pos e2] at h;rw[show(a.2 == b.2)=true from beq_iff_eq.mpr e2];exact kat_yes (kat_nil h)
  ·rw[if_neg e2] at h;rw[show(a.2 == b.2)=false from beq_eq_false_iff_ne.mpr e2];exact kat_no (kat_one _ _ (lt_int h))
 ·rw[if_neg e] at h;rw[show(a.1 == b.1)=false from beq_eq_false_iff_ne.mpr e];exact kat_no (oneLt_int h)
theorem QlO{vs:List Value}{L:List (Int×Int)}{Q:QaX->Shared->Prop}(r:PairsV s.heap vs L)(h2:2<=vs.length)(h:Q (tuples' true) s):wpAny (model prog w) A (keyKind' vs.toArray) Q E s:=by
 obtain⟨fs,k,l,f⟩:=r.firsts;refine kat_kind (T:=.type "int") k (by omega) (λv hv=>?_) (by decide +kernel) ?_
 ·obtain⟨i,t,rfl⟩:=f v hv;exact Looks.of_pure rfl
 ·rw[show(Y3 "int" != Y3 "tuple")=true by decide +kernel];exact h
theorem Qbv{a:Addr}{vs:List Value}{L:List (Int×Int)}{n:Nat}{P:PySem.Fin->Shared->Prop}(ho:s.heap.get? a=some (seqObj "list" vs.toArray n))(h64:vs.length<64)(r:∀h',Kept a s.heap h'->PairsV h' vs L)(nd:L.Nodup)(hb:∀ij∈L,0<=ij.2/\ij.2<64)
  (h:∀p:Array Nat,Good vs.length p->Adj (λi=>code (L.getD i (0,0))) p vs.length->∀(h':JR)(e:Nat),Kept a s.heap h'->h'.get? a=some (seqObj "list" (Z0 (p.toList.map λi=>vs.getD i Q6)) e)->P (.done (.ret .none)) { s with heap:=h' }) :
  wpAny (model prog w) A (QbM.«list.sort» ⟨[.ref a],[]⟩) P E s:=by
 have hl:vs.length=L.length:=(r s.heap (λb x _ e=>e)).len;have hb':∀i,i<vs.length->0<=(L.getD i (0,0)).2/\(L.getD i (0,0)).2<64:=λi hi=>by
  rw[QJ,Qi (by omega)];exact hb _ (YH _)
 refine Qex ho h64 (λi=>code (L.getD i (0,0))) (tuples' true) (λi j hi hj e=>?_) (λh2 h' k Q' E' q=>QlO (s:={ s with heap:=h' }) (r h' k) h2 q) (λh' k i j C hi hj q=>Qs2 (s:={ s with heap:=h' }) ((r h' k).at_ i hi) ((r h' k).at_ j hj) (hb' i hi) (hb' j hj) q) h;have bi:=hb' i hi;have bj:=hb' j hj;have e:code (L.getD i (0,0))=code (L.getD j (0,0)):=e;unfold code at e;have e':L.getD i (0,0)=L.getD j (0,0):=Qdw (by omega) (by omega);rw[QJ,QJ,Qi (by omega),Qi (by omega)] at e';have pw:=ZL.mp nd;rcases Qbj i j with q | q | q
 ·exact absurd e' (pw i j (by omega) (by omega) q)
 ·exact q
 ·exact absurd e'.symm (pw j i (by omega) (by omega) q)
end
theorem QgJ{α:Type}{L:List α}{d:α}{p:Array Nat}(g:Good L.length p):(p.toList.map λi=>L.getD i d).Perm L:=by
 have e:(QY L.length).map (λi=>L.getD i d)=L:=by
  apply Qbg
  intro i;rw[QC];by_cases h:i<L.length
  ·rw[JC h,Qi h];show some (L.getD i d)=_;rw[QJ,Qi h];rfl
  ·rw[Jr (by simpa using h),Jr (by omega)];rfl
 have:=g.perm.map λi=>L.getD i d
 rwa [e] at this
theorem QgI{L:List (Int×Int)}{p:Array Nat}(g:Good L.length p)(ad:Adj (λi=>code (L.getD i (0,0))) p L.length)(inj:∀i j,i<L.length->j<L.length->code (L.getD i (0,0))=code (L.getD j (0,0))->i=j) :
  (p.toList.map λi=>L.getD i (0,0)).Pairwise λa b=>code a<code b:=by
 rw[ZL];intro i j hi hj hij;rw[Qg,Jg] at hi hj;have hs:=g.size;rw[QrH,QrH,Qat,Qat];have ei:p[i]=at_ p i:=by have:=Qg4 (p:=p) (i:=i) (by omega);rw[JZ (by omega)] at this;exact QB this
 have ej:p[j]=at_ p j:=by have:=Qg4 (p:=p) (i:=j) (by omega);rw[JZ (by omega)] at this;exact QB this
 rw[ei,ej];have le:=ad.le (i:=i) (j:=j) (by omega) (by omega);have ne:=QtA (K:=λi=>code (L.getD i (0,0))) inj g (i:=i) (j:=j) (by omega) (by omega) (by omega);have le:code (L.getD (at_ p i) (0,0))<=code (L.getD (at_ p j) (0,0)):=le;have ne:code (L.getD (at_ p i) (0,0))≠code (L.getD (at_ p j) (0,0)):=ne;omega
end Rs
namespace L2
open _root_.Rd _root_.Rk _root_.Rs
theorem boot_sorted:bootBuiltins "sorted" = some (.builtin "sorted"):=by decide +kernel
section
variable{X:Cx}
theorem QdV{P:Qw}{w:Ja}{H:Hp}{h:JR}(ok:HOk P w H h):∀{xs:List V}{L:List (Int×Int)}{vs:List Value},Dats H xs (L.map Rk.pairD)->Vals xs vs->PairsV h vs L
 |_,[],vs,.nil,r=>by cases r;exact .nil
 |_,ij::L,vs,.cons (x:=x) (xs:=xs) q qs,r=>by
  cases r with
  |cons r rs=>
   refine .cons ?_ (QdV ok qs rs)
   cases q with
   |@tup a ys ds e q2=>
    cases r;obtain⟨_,its,rv,o,ho,hc,_,n,hd⟩:=ok a _ e;cases q2 with
    |cons q3 q4=>
     cases q4 with
     |cons q5 q6=>
      cases q6;cases q3;cases q5;cases rv with
      |cons r1 r2=>
       cases r2 with
       |cons r3 r4=>
        cases r4;obtain⟨t,rfl⟩:=r1;obtain⟨u,rfl⟩:=r3;exact⟨_,o,n,t,u,rfl,ho,hc,hd⟩
theorem QhL{H:Hp}:∀{xs:List V}{L:List (Int×Int)},Dats H xs (L.map Rk.pairD)->∀i,i<xs.length->Dat H (xs.getD i .non) (Rk.pairD (L.getD i (0,0)))
 |_,[],.nil,i,hi=>by simp at hi
 |_,ij::L,.cons q qs,0,hi=>q
 |_,ij::L,.cons q qs,i+1,hi=>by
  have:=QhL (L:=L) qs i (by simpa using hi)
  simpa using this
theorem Qhn:∀{xs:List V}{vs:List Value},Vals xs vs->∀i,i<xs.length->RelV (xs.getD i .non) (vs.getD i Q6)
 |_,_,.nil,i,hi=>by simp at hi
 |_,_,.cons q qs,0,hi=>q
 |_,_,.cons q qs,i+1,hi=>by
  have:=Qhn qs i (by simpa using hi)
  simpa using this
theorem QfY{H:Hp}{f:Nat->V}{g:Nat->Int×Int}:∀{is:List Nat},(∀i∈is,Dat H (f i) (Rk.pairD (g i)))->Dats H (is.map f) ((is.map g).map Rk.pairD)
 |[],_=>.nil
 |i::is,h=>.cons (h i (.head _)) (QfY λj hj=>h j (.tail _ hj))
theorem Qfm{f:Nat->V}{g:Nat->Value}:∀{is:List Nat},(∀i∈is,RelV (f i) (g i))->Vals (is.map f) (is.map g)
 |[],_=>.nil
 |i::is,h=>.cons (h i (.head _)) (Qfm λj hj=>h j (.tail _ hj))
def Qlh:List V->Hp->VK->Prop:=λxs H Q=>∃(l:Addr)(vs:List V)(L:List (Int×Int)),xs=[.ref l]/\H l=some (.lst vs)/\Dats H vs (L.map Rk.pairD)/\L.Nodup/\L.length<64/\(∀ij∈L,0<=ij.2/\ij.2<64) /\
 ∀(t:Addr)(ys:List V)(M:List (Int×Int))(H2:Hp),Same H H2->H t=none->H2 t=some (.lst ys)->Dats H2 ys (M.map Rk.pairD)->M.Perm L->M.Pairwise (λa b=>Rs.code a<Rs.code b)->Q (.ref t) H2
theorem Qe8:CallR X (.builtin "sorted") Qlh:=by
 intro pins s σ H xs us Q I r h;obtain⟨l,vs,L,rfl,hl,ds,nd,h64,hb,q⟩:=h;obtain⟨u,rfl,ru⟩:=vals1 r;cases ru;obtain⟨hz,its,n,rv,ho⟩:=I.hok l _ hl;have pv:=QdV I.hok ds rv;have lv:=ds.length;rw[Qg] at lv;have li:=rv.length;have lp:=pv.len;refine Qbk (.inl rfl) ho rfl rfl (by omega) λh' kp P E' hP=>?_
 refine Qbv (s:={ s with heap:=h'.push (seqObj "list" its.toArray 0) }) (vs:=its) (L:=L) (Qs _ rfl) (by omega) (λh2 k2=>?_) nd hb λp g ad h2 e k2 e2=>hP _ ?_
 ·exact(pv.keep kp).keep λb x e=>k2 b x (Qx (Qo e)) (Qd _ e)
 ·have I1:Inv X pins σ H { s with heap:=h' }:=I.kept (t':=s.toks) kp;have hf:H h'.objs.size=none:=I1.hok.fresh (Qh _);have hp:∀i∈p.toList,i<vs.length:=λi hi=>by have:=JI.mp (g.perm.mem_iff.mp hi);omega
  have I2:Inv X pins σ (upd H h'.objs.size (.lst (p.toList.map λi=>vs.getD i .non))) { s with heap:=h2 }:=
   I1.laid (t':=s.toks) (λb x e'=>k2 b x (Qx (Qo e')) (Qd _ e')) (Qh _) (show ObjOk X.prog X.w _ _ _ (.lst _) from⟨by rw[Qg,Jg,g.size];exact Zw (Rk.Qaq (by omega)),_,e,Qfm λi hi=>Qhn rv i (hp i hi),e2⟩)
  have g':Good L.length p:=by rw[<- lp];exact g
  have ad':Adj (λi=>Rs.code (L.getD i (0,0))) p L.length:=by rw[<- lp];exact ad
  refine⟨.ref h'.objs.size,_,I2,rfl,q _ _ (p.toList.map λi=>L.getD i (0,0)) _ (Jn hf) hf upd_same (QfY λi hi=>(QhL ds i (hp i hi)).same (Jn hf)) (QgJ g') (QgI g' ad' λi j hi hj e=>?_)⟩;have bi:0<=(L.getD i (0,0)).2/\(L.getD i (0,0)).2<64:=by rw[QJ,Qi hi];exact hb _ (YH _)
  have bj:0<=(L.getD j (0,0)).2/\(L.getD j (0,0)).2<64:=by rw[QJ,Qi hj];exact hb _ (YH _)
  unfold Rs.code at e;have e':L.getD i (0,0)=L.getD j (0,0):=Qdw (by omega) (by omega);rw[QJ,QJ,Qi hi,Qi hj] at e';have pw:=ZL.mp nd;rcases Qbj i j with z | z | z
  ·exact absurd e' (pw i j hi hj z)
  ·exact z
  ·exact absurd e'.symm (pw j i hj hi z)
theorem Qiv:∀{ns:List Int}{vs:List Value},Vals (ns.map V.int) vs->Qes vs ns
 |[],_,.nil=>.nil
 |i::ns,_,.cons ⟨t,e⟩ r=>by subst e;exact .cons _ _ (Qiv r)
theorem QiP:∀{ns:List Int}{vs:List Value},Qes vs ns->Vals (ns.map V.int) vs
 |_,_,.nil=>.nil
 |_,_,.cons n t r=>.cons ⟨t,rfl⟩ (QiP r)
def Qli(K:PySem.W.Frag):List V->Hp->VK->Prop:=λxs H Q=>∃l ns,xs=[.ref l]/\SqT K H l ((ns:List Int).map V.int)/\ns.length<64 /\
 ∀t ms H2,Same H H2->H t=none->H2 t=some (.lst ((ms:List Int).map V.int))->ms.Perm ns->ms.Pairwise (·<=·)->Q (.ref t) H2
theorem QjX:CallR X (.builtin "sorted") (Qli X.K):=by
 intro pins s σ H xs us Q I r h;obtain⟨l,ns,rfl,hl,h64,q⟩:=h;obtain⟨u,rfl,ru⟩:=vals1 r;cases ru;obtain⟨its,rv,tp,hz⟩:=I.tuple hl;obtain⟨o,ho,hc,n,hd⟩:=tp;have li:=rv.length;rw[Qg] at li;refine Qbk (.inr rfl) ho hc hd (by omega) λh' kp P E' hP=>?_
 have hn:(h'.push (seqObj "list" its.toArray 0)).get? h'.objs.size=some (seqObj "list" its.toArray 0):=Qs _ rfl;refine list_sort_tree (s:={ s with heap:=h'.push (seqObj "list" its.toArray 0) }) hn (Qiv rv) (by omega) λout ns' ia pm pw=>hP _ ?_
 have I1:Inv X pins σ H { s with heap:=h' }:=I.kept (t':=s.toks) kp;have hf:H h'.objs.size=none:=I1.hok.fresh (Qh _);obtain⟨e,he⟩:∃e,(sortedHeap (h'.push (seqObj "list" its.toArray 0)) h'.objs.size its out).get? h'.objs.size=some (seqObj "list" out e):=sortedHeap_at hn
 have rv':=QiP ia;have lp:=pm.length_eq;have I2:Inv X pins σ (upd H h'.objs.size (.lst (ns'.map V.int))) { s with heap:=sortedHeap (h'.push (seqObj "list" its.toArray 0)) h'.objs.size its out }:=
  I1.laid (t':=s.toks) (λb x e'=>(sortedHeap_old (Qx (Qo e')) (QN (Qo e') (by rw[size_push'];exact Qnw _))).trans (Qd _ e')) (Qh _) (show ObjOk X.prog X.w _ _ _ (.lst _) from⟨by rw[Qg];exact Zw (Rk.Qaq (by omega)),out.toList,e,rv',by rw[he]⟩)
 exact⟨.ref h'.objs.size,_,I2,rfl,q _ ns' _ (Jn hf) hf upd_same pm pw⟩
end
end L2
namespace Re
open AutoSeq1 (wpAny_loadPart')
end Re
namespace L2
section
variable{X:Cx}
end
end L2
namespace Rk
open L2
end Rk
namespace L2
section
variable{X:Cx}{pins:List (Addr×Obj)}{σ:St}{H:Hp}
theorem Qew{M:List Str}{scope:Y4}{fp:List Addr}{σ':St}{H3:Hp}{s3 s':Shared}{D:Addr}{i:Nat}{y:Str}{py:Pos}{Mo:Qkw}{A:Q9}{E:Value->Shared->Prop}{Q:Value->Shared->Prop}
  (I3:Inv X pins σ H3 s3)(f3:∀b∈fp,FpOk X pins H3 b)(J:Inv (blk X M scope (Qcf X.env scope.names []) fp s3 H3 s3.heap.objs.size) [] σ' H s')
  (hN:X.N.Nodup)(hi:X.N[i]? = some y)(hl:X.env.scope.names.lookup y=some .local)(hq:∀s2,Inv X pins (σ.set i (some (.ref D))) H s2->Q .none s2) :
  wpAny Mo A (assign (.Name y py) X.env (.ref D)) (λ_ s2=>∃m,s2.heap.Ns s3.heap.objs.size m/\∀h',ZH s3.heap.objs.size s2.heap h'->Q .none { s2 with heap:=h' }) E s':=by
 have J0:Inv X pins σ H s':=Qm6 I3 f3 J (Heap.SameBut.refl ..);obtain⟨m,hn,_⟩:=J.loc;have hC:H s3.heap.objs.size=none:=J.free;have lt:X.env.locals<s3.heap.objs.size:=I3.lt;refine Qxa (Qgm J0 hN hi (QF hl) (show RelV (.ref D) (.ref D) from rfl) (λs2 J2 ⟨a,sb,ha⟩=>?_) (.inr hl));have ea:a=X.env.locals∨X.env.cells.lookup y=some a:=ha;have na:s3.heap.objs.size≠a:=by
  rcases ea with z | z
  ·rw[z];exact Qci lt
  ·obtain⟨v,o,ho,_⟩:=I3.cell y a z;exact Qci (Qo ho)
 refine⟨m,hn.sameBut sb na,λh' hs=>hq _ ?_⟩;refine J2.turned (t':=s2.toks) (it:=s3.heap.objs.size) (λb o hb e=>hs.extBut b o hb e) hC (Qci lt) (.inr I3.sz) (λx c e z=>?_) λp hp z=>?_
 ·obtain⟨v,o,ho,_⟩:=I3.cell x c e;exact absurd (z ▸ Qo ho) (Zv _)
 ·have e:=(I3.pin p hp).1;exact absurd (z ▸ Qo e) (Zv _)
end
theorem Qlz{X:Cx}{M:List Str}{cap:List (Option Nat)}{elt tg iter tg2 iter2:QX}{ifs ifs2:List QX}{scope:Y4}{pos:Pos}{wi wi2:TI}{g g2:TG}{tc tc2:TT}{te:TE}{i:Nat}{y:Str}{py spos:Pos}(hN:X.N.Nodup)(hiy:X.N[i]? = some y)(hly:X.env.scope.names.lookup y=some .local)(hc:X.calm=true)(ok:QhO X.N X.env.scope M scope cap=true)
  (hi:PI X tg iter wi)(hb:∀cl ex s3 H3 C,PG (blk X M scope cl ex s3 H3 C) tg g/\PTs (blk X M scope cl ex s3 H3 C) ifs tc/\PI (blk X M scope cl ex s3 H3 C) tg2 iter2 wi2/\PG (blk X M scope cl ex s3 H3 C) tg2 g2/\PTs (blk X M scope cl ex s3 H3 C) ifs2 tc2/\PE (blk X M scope cl ex s3 H3 C) elt te)
  (hs:∀x,foldedSetIterable iter X.env x=pure x:=by intro _;rfl)(hs2:∀env x,foldedSetIterable iter2 env x=pure x:=by intro _ _;rfl)(hsw:swapsWith (.ListComp elt [⟨tg,iter,ifs,0⟩,⟨tg2,iter2,ifs2,0⟩] scope pos) (some (.Name y py)) spos.line X.env=pure true:=by rfl):PS X (.Assign [.Name y py] (.ListComp elt [⟨tg,iter,ifs,0⟩,⟨tg2,iter2,ifs2,0⟩] scope pos) spos) (Qfo (QpT cap wi g tc wi2 g2 tc2 te) (YN i)):=by
 intro pins s σ H D I h;have c:=CapOk.of ok;rw[exec_Assign_Name_used _ _ _ _ hsw];refine wpAny_bind (wpAny_standAt (wpAny_bind ?_));show wpAny _ X.A (do let _ <- comprehension (.ListComp elt [⟨tg,iter,ifs,0⟩,⟨tg2,iter2,ifs2,0⟩] scope pos) scope X.env _ (newList []) false (eval iter X.env) (some (assign (.Name y py) X.env))) _ _ s;refine wpAny_bind (wpAny_mono (Qnh (use:=some (assign (.Name y py) X.env)) (Q:=λ_ s'=>SP X pins D .next s') rfl hs (QmT (I.ok.cells c)) c.kind c.loc ?_) (λ_ s' hq=>Qf (Qf hq)) λ_ _ e=>e);refine thn (hi pins s σ H _ I h) λv s1 h1=>thn h1 λitv s2 h2=>?_
 obtain⟨it,fp,tn,J,H2,e,I2,T,st2,f2,hW⟩:=h2;subst e;refine Jy (Quk c.cell (by intro y hy;simp at hy) (λh₁ hns₁ hsb₁=>?_) c.kind);have I3:Inv X pins σ (upd H2 s2.heap.objs.size (.lst [])) { s2 with heap:=s2.heap.push { cls:=.type "list",data:=.seq ([]:List Value).toArray } }:=I2.lnew (t':=s2.toks) (ys:=[]) .nil (Je _);have lt2:∀b∈fp,b<s2.heap.objs.size:=λb hb=>by obtain⟨o,e,_⟩:=T.obj _ _ st2 b hb;exact Qo e
 have f3:∀b∈fp,FpOk X pins (upd H2 s2.heap.objs.size (.lst [])) b:=λb hb=>(f2 b hb).upd (Qx (lt2 b hb))
 generalize hs3:({ s2 with heap:=s2.heap.push { cls:=.type "list",data:=.seq ([]:List Value).toArray } }:Shared)=s3 at I3;have e3:s3.heap=s2.heap.push { cls:=.type "list",data:=.seq ([]:List Value).toArray }:=by rw[<- hs3]
 have z3:s3.heap.objs.size=s2.heap.objs.size+1:=by rw[e3,Z7]
 have hk:∀b o,s3.heap.get? b=some o->h₁.get? b=some o:=λb o e=>hsb₁.extBut b o (by
  have:=Qo e;rw[e3] at this;exact Qx this) (Qd _ (e3 ▸ e))
 have hn₁:h₁.Ns s3.heap.objs.size λ_=>none:=by rw[e3];exact hns₁
 have B:=QgZ (t4:=s3.toks+([]:List (Str×Value)).length) (fp:=fp) I3 c f3 (λb hb=>by rw[z3];exact QrF (lt2 b hb)) hn₁ hk;have st4:tn 0 h₁:=T.keep _ _ _ st2 λb hb o e=>hk b o (by rw[e3];exact Qd _ e)
 have fp4:∀b∈fp,FpOk (blk X M scope (Qcf X.env scope.names []) fp s3 (upd H2 s2.heap.objs.size (.lst [])) s3.heap.objs.size) [] (upd H2 s2.heap.objs.size (.lst [])) b:=λb hb=>by
  refine⟨(f3 b hb).1,(B.ok.exf b hb).1,B.ok.exfs b hb,.inl hb,(B.ok.exf b hb).2,λp hp=>(nomatch hp)⟩
 obtain⟨hg,ht,hi2,hg2,ht2,he⟩:=hb (Qcf X.env scope.names []) fp s3 (upd H2 s2.heap.objs.size (.lst [])) s3.heap.objs.size;have loop:codeAny (model X.prog X.w) X.A (.compLoop (.ListComp elt [⟨tg,iter,ifs,0⟩,⟨tg2,iter2,ifs2,0⟩] scope pos) 0 (.ref it) (.ref s2.heap.objs.size) (compEnvC scope (Qcf X.env scope.names []) s3.heap.objs.size X.env))
   (compPost (model X.prog X.w) X.A X.xe (some (assign (.Name y py) X.env)) (λ_ s'=>SP X pins D .next s') (.ref s2.heap.objs.size) s3.heap.objs.size) { s3 with heap:=h₁,toks:=s3.toks+([]:List (Str×Value)).length }:=by
  refine Qeb (Y:=blk X M scope (Qcf X.env scope.names []) fp s3 (upd H2 s2.heap.objs.size (.lst [])) s3.heap.objs.size) (gens:=[⟨tg,iter,ifs,0⟩,⟨tg2,iter2,ifs2,0⟩]) (d:=0) hc T st4 fp4
   (λQ E s h=>Qi6 (hs2 _) Q E s h) (λx u r=>QhP rfl hg ht (λσ4=>Qm5 rfl hc hi2 hg2 ht2 he) x u r) B (hW _ (I2.hok.fresh (Qh _))) λs' H' I' q=>?_
  exact Qew (Q:=λ_ s'=>SP X pins D .next s') I3 f3 I' hN hiy hly λs2' J2=>⟨_,H',J2,q⟩
 exact QpD loop (T.self _ 0 _ _ _ st4 loop)
end L2
namespace Rk
open L2 _root_.Rd
section
variable{X:Cx}
def Qzw(X:Cx):R2:=λx y H Q=>∃dx dy,Dat H x dx/\Dat H y dy/\X.A.units+min dx.depth dy.depth<cLine/\Q (.bl (!Jd dx dy)) H
theorem QvB:OpR X (compareOp .NotEq) (Qzw X):=by
 intro pins s σ H x y v u Q I rx ry h;obtain⟨dx,dy,qx,qy,hu,q⟩:=h;obtain⟨⟨as,ra⟩,ca⟩:=YL I.hok dx x v qx rx;obtain⟨⟨bs,rb⟩,cb⟩:=YL I.hok dy y u qy ry;exact SeqAt.compareNe_reads ra rb ca cb hu ⟨.bl _,H,I,rfl,q⟩
end
end Rk
namespace Rk
open L2
theorem QyB:bootBuiltins "ValueError" = some (.type "ValueError"):=by decide +kernel
def QkS:List QX->Option (List Str)
 |[]=>some []
 |.Constant (.str x) _ _::es=>(QkS es).map (x::·)
 |_::_=>none
theorem Qhy{X:Cx}:∀{es:List QX}{ws:List Str},QkS es=some ws->PA X es (λ_ H Q=>Q (ws.map V.str) H)
 |[],ws,h=>by cases h;exact pa_nil
 |e::es,ws,h=>by
  unfold QkS at h;split at h
  ·rename_i e2;cases e2
  ·rename_i e2
   cases e2;obtain⟨vs,hv,rfl⟩:=JH.mp h;exact Qhz (pa_c YY (Qhy hv)) λσ H Q q=>q
  ·cases h
def QtD(x:Str):List QX->Option (List Str)
 |[]=>some []
 |.Call (.Name f _) [.Name y _,.Name n _] [] _::es=>if f = "isinstance" /\ y=x then(QtD x es).map (n::·) else none
 |_::_=>none
def Qzp(K:PySem.W.Frag)(cs:List Addr):TA:=λσ H Q=>∃(a C:Addr)(bs:List Bool),σ[0]? = some (some (.ref a))/\H a=some (Rx.exO a C)/\Rx.ExC K C/\Zf (λc b=>PySem.W.kitOne K (.ref C) (.ref c)=some b) cs bs/\Q (bs.map V.bl) H
theorem QeS{X:Cx}{x:Str}(hN:X.N[0]? = some x)(hv:Vis X.env.scope x)(hd:(x == ("__debug__" : Str))=false)(hcd:(x == ("__classdict__" : Str))=false)(hg:Gl X "isinstance")(hm:X.mg "isinstance" = none) :
  ∀{es:List QX}{ns:List Str}{cs:List Addr},QtD x es=some ns->(ns.all λn=>(X.env.kindOf n == some .globalImplicit) && !(n == ("__debug__" : Str)))=true->Zf (λn c=>X.mg n=some (.ref c)) ns cs->PA X es (Qzp X.K cs)
 |[],ns,cs,h,_,p=>by
  cases h;cases p;exact Qhz pa_nil λσ H Q ⟨a,C,bs,_,_,_,pb,q⟩=>by cases pb;exact q
 |e::es,ns,cs,h,g,p=>by
  unfold QtD at h;split at h
  ·rename_i e2;cases e2
  ·rename_i f pf y py n pn pc es' e2
   cases e2;split at h
   ·rename_i hc
    obtain⟨rfl,rfl⟩:=hc;obtain⟨ns',hns,rfl⟩:=JH.mp h;cases p with
    |@cons _ c _ cs' p1 p2=>
    rw[QhY,JP,JP] at g;have g1:Gl X n:=beq_iff_eq.mp g.1.1;have g2:(n == ("__debug__" : Str))=false:=by
     have:=g.1.2;cases q:(n == ("__debug__" : Str)) with
     |false=>rfl
     |true=>rw[q] at this;cases this
    have one:PE X (.Call (.Name "isinstance" pf) [.Name y py,.Name n pn] [] pc) _:=pe_callB Rx.QgW hg hm JG (pa_c (Qp9 hN hv hd hcd) (pa_c (QlF (v:=.ref c) g1 p1 rfl g2) pa_nil rfl) rfl);refine Qhz (pa_c one (QeS hN hv hd hcd hg hm hns g.2 p2) rfl) λσ H Q ⟨a,C,bs,h0,ha,hc,pb,q⟩=>?_
    cases pb with
    |@cons _ b _ bs' q1 q2=>exact⟨_,h0,a,C,.ref c,.ref c,b,rfl,ha,hc,(λu r=>r),q1,a,C,bs',h0,ha,hc,q2,q⟩
   ·cases h
  ·cases h
def Qgj:List Str:=["text", "order", "lines", "few", "size", "many", "number", "stand", "cell", "square", "hits", "counts", "stairs", "alike", "parting", "place", "double", "deed", "row"]
def Qgp(K:PySem.W.Frag)(cs:List Addr):Sp:=λvs H Q _=>∃(a C:Addr)(bs:List Bool)(j:Nat)(wd:Str),vs=[.ref a]/\H a=some (Rx.exO a C)/\Rx.ExC K C/\Zf (λc b=>PySem.W.kitOne K (.ref C) (.ref c)=some b) cs bs/\PySem.W.kitOne K (.ref C) (.type "ValueError")=some true /\
 bs.countP id=1/\bs[j]? = some true/\(∀m,m<j->bs[m]? = some false)/\Qgj[j]? = some wd/\∀H',Same H H'->Q (.str wd) H'
theorem Jx{α β:Type}{F:α->β->Prop}{a:α}{l:List α}{bs:List β}(h:Zf F (a::l) bs):∃b bs',bs=b::bs'/\F a b/\Zf F l bs':=by
 cases h with
 |cons r t=>exact⟨_,_,rfl,r,t⟩
theorem Qjp{α β:Type}{F:α->β->Prop}{bs:List β}(h:Zf F [] bs):bs=[]:=by
 cases h;rfl
end Rk
namespace Rx
open PySem.Calls L2
section
variable{X:Cx}{E:XK}
theorem Qjo(hxe:∀e s1,wpAny (model X.prog X.w) X.A (leaving X.env e) (λ_ s2=>CXE X.prog X.w X.outer X.H₀ X.s₀ E e s2) (λe' s2=>CXE X.prog X.w X.outer X.H₀ X.s₀ E e' s2) s1->X.xe e s1)
  (hstk:X.stack=X.env::X.outer)(hfr:X.env.frame=some X.env.locals)(hex:X.ex=[]):QaT (CXE X.prog X.w) X E:=by
 intro pins σ H s e s' I h;obtain⟨C,H',⟨a,t,B,rfl,os,bare,fl,fa,fH,land⟩,q⟩:=h;refine hxe _ _ ?_
 have fl2:=fl;rw[hstk] at fl2;have fr:X.A.frames=some (X.env::X.outer):=by rw[<- hstk];exact I.ok.frames
 refine wpAny_leaves_onW fr hfr fl2 λh' fl' up=>⟨C,H',⟨a,t,B,rfl,os.trans I.os,bare,fl',?_,fH,λh2 st up2=>?_⟩,q⟩
 ·cases z:X.s₀.heap.get? a with
  |none=>rfl
  |some o=>
   obtain⟨o',e'⟩:=I.base.there a o z (by rw[hex];simp);rw[fa] at e';cases e'
 ·obtain⟨un,hok⟩:=land h2 st (up.trans up2);have J:=I.call' (s':={ s' with heap:=h2 }) (ch:=[]) os un hok bare (λb z=>absurd z (by simp));have hb:=J.base;rw[hex] at hb;exact⟨hb,hok⟩
end
section
variable{X:Cx}{tf:TE}{fe:QX}{pos:Pos}{e:QX}{es:List QX}{t:TA}{M:Addr->Sp->Prop}
end
end Rx
namespace Rk
open L2 _root_.Rd
structure GlbA (mg:Str->Option Value):Prop where
 isinstance:mg "isinstance" = none
 int:mg "int" = none
 bool:mg "bool" = none
 str:mg "str" = none
 tuple:mg "tuple" = none
 list:mg "list" = none
 all:mg "all" = none
 len:mg "len" = none
 zip:mg "zip" = none
 enumerate:mg "enumerate" = none
 range:mg "range" = none
 max:mg "max" = none
 min:mg "min" = none
 sorted:mg "sorted" = none
 sum:mg "sum" = none
 set:mg "set" = none
 any:mg "any" = none
 reversed:mg "reversed" = none
 divmod:mg "divmod" = none
structure KOk (K:PySem.W.Frag) (cs:List Addr) (R C:Addr) (wd:Str):Prop where
 by_:Rx.ByC K C R
 ex:∃(bs:List Bool)(j:Nat),Rx.ExC K C/\Zf (λc b=>PySem.W.kitOne K (.ref C) (.ref c)=some b) cs bs/\PySem.W.kitOne K (.ref C) (.type "ValueError")=some true/\bs.countP id=1/\bs[j]? = some true/\(∀m,m<j->bs[m]? = some false)/\Qgj[j]? = some wd
def QwW(u:Nat)(neg:Bool):R2:=λx y H Q=>∃c ps ds d,y=.ref c/\H c=some (.tup ps)/\Dats H ps ds/\Dat H x d/\u+d.depth<cLine/\Q (.bl (if neg then !(ds.any λe=>Jd e d) else ds.any λe=>Jd e d)) H
theorem QvC{X:Cx}:OpR X (compareOp .In) (QwW X.A.in1.units false):=QvD
end Rk
namespace Rx
open PySem.Calls L2
section
variable{P:Qw}{w:Ja}{K:PySem.W.Frag}{mg:Str->Option Value}{base:JR}
theorem okE{x qual:Str}{st:ZM}{f:Addr}{fd:Qq}{N ps:List Str}{k:Nat}{sp:Sp}(F:Fun K x qual st f fd)(S:Jc N ps (Qm st))(len:∀vs H Q E,sp vs H Q E->vs.length=ps.length)
  (hbody:∀(cdv:Value)(A:Q9)(outer:List Env)(s:Shared)(H:Hp)(vs:List V)(Q:VK)(E:XK),Room k (A.deeper (envOfC qual (Qm st) s.heap.objs.size f cdv))->sp vs H Q E ->
   ∃t,PSs (cxOf (CXE P w) P w K mg base N qual (Qm st) f cdv A outer s H E) (Q7 st) t/\t { nx:=λ_ H'=>Q .non H',rt:=Q } (start N vs) H):FnOk P w K mg base (CXE P w) (k+1) f fd ps sp:=by
 obtain⟨oc,od,kV,doc,pm,an,cdv,ct,osl,rfl,lk,hcd⟩:=F.ex;exact Qv0 lk hcd S len λA outer s H vs Q E hr hsp=>hbody cdv A outer s H vs Q E hr hsp
end
end Rx
namespace Rk
open L2 _root_.Rd
section
variable{X:Cx}{is js:List Nat}
end
theorem handled{K:PySem.W.Frag}{cs:List Addr}{R C:Addr}{wd:Str}(o:KOk K cs R C wd){H1:Hp}{Q:VK}{σ:L2.St}{i:Nat}(hi:i < σ.length)(k:∀H',Same H1 H'->Q (.str wd) H') :
  Rx.ByC K C R/\∀a,H1 a=none->(Z1 (Yy i) QbO) (σ.set i (some (.ref a))) (upd H1 a (Rx.exO a C)) λvs H2=>Qgp K cs vs H2 Q E0:=by
 refine⟨o.by_,λa ha=>?_⟩;obtain⟨bs,j,hx,pb,eV,hc,hj,hm,hw⟩:=o.ex;exact⟨_,Y6 hi,a,C,bs,j,wd,rfl,upd_same,hx,pb,eV,hc,hj,hm,hw,λH2 s2=>k H2 ((Jn ha).trans s2)⟩
end Rk
namespace L2
theorem Yz{h:JR}{a:Addr}{its:Array Value}(p:PlainL h a its):h.IsList a its:=by
 obtain⟨o,n,h1,h2,_,h3⟩:=p;exact⟨o,h1,h2,n,h3⟩
structure Qg5 (h:JR) (z TI TO i1 i2 t1 t2:Addr) (f:Value) (k:Nat):Prop where
 zp:QrJ h z TI TO f
 ti:IsPair h TI (.ref i1) (.ref i2)
 to:∃a b,IsPair h TO a b
 i1:h.IsListIter i1 t1 k
 i2:h.IsListIter i2 t2 k
section
variable{prog:Qw}{w:Ja}{A:Q9}{E:Value->Shared->Prop}{s:Shared}
theorem QkA{z TI TO i1 i2 t1 t2:Addr}{k:Nat}{xs ys:Array Value}{x y:Value}{Q:Option Value->Shared->Prop}(D:QwH z TI TO i1 i2 t1 t2)(Z:Qg5 s.heap z TI TO i1 i2 t1 t2 .none k)
  (hl1:s.heap.IsList t1 xs)(hl2:s.heap.IsList t2 ys)(hx:xs[k]? = some x)(hy:ys[k]? = some y)
  (hQ:∀h',Qg5 h' z TI TO i1 i2 t1 t2 (rawInt s.heap.objs.size) (k+1)->IsPair h' s.heap.objs.size x y->(∀c o,c≠z->c≠TO->c≠i1->c≠i2->s.heap.get? c=some o->h'.get? c=some o)->Q (some (.ref s.heap.objs.size)) { s with heap:=h' }) :
  wpAny (model prog w) A (pyNext (.ref z)) Q E s:=by
 obtain⟨hz,hTI,⟨a,b,hTO⟩,h1,h2⟩:=Z;exact wpAny_pyNext_zip_item D hz hTI hTO h1 h2 hl1 hl2 hx hy λh' a1 a2 a3 a4 a5 a6 a7=>hQ h' ⟨a1,a7 _ _ D.TIz D.TITO D.TIi1 D.TIi2 hTI,⟨x,y,a2⟩,a3,a4⟩ a5 a7
theorem Qnz{z TI TO i1 i2 t1 t2:Addr}{k:Nat}{xs ys:Array Value}{Q:Option Value->Shared->Prop}(hh:A.handled=none)(D:QwH z TI TO i1 i2 t1 t2)(Z:Qg5 s.heap z TI TO i1 i2 t1 t2 .none k)
  (hl1:s.heap.IsList t1 xs)(hl2:s.heap.IsList t2 ys)(hend:xs[k]? = none∨ys[k]? = none)
  (hQ:∀h',(∀c o,c≠z->c≠TO->c≠i1->c≠i2->s.heap.get? c=some o->h'.get? c=some o)->Q none { s with heap:=h' }):wpAny (model prog w) A (pyNext (.ref z)) Q E s:=by
 obtain⟨hz,hTI,⟨a,b,hTO⟩,h1,h2⟩:=Z;exact wpAny_pyNext_zip_end hh D hz hTI hTO h1 h2 hl1 hl2 hend hQ
theorem QkB{t1 t2:Addr}{xs ys:Array Value}{Q:Value->Shared->Prop}(hl1:s.heap.IsList t1 xs)(hl2:s.heap.IsList t2 ys)
  (h:∀h',Qg5 h' (s.heap.objs.size+4) (s.heap.objs.size+2) (s.heap.objs.size+3) s.heap.objs.size (s.heap.objs.size+1) t1 t2 .none 0->(∀c o,s.heap.get? c=some o->h'.get? c=some o)->Q (.ref (s.heap.objs.size+4)) { s with heap:=h' }) :
  wpAny (model prog w) A (call (.type "zip") [.ref t1,.ref t2]) Q E s:=
 call_zip_2 hl1 hl2 λh' a1 a2 a3 a4 a5 a6 a7=>h h' ⟨a1,a2,⟨_,_,a3⟩,a4,a5⟩ a7
end
def Qzi(t1 t2:Addr):It:=
 ⟨λi H=>∃xs ys x y,H t1=some (.lst xs)/\H t2=some (.lst ys)/\xs[i]? = some x/\ys[i]? = some y,
  λi H v H'=>∃p x y,H p=none/\(∀xs,H t1=some (.lst xs)->xs[i]? = some x)/\(∀ys,H t2=some (.lst ys)->ys[i]? = some y)/\v=.ref p/\H'=upd H p (.tup [x,y]),
  λi H=>∃xs ys,H t1=some (.lst xs)/\H t2=some (.lst ys)/\(xs.length<=i∨ys.length<=i)⟩
theorem QkE{P:Qw}{w:Ja}{K:PySem.W.Frag}{elts:List QX}{x1}{tpos:Pos}{z TI TO i1 i2 t1 t2:Addr}(D:QwH z TI TO i1 i2 t1 t2) :
  Turn P w K (.Tuple elts x1 tpos) (Qzi t1 t2) [z,TI,TO,i1,i2] z (λi h=>Qg5 h z TI TO i1 i2 t1 t2 .none i) where
 mem:=by simp
 obj:=λi h st b hb=>by
  obtain⟨a1,a2,⟨_,_,a3⟩,⟨o4,a4,_,d4⟩,⟨o5,a5,_,d5⟩⟩:=st;simp only[Qz,Jb,or_false] at hb;rcases hb with rfl | rfl | rfl | rfl | rfl
  ·exact⟨_,a1,λv q=>nomatch q⟩
  ·exact⟨_,a2,λv q=>nomatch q⟩
  ·exact⟨_,a3,λv q=>nomatch q⟩
  ·exact⟨_,a4,λv q=>by rw[d4] at q;cases q⟩
  ·exact⟨_,a5,λv q=>by rw[d5] at q;cases q⟩
 keep:=λi h h' st k=>by
  obtain⟨a1,a2,⟨a,b,a3⟩,a4,a5⟩:=st;exact⟨k z (by simp) _ a1,k TI (by simp) _ a2,⟨a,b,k TO (by simp) _ a3⟩,a4.at λo e=>k i1 (by simp) o e,a5.at λo e=>k i2 (by simp) o e⟩
 item:=by
  intro X hP hw hK hc i pins s σ H E I hf st hg;subst hP hw hK;obtain⟨xs,ys,x,y,h1,h2,hx,hy⟩:=hg;obtain⟨its1,r1,p1,_⟩:=I.list (SqL.of h1);obtain⟨its2,r2,p2,_⟩:=I.list (SqL.of h2);obtain⟨u1,hu1,ru1⟩:=r1.get hx;obtain⟨u2,hu2,ru2⟩:=r2.get hy;refine QkA D st (Yz p1) (Yz p2) (by simpa using hu1) (by simpa using hu2) λh' st' tp kp=>?_
  have hlt:∀b∈[z,TI,TO,i1,i2],b≠s.heap.objs.size:=λb hb=>by
   obtain⟨a1,a2,⟨_,_,a3⟩,⟨o4,a4,_,d4⟩,⟨o5,a5,_,d5⟩⟩:=st;simp only[Qz,Jb,or_false] at hb;rcases hb with rfl | rfl | rfl | rfl | rfl
   ·exact Qx (Qo a1)
   ·exact Qx (Qo a2)
   ·exact Qx (Qo a3)
   ·exact Qx (Qo a4)
   ·exact Qx (Qo a5)
  have fr:H s.heap.objs.size=none:=I.hok.fresh (Qh _);refine⟨_,rfl,Qkn st'.zp λh2' z2 s2=>?_⟩;have I1:Inv X pins σ (upd H s.heap.objs.size (.tup [x,y])) { s with heap:=h2',toks:=s.toks }:=by
   refine I.turnedNew (ch:=[z,TI,TO,i1,i2]) hf (λb u hb e=>?_) (Qh _) ⟨by show 2<=sizeLine;decide,[u1,u2],.cons ru1 (.cons ru2 .nil),?_⟩
   ·simp only[Qz,Jb,or_false,not_or] at hb;exact s2.extBut _ _ hb.1 (kp b u hb.1 hb.2.2.1 hb.2.2.2.1 hb.2.2.2.2 e)
   ·exact⟨_,s2.extBut _ _ (hlt z (by simp)).symm tp,rfl,rfl,0,rfl⟩
  refine⟨.ref s.heap.objs.size,_,I1,rfl,⟨_,x,y,fr,λxs' e=>?_,λys' e=>?_,rfl,rfl⟩,?_,λb hb=>?_⟩
  ·rw[h1] at e;cases e;exact hx
  ·rw[h2] at e;cases e;exact hy
  ·obtain⟨a1,a2,⟨a,b,a3⟩,a4,a5⟩:=st';exact⟨z2,s2.extBut _ _ D.TIz a2,⟨a,b,s2.extBut _ _ D.TOz a3⟩,a4.extBut s2.extBut D.i1z,a5.extBut s2.extBut D.i2z⟩
  ·rw[QU (hlt b hb)];exact(hf b hb).1
 done:=by
  intro X hP hw hK hc i pins s σ H E I hf st hg;subst hP hw hK;obtain⟨xs,ys,h1,h2,he⟩:=hg;obtain⟨its1,r1,p1,_⟩:=I.list (SqL.of h1);obtain⟨its2,r2,p2,_⟩:=I.list (SqL.of h2);have l1:=r1.length;have l2:=r2.length;refine Qnz (I.ok.hd hc) D st (Yz p1) (Yz p2) ?_ λh' kp=>⟨rfl,I.turnedAll (t':=s.toks) (ch:=[z,TI,TO,i1,i2]) hf λb u hb e=>?_⟩
  ·rcases he with q | q
   ·exact .inl (by simp;omega)
   ·exact .inr (by simp;omega)
  ·simp only[Qz,Jb,or_false,not_or] at hb;exact kp b u hb.1 hb.2.2.1 hb.2.2.2.1 hb.2.2.2.2 e
 self:=λ_ _ _ _ _ st h=>QcD st.zp h
section
variable{X:Cx}
theorem Qj8(n t1 t2:Nat)(h1:t1<n)(h2:t2<n):QwH (n+4) (n+2) (n+3) n (n+1) t1 t2 where
 TIz:=by show ¬(n+2=n+4);omega
 TOz:=by show ¬(n+3=n+4);omega
 i1z:=by show ¬(n=n+4);omega
 i2z:=by show ¬(n+1=n+4);omega
 TITO:=by show ¬(n+2=n+3);omega
 TIi1:=by show ¬(n+2=n);omega
 TIi2:=by show ¬(n+2=n+1);omega
 TOi1:=by show ¬(n+3=n);omega
 TOi2:=by show ¬(n+3=n+1);omega
 i12:=by show ¬(n=n+1);omega
 l1z:=by show ¬(t1=n+4);omega
 l1TO:=by show ¬(t1=n+3);omega
 l1i1:=by show ¬(t1=n);omega
 l1i2:=by show ¬(t1=n+1);omega
 l2z:=by show ¬(t2=n+4);omega
 l2TO:=by show ¬(t2=n+3);omega
 l2i1:=by show ¬(t2=n);omega
 l2i2:=by show ¬(t2=n+1);omega
def Qym(ta:TA):TI:=λσ H R=>ta σ H λvs H1=>∃t1 t2 xs ys,vs=[.ref t1,.ref t2]/\H1 t1=some (.lst xs)/\H1 t2=some (.lst ys)/\R (Qzi t1 t2) H1
theorem Qm2:bootBuiltins "zip" = some (.type "zip"):=by decide +kernel
theorem QsA{a b:QX}{elts:List QX}{x1}{tpos:Pos}{ta:TA}{p pos:Pos}(hg:Gl X "zip")(hm:X.mg "zip" = none)(ha:PA X [a,b] ta)(hs:starEach [a,b] X.env=[(false,eval a X.env),(false,eval b X.env)]:=by rfl)(hs2:starEach [b] X.env=[(false,eval b X.env)]:=by rfl) :
  PI X (.Tuple elts x1 tpos) (.Call (.Name "zip" p) [a,b] [] pos) (Qym ta):=by
 intro pins s σ H R I h;refine Call_ (Qcu I hg hm Qm2 (JJ (thn (ha pos pins s σ H _ I h) λus s1 ⟨vs,H1,I1,r1,q1⟩=>?_) (by rw[hs,hs2]) (by rw[hs2];rfl)));obtain⟨t1,t2,xs,ys,e,h1,h2,q⟩:=q1;subst e;obtain⟨u,v,rfl,ru,rv⟩:=vals2 r1;cases(show u=QQ t1 from ru);cases(show v=QQ t2 from rv);obtain⟨its1,w1,p1,_⟩:=I1.list (SqL.of h1);obtain⟨its2,w2,p2,_⟩:=I1.list (SqL.of h2);have n1:t1<s1.heap.objs.size:=I1.hok.lt h1;have n2:t2<s1.heap.objs.size:=I1.hok.lt h2;refine QkB (Yz p1) (Yz p2) λh' st kp=>?_
 refine QcD (s:={ s1 with heap:=h' }) st.zp ?_
 have D:=Qj8 s1.heap.objs.size t1 t2 n1 n2;refine⟨s1.heap.objs.size+4,_,_,_,H1,rfl,I1.kept (t':=s1.toks) kp,QkE D,st,λb hb=>?_,q⟩;have hb':s1.heap.objs.size<=b:=by
  simp only[Qz,Jb,or_false] at hb;rcases hb with rfl | rfl | rfl | rfl | rfl<;>omega
 exact I1.fpOk hb' (I1.hok.fresh hb')
end
def Qu3(K:PySem.W.Frag):List V->Hp->VK->Prop:=λxs H Q=>∃p ys,xs=[.ref p]/\(SqL K H p ys∨SqT K H p ys)/\Q (.int ys.length) H
def Qu4:List V->Hp->VK->Prop:=λxs H Q=>(∃i,xs=[.int i]/\Q (.int i) H)∨∃k,xs=[.bl k]/\Q (.int (if k then 1 else 0)) H
theorem QcA:bootBuiltins "sorted" = some (.builtin "sorted"):=by decide +kernel
def CMulB(i j:Int):Prop:=∃k:Nat,k<=1000000/\i.natAbs<2^k/\j.natAbs<2^k
theorem Qm7{i:Int}{k:Nat}(h:i.natAbs<2^k):Zd i<=k:=by
 unfold Zd;split
 ·exact Je _
 ·rename_i z
  have hz:i.natAbs≠0:=by
   intro q;apply z
   have:i=0:=by omega
   subst this;rfl
  have:=(Nat.log2_lt hz).mpr h;omega
theorem CMulB.ok{i j:Int}(h:CMulB i j):IntMulOk i j:=by
 obtain⟨k,hk,h1,h2⟩:=h;have a:=Qm7 h1;have b:=Qm7 h2;unfold IntMulOk;have c:Qfj (Zd i+Zd j:Nat)=false:=by
  unfold Qfj;rw[decide_eq_false];have:bitsLine=134217728:=by decide +kernel
  rw[this];omega
 intro z;rw[JP] at z;have z2:=z.2;have e:((Zd i+Zd j:Nat):Int)=(Zd i:Int)+(Zd j:Int):=by omega
 rw[e] at c;rw[c] at z2;cases z2
section
variable{X:Cx}
theorem Qs5:OpR X (binaryOp .Mult) (rI CMulB λi j=>.int (i*j)):=opI λ_ _ _ _ _ _ _ hc q=>mul_int q hc.ok
theorem Qo8:Qzg X (Qp3 X.K):=by
 intro pins s σ H o i ov iv Q I ro ri h;obtain⟨p,xs,k,z,rfl,rfl,hq,he,q⟩:=h;cases ro;obtain⟨t,rfl⟩:=ri;obtain⟨its,r,pl,hz⟩:=I.list hq;obtain⟨j,h1,h2,h3,h4,h5⟩:=QhR he;obtain⟨w,ew,rw'⟩:=r.get h2;have hl:=r.length;have hn:=QeY;have fin:EP X pins σ Q w s:=⟨z,H,I,rw',q⟩;by_cases h0:0<=k
 ·have hj:k.toNat=j:=by
   rw[QiS h0 h5] at h1;exact QB h1
  exact wpAny_getItem_list pl.isList h0 (by omega) (by rw[hj];simpa using ew) fin
 ·have hj:(k+(its.toArray.size:Int)).toNat=j:=by
   rw[Qg7 (by omega) h4] at h1;rw[Qk,<- hl];exact QB h1
  exact QpB pl.isList (by omega) (by rw[Qk]<;>omega) (by omega) (by rw[hj];simpa using ew) fin
def iOr(a b:TI):TI:=λσ H R=>a σ H R∨b σ H R
theorem Qx2{tg e:QX}{a b:TI}(h1:PI X tg e a)(h2:PI X tg e b):PI X tg e (iOr a b):=by
 intro pins s σ H R I h;rcases h with h | h
 ·exact h1 pins s σ H R I h
 ·exact h2 pins s σ H R I h
end
end L2
namespace Rk
open L2 _root_.Rd
def QyT(u:Nat):R2:=λx y H Q=>∃dx dy,Dat H x dx/\Dat H y dy/\u+min dx.depth dy.depth<cLine/\Q (.bl (!Jd dx dy)) H
theorem QvA{X:Cx}:OpR X (compareOp .NotEq) (QyT X.A.units):=QvB
def QyX(u:Nat):R2:=λx y H Q=>∃dx dy,Dat H x dx/\Dat H y dy/\u+min dx.depth dy.depth<cLine/\Q (.bl (Jd dx dy)) H
theorem QvE{X:Cx}:OpR X (compareOp .Eq) (QyX X.A.units):=QlW
theorem QlR{X:Cx}:OpR X (compareOp .NotIn) (QwW X.A.in1.units true):=QlS
def Qb7:Nat->Qc->Bool
 |_,.none=>true
 |_,.bool _=>true
 |_,.int _=>true
 |_,.str _=>true
 |n+1,.tuple ds=>decide (ds.length<=1000)&&ds.all (Qb7 n)
 |n+1,.list ds=>decide (ds.length<=1000)&&ds.all (Qb7 n)
 |_,_=>false
def Qht:Nat->Sp
 |0=>λ_ _ _ _=>False
 |n+1=>λvs H Q _=>∃x y d,vs=[x,y]/\Dat H x d/\Dat H y d/\Qb7 n d=true/\∀H',Same H H'->Q (.bl true) H'
end Rk
namespace Rx
open PySem.Calls L2
end Rx
namespace Rk
open L2 _root_.Rd
theorem QhF{n k:Nat}(h:k<n):ixN n (k:Nat)=some k:=by
 unfold ixN;rw[if_pos (by omega),if_pos (by omega)];simp
end Rk
namespace HT
section
open PySem.SeqAt
open PySem.AutoSeq1 (wpAny_loadPart')
open PySem.MeetsSeq PySem.MeetsSeq2 PySem.MeetsSeq3
end
section
variable{prog:Qw}{w:Ja}{A:Q9}{E:Value->Shared->Prop}{s:Shared}
end
end HT
namespace L2
def QuZ(K:PySem.W.Frag):V->Option Int->Option Int->Hp->VK->Prop:=λx lo hi H Q=>∃a xs,x=.ref a/\SqL K H a xs/\∀p H',Same H H'->H p=none->H' p=some (.lst (QiH xs lo hi))->Q (.ref p) H'
theorem QnL{X:Cx}:SlR X (QuZ X.K):=by
 intro pins s σ H x v vl vu lo hi sl Q I rx hs pl pu h;obtain⟨a,xs,e,hx,q⟩:=h;exact Qr3 pins s σ H x v vl vu lo hi sl Q I rx hs pl pu ⟨a,xs,e,hx,λp hp=>q p _ (Jn hp) hp upd_same⟩
theorem cut_last(xs:List V):(QiH xs (some (-1)) none).length<=1:=by
 unfold QiH;rw[Qas,QeB];have h2:xs.length - 1<=HT.sIx xs.length 0 (some (-1)):=by
  show xs.length - 1<=(if(-1:Int)<0 then((-1:Int)+(xs.length:Int)).toNat else min (-1:Int).toNat xs.length);rw[if_pos (by decide)];omega
 omega
end L2
namespace Rk
open L2 _root_.Rd
end Rk
namespace L2
section
variable{X:Cx}
def QfE(K:PySem.W.Frag):List V->Hp->VK->Prop:=λxs H Q=>∃p ys,xs=[.ref p]/\((SqL K H p ys/\∀l H',Same H H'->H l=none->H' l=some (.tup ys)->Q (.ref l) H')∨(SqT K H p ys/\Q (.ref p) H))
theorem JD:CallR X (.type "tuple") (QfE X.K):=by
 intro pins s σ H xs us Q I r h;obtain⟨p,ys,e,h⟩:=h;refine Qf5 pins s σ H xs us Q I r ⟨p,ys,e,?_⟩;rcases h with⟨h1,h2⟩ | h
 ·exact .inl ⟨h1,λl hl=>h2 l _ (Jn hl) hl upd_same⟩
 ·exact .inr h
def Qlk(K:PySem.W.Frag):List V->Hp->VK->Prop:=λxs H Q=>∃p ys,xs=[.ref p]/\(SqL K H p ys∨SqT K H p ys)/\∀l H',Same H H'->H l=none->H' l=some (.lst ys)->Q (.ref l) H'
theorem Qa5:CallR X (.type "list") (Qlk X.K):=by
 intro pins s σ H xs us Q I r h;obtain⟨p,ys,e,h1,h2⟩:=h;exact QgV pins s σ H xs us Q I r ⟨p,ys,e,h1,λl hl=>h2 l _ (Jn hl) hl upd_same⟩
def Qsh:R2:=λx y H Q=>∃l k xs,x=.ref l/\y=.int k/\H l=some (.lst xs) /\ -(2^63)<=k/\k<2^63/\xs.length*k.toNat<=1000000/\∀p H',Same H H'->H p=none->H' p=some (.lst (QZ k.toNat xs).flatten)->Q (.ref p) H'
theorem op_repW:OpR X (binaryOp .Mult) Qsh:=by
 intro pins s σ H x y v u Q I rx ry h;obtain⟨l,k,xs,e1,e2,h1,h2,h3,h4,q⟩:=h;exact Qrd pins s σ H x y v u Q I rx ry ⟨l,k,xs,e1,e2,h1,h2,h3,QL h4 (by decide),λp hp=>q p _ (Jn hp) hp upd_same⟩
end
end L2
namespace Rk
open L2 _root_.Rd
end Rk
namespace L2
section
variable{X:Cx}
end
section
variable{X:Cx}
end
end L2
namespace Rk
open L2 _root_.Rd
end Rk
namespace Rx
open PySem.Calls L2
abbrev TSX:=L2.Ends->L2.St->Hp->(Addr->Hp->Prop)->Prop
def PSX(X:Cx)(st:ZM)(t:TSX):Prop:=∀(pins:List (Addr×Obj))(s:Shared)(σ:L2.St)(H:Hp)(D:L2.Ends)(Ex:Addr->Hp->Prop),Inv X pins σ H s->t D σ H Ex ->
 wpAny (model X.prog X.w) X.A (exec st X.env) (SP X pins D) (XP X pins λσ1 C H1=>σ1=σ/\Ex C H1) s
def Quh(X:Cx)(sts:List ZM)(t:TSX):Prop:=∀(pins:List (Addr×Obj))(s:Shared)(σ:L2.St)(H:Hp)(D:L2.Ends)(Ex:Addr->Hp->Prop),Inv X pins σ H s->t D σ H Ex ->
 wpAny (model X.prog X.w) X.A (execs sts X.env) (SP X pins D) (XP X pins λσ1 C H1=>σ1=σ/\Ex C H1) s
section
variable{X:Cx}{e:QX}{st:ZM}{pos:Pos}{te:TX}{t u:TSX}{tc:TT}{c:QX}{a b:List ZM}
theorem QeP(hc:PT X.nox c tc)(ha:Quh X a t)(hb:Quh X b u):PSX X (.If c a b pos) (λD σ H Ex=>tc σ H λd H1=>if d=true then t D σ H1 Ex else u D σ H1 Ex):=by
 intro pins s σ H D Ex I h;refine wpAny_If (wpAny_mono (hc pins s σ H _ (I.wish _) h) (λd s1 ⟨H1,J1,q1⟩=>?_) λ_ _ z=>Jj z);have I1:Inv X pins σ H1 s1:=J1.unwish;cases d with
 |true=>exact ha pins s1 σ H1 D Ex I1 q1
 |false=>exact hb pins s1 σ H1 D Ex I1 q1
theorem Qa3(h1:PSX X st t):Quh X [st] t:=by
 intro pins s σ H D Ex I h;refine QaI (thn (h1 pins s σ H D Ex I h) λf s1 q=>?_);cases f with
 |next=>exact Qaa q
 |ret v=>exact q
 |brk=>exact q
 |cont=>exact q
end
def QxK(K:PySem.W.Frag)(R:Addr)(i:Nat)(tb:TSX)(th:TE):TS:=λD σ H=>tb D σ H λC H1=>ByC K C R/\∀a,H1 a=none->th (σ.set i (some (.ref a))) (upd H1 a (exO a C)) D.rt
section
variable{X:Cx}{R:Addr}{i:Nat}{n r:Str}{body:List ZM}{hx:QX}{tb:TSX}{th:TE}{np hp hpos pos:Pos}
theorem Qsv(hstk:X.stack=X.env::X.outer)(hfr:X.env.frame=some X.env.locals)(hc:Quh X body tb)(hN:X.N.Nodup)(hi:X.N[i]? = some n)(hl:X.env.scope.names.lookup n=some .local)
  (hg:Gl X r)(hm:X.mg r=some (.ref R))(hh:∀e,PE (mkd X e) hx th)(hd:(r == ("__debug__" : Str))=false:=by decide) :
  PS X (.Try body [.ExceptHandler (some (.Name r np)) (some n) [.Return (some hx) hp] hpos] [] [] pos) (QxK X.K R i tb th):=by
 intro pins s σ H D I h;refine wpAny_Try_except (wpAny_mono (hc pins s σ H D _ I h) (λf s1 q=>?_) λe s1 z=>?_)
 ·cases f with
  |next=>exact Qaa q
  |ret v=>exact q
  |brk=>exact q
  |cont=>exact q
 obtain⟨σ1,C,H1,a,t,B,rfl,fl,fH,f0,fp,land,eσ,bc,q⟩:=z;subst eσ;rw[hstk] at fl;have fr:X.A.frames=some (X.env::X.outer):=by rw[<- hstk];exact I.ok.frames
 refine wpAny_looks_onW fr hfr fl λh4 held4 up4=>?_
 refine wpAny_landsW held4 λh5 fl5 up5=>?_
 have I5:L2.Inv X pins σ1 H1 { s1 with heap:=h5 }:=land h5 s1.toks fl5.1 (up4.trans up5);have x5:ExAt a C h5:=by
  obtain⟨oe,vs,e1,e2,e3,_⟩:=fl5.first
  exact⟨oe,vs,e1,e2,e3⟩
 refine wpAny_handleBy_cons (codeAny_handlers_test (QcW (X:=mkd X (.ref a)) (Qmt I5 _) hg hm ?_ hd)) (by intro q;cases q);refine Qjv (s:={ s1 with heap:=h5 }) I5.kIn x5 bc ?_
 refine codeAny_handlers_suite_as ?_
 refine lands_againW fl5 λh6 fl6 up6=>?_
 have I6:L2.Inv X pins σ1 H1 { s1 with heap:=h6 }:=land h6 s1.toks fl6.1 ((up4.trans up5).trans up6);have x6:ExAt a C h6:=by
  obtain⟨oe,vs,e1,e2,e3,_⟩:=fl6.first
  exact⟨oe,vs,e1,e2,e3⟩
 have I7:=Qms I6 fH f0 fp x6;refine Qcm I7 hN hi (QF hl) (show RelV (.ref a) (.ref a) from rfl) (λs8 I8=>?_) (.inr hl);refine QaI (Qge (wpAny_mono (hh (.ref a) pins s8 _ _ _ (Qmt I8 _) (q a fH)) (λv s9 ⟨x,H9,I9,r9,q9⟩=>?_) λ_ _ z=>z.elim));have J9:L2.Inv X pins _ H9 s9:=QoZ I.ok I9;obtain⟨m,hn,hmm⟩:=id J9.loc;refine wpAny_nameGoes_keeps hl hn (by rw[I.ok.kind];rfl) λh' v' hn' hs'=>?_
 exact⟨x,_,H9,Qo0 J9 hN hi hmm hn' hs',r9,q9⟩
end
end Rx
namespace L2
section
variable{X:Cx}
end
end L2
namespace Rk
open L2 _root_.Rd
def isLV(H:Hp):V->Bool
 |.ref a=>match H a with
  |some (.lst _)=>true
  |_=>false
 |_=>false
end Rk
namespace Dl
open L2 _root_.Rd Rk
def dkV(kvs:List (Int×Int)):List (Key×V):=kvs.map λp=>(JS p.1,V.int p.2)
def dkD(kvs:List (Int×Int)):List (Qc×Qc):=kvs.map λp=>(QD p.1,QD p.2)
mutual
inductive DA (A:Addr->Prop) (H:Hp):V->Qc->Prop
 |non:DA A H .non .none
 |bl (b:Bool):DA A H (.bl b) (.bool b)
 |int (i:Int):DA A H (.int i) (.int i)
 |str (x:Str):JO (.str x)=true->DA A H (.str x) (.str x)
 |tup {a:Addr} {xs:List V} {ds:List Qc}:¬A a->H a=some (.tup xs)->DAs A H xs ds->DA A H (.ref a) (.tuple ds)
 |lst {a:Addr} {xs:List V} {ds:List Qc}:¬A a->H a=some (.lst xs)->DAs A H xs ds->DA A H (.ref a) (.list ds)
 |dct {a:Addr} {kvs:List (Int×Int)} {ds:List (Qc×Qc)}:¬A a->H a=some (.dK (dkV kvs))->ds=dkD kvs->DA A H (.ref a) (.dict ds)
inductive DAs (A:Addr->Prop) (H:Hp):List V->List Qc->Prop
 |nil:DAs A H [] []
 |cons {x:V} {xs:List V} {d:Qc} {ds:List Qc}:DA A H x d->DAs A H xs ds->DAs A H (x::xs) (d::ds)
end
mutual
theorem Qwd{A A':Addr->Prop}{H H':Hp}(k:∀a o,¬A a->H a=some o->H' a=some o)(m:∀a,A' a->A a∨H a=none):∀(d:Qc)(x:V),DA A H x d->DA A' H' x d
 |.none,_,.non=>.non
 |.bool _,_,.bl _=>.bl _
 |.int _,_,.int _=>.int _
 |.str _,_,.str _ c=>.str _ c
 |.tuple ds,_,.tup (xs:=xs) n e q=>.tup (λz=>(m _ z).elim n λz=>by rw[z] at e;cases e) (k _ _ n e) (QiE k m ds xs q)
 |.list ds,_,.lst (xs:=xs) n e q=>.lst (λz=>(m _ z).elim n λz=>by rw[z] at e;cases e) (k _ _ n e) (QiE k m ds xs q)
 |.dict _,_,.dct n e q=>.dct (λz=>(m _ z).elim n λz=>by rw[z] at e;cases e) (k _ _ n e) q
theorem QiE{A A':Addr->Prop}{H H':Hp}(k:∀a o,¬A a->H a=some o->H' a=some o)(m:∀a,A' a->A a∨H a=none):∀(ds:List Qc)(xs:List V),DAs A H xs ds->DAs A' H' xs ds
 |[],_,.nil=>.nil
 |d::ds,_,.cons (x:=x) (xs:=xs) q qs=>.cons (Qwd k m d x q) (QiE k m ds xs qs)
end
theorem DA.mv{A A':Addr->Prop}{H H':Hp}{x:V}{d:Qc}(q:DA A H x d)(k:∀a o,¬A a->H a=some o->H' a=some o)(m:∀a,A' a->A a∨H a=none):DA A' H' x d:=Qwd k m d x q
theorem DAs.mv{A A':Addr->Prop}{H H':Hp}{x:List V}{d:List Qc}(q:DAs A H x d)(k:∀a o,¬A a->H a=some o->H' a=some o)(m:∀a,A' a->A a∨H a=none):DAs A' H' x d:=QiE k m d x q
theorem DA.same{A:Addr->Prop}{H H':Hp}{x:V}{d:Qc}(q:DA A H x d)(s:Same H H'):DA A H' x d:=q.mv (λa o _ e=>s a o e) λa z=>.inl z
theorem DAs.same{A:Addr->Prop}{H H':Hp}{x:List V}{d:List Qc}(q:DAs A H x d)(s:Same H H'):DAs A H' x d:=q.mv (λa o _ e=>s a o e) λa z=>.inl z
theorem DAs.length{A:Addr->Prop}{H:Hp}:∀{xs:List V}{ds:List Qc},DAs A H xs ds->xs.length=ds.length
 |_,_,.nil=>rfl
 |_,_,.cons _ q=>by rw[QV,QV,q.length]
theorem DAs.get{A:Addr->Prop}{H:Hp}:∀{xs:List V}{ds:List Qc},DAs A H xs ds->∀(i:Nat)(d:Qc),ds[i]? = some d->∃x,xs[i]? = some x/\DA A H x d
 |_,_,.nil,i,x,e=>by simp at e
 |_,_,.cons q qs,0,x,e=>by simp at e;subst e;exact⟨_,rfl,q⟩
 |_,_,.cons q qs,i+1,x,e=>qs.get i x (by simpa using e)
theorem DAs.app{A:Addr->Prop}{H:Hp}:∀{xs ys:List V}{ds es:List Qc},DAs A H xs ds->DAs A H ys es->DAs A H (xs++ys) (ds++es)
 |_,_,_,_,.nil,q=>q
 |_,_,_,_,.cons a b,q=>.cons a (b.app q)
theorem DAs.take{A:Addr->Prop}{H:Hp}:∀{xs:List V}{ds:List Qc},DAs A H xs ds->∀n:Nat,DAs A H (xs.take n) (ds.take n)
 |_,_,.nil,n=>by rw[QwL,QwL];exact .nil
 |_,_,.cons a b,0=>.nil
 |_,_,.cons a b,n+1=>.cons a (b.take n)
theorem DAs.drop{A:Addr->Prop}{H:Hp}:∀{xs:List V}{ds:List Qc},DAs A H xs ds->∀n:Nat,DAs A H (xs.drop n) (ds.drop n)
 |_,_,.nil,n=>by rw[QwN,QwN];exact .nil
 |_,_,.cons a b,0=>.cons a b
 |_,_,.cons a b,n+1=>b.drop n
theorem DAs.set{A:Addr->Prop}{H:Hp}{x:V}{d:Qc}(q:DA A H x d):∀{xs:List V}{ds:List Qc},DAs A H xs ds->∀n:Nat,DAs A H (xs.set n x) (ds.set n d)
 |_,_,.nil,n=>.nil
 |_,_,.cons a b,0=>.cons q b
 |_,_,.cons a b,n+1=>.cons a (b.set q n)
mutual
def nd:Qc->Bool
 |.dict _=>false
 |.tuple ds=>nds ds
 |.list ds=>nds ds
 |_=>true
def nds:List Qc->Bool
 |[]=>true
 |d::ds=>nd d&&nds ds
end
mutual
theorem QgN{A:Addr->Prop}{H:Hp}:∀(d:Qc)(x:V),nd d=true->DA A H x d->Dat H x d
 |.none,_,_,.non=>.non
 |.bool _,_,_,.bl _=>.bl _
 |.int _,_,_,.int _=>.int _
 |.str _,_,_,.str _ c=>.str _ c
 |.tuple ds,_,n,.tup (xs:=xs) _ e q=>.tup e (Qae ds xs n q)
 |.list ds,_,n,.lst (xs:=xs) _ e q=>.lst e (Qae ds xs n q)
theorem Qae{A:Addr->Prop}{H:Hp}:∀(ds:List Qc)(xs:List V),nds ds=true->DAs A H xs ds->Dats H xs ds
 |[],_,_,.nil=>.nil
 |d::ds,_,n,.cons (x:=x) (xs:=xs) q qs=>by
  have n':=Q4.mp (show(nd d&&nds ds)=true from n);exact .cons (QgN d x n'.1 q) (Qae ds xs n'.2 qs)
end
theorem Qmc{ds:List Qc}:nds ds=true↔∀d∈ds,nd d=true:=by
 induction ds with
 |nil=>exact⟨(λ_ _ h=>nomatch h),λ_=>rfl⟩
 |cons d ds ih=>
  rw[show nds (d::ds)=(nd d&&nds ds) from rfl,Q4,ih];constructor
  ·rintro⟨a,b⟩ e he;rcases Qz.mp he with z | z
   ·rw[z];exact a
   ·exact b e z
  ·intro h;exact⟨h d (by simp),λe he=>h e (by simp[he])⟩
def DP(A P:Addr->Prop)(H:Hp)(v:V)(d:Qc):Prop:=DA A H v d∨∃l xs ds,v=.ref l/\d=.list ds/\¬P l/\H l=some (.lst xs)/\DAs A H xs ds
theorem DP.dat{A P:Addr->Prop}{H:Hp}{v:V}{d:Qc}(h:DP A P H v d)(n:nd d=true):Dat H v d:=by
 rcases h with h | ⟨l,xs,ds,rfl,rfl,_,e,q⟩
 ·exact QgN d v n h
 ·exact .lst e (Qae ds xs n q)
theorem DP.list{A P:Addr->Prop}{H:Hp}{v:V}{ds:List Qc}(h:DP A P H v (.list ds)):∃l xs,v=.ref l/\H l=some (.lst xs)/\DAs A H xs ds:=by
 rcases h with h | ⟨l,xs,ds',rfl,e,_,h2,q⟩
 ·cases h with | lst n e q=>exact⟨_,_,rfl,e,q⟩
 ·cases e;exact⟨l,xs,rfl,h2,q⟩
theorem DP.tuple{A P:Addr->Prop}{H:Hp}{v:V}{ds:List Qc}(h:DP A P H v (.tuple ds)):∃l xs,v=.ref l/\H l=some (.tup xs)/\DAs A H xs ds:=by
 rcases h with h | ⟨l,xs,ds',rfl,e,_⟩
 ·cases h with | tup n e q=>exact⟨_,_,rfl,e,q⟩
 ·cases e
theorem DP.int{A P:Addr->Prop}{H:Hp}{v:V}{i:Int}(h:DP A P H v (.int i)):v=.int i:=by
 rcases h with h | ⟨l,xs,ds',rfl,e,_⟩
 ·cases h;rfl
 ·cases e
theorem DP.bool{A P:Addr->Prop}{H:Hp}{v:V}{i:Bool}(h:DP A P H v (.bool i)):v=.bl i:=by
 rcases h with h | ⟨l,xs,ds',rfl,e,_⟩
 ·cases h;rfl
 ·cases e
theorem DP.none{A P:Addr->Prop}{H:Hp}{v:V}(h:DP A P H v .none):v=.non:=by
 rcases h with h | ⟨l,xs,ds',rfl,e,_⟩
 ·cases h;rfl
 ·cases e
theorem DP.str{A P:Addr->Prop}{H:Hp}{v:V}{x:Str}(h:DP A P H v (.str x)):v=.str x/\JO (.str x)=true:=by
 rcases h with h | ⟨l,xs,ds',rfl,e,_⟩
 ·cases h with | str _ c=>exact⟨rfl,c⟩
 ·cases e
inductive Sl where
 |no | pot | scr
 |v (d:Qc)
 |own (ds:List Qc)
 |pk (ds:List Qc)
abbrev Sts:=List Sl
structure Fm where
 H0:Hp
 A0:Addr->Prop
 pt:Addr->Prop
def QyJ(σ:L2.St)(δ:Sts)(i:Nat)(a:Addr):Prop:=σ[i]? = some (some (.ref a))/\(δ[i]? = some .pot∨∃ds,δ[i]? = some (.own ds))
def Av(F:Fm)(σ:L2.St)(δ:Sts)(a:Addr):Prop:=F.A0 a∨∃i,QyJ σ δ i a
def Z9(σ:L2.St)(δ:Sts)(a:Addr):Prop:=∃i:Nat,σ[i]? = some (some (.ref a))/\δ[i]? = some .pot
def Qzf(K:PySem.W.Frag)(F:Fm)(H:Hp)(A:Addr->Prop)(o:Option V):Sl->Prop
 |.no=>True
 |.v d=>∃v,o=some v/\DA A H v d
 |.own ds=>∃l xs,o=some (.ref l)/\H l=some (.lst xs)/\DAs A H xs ds/\F.H0 l=none
 |.pk ds=>∃l xs,o=some (.ref l)/\H l=some (.lst xs)/\DAs A H xs ds/\∃ys,F.H0 l=some (.lst ys)/\¬F.pt l
 |.pot=>∃p n,o=some (.ref p)/\H p=some (.lst [.int n])/\(F.pt p∨F.H0 p=none)
 |.scr=>∃a ns,o=some (.ref a)/\SqL K F.H0 a ((ns:List Int).map V.int)/\¬F.pt a/\ns.length<=63
structure Rel (K:PySem.W.Frag) (F:Fm) (σ:L2.St) (H:Hp) (δ:Sts):Prop where
 len:σ.length=δ.length
 dom:∀a,F.A0 a->∃xs,H a=some (.lst xs)
 dom0:∀a,F.A0 a->∃xs,F.H0 a=some (.lst xs)
 pt0:∀p,F.pt p->F.A0 p/\∃n,H p=some (.lst [.int n])
 kx:∀b o,¬F.pt b->F.H0 b=some o->H b=some o
 sl:∀(i:Nat) o x,σ[i]? = some o->δ[i]? = some x->Qzf K F H (Av F σ δ) o x
 inj:∀(i j:Nat) a ds,δ[i]? = some (.own ds)->σ[i]? = some (some (.ref a))->QyJ σ δ j a->i=j
def Kp(σ:L2.St)(δ:Sts)(H H':Hp):Prop:=(∀b o,¬Z9 σ δ b->H b=some o->H' b=some o)/\∀b,Z9 σ δ b->∃n,H' b=some (.lst [.int n])
def Stp(F:Fm)(σ:L2.St)(H:Hp)(δ:Sts)(σ':L2.St)(H':Hp)(δ':Sts):Prop:=(∀b o,¬Av F σ δ b->H b=some o->H' b=some o)/\∀b,Av F σ' δ' b->Av F σ δ b∨H b=none
def Ke(F:Fm)(H':Hp):Prop:=(∀b o,¬F.pt b->F.H0 b=some o->H' b=some o)/\∀p,F.pt p->∃n,H' p=some (.lst [.int n])
theorem Y9{F:Fm}{σ:L2.St}{δ:Sts}{a:Addr}(h:Z9 σ δ a):Av F σ δ a:=let ⟨i,h1,h2⟩:=h;.inr ⟨i,h1,.inl h2⟩
theorem Rel.ke{K:PySem.W.Frag}{F:Fm}{σ:L2.St}{H:Hp}{δ:Sts}(r:Rel K F σ H δ):Ke F H:=⟨r.kx,λp hp=>(r.pt0 p hp).2⟩
theorem Rel.isl{K:PySem.W.Frag}{F:Fm}{σ:L2.St}{H:Hp}{δ:Sts}(r:Rel K F σ H δ){a:Addr}(h:Av F σ δ a):∃xs,H a=some (.lst xs):=by
 rcases h with h | ⟨i,h1,h2⟩
 ·exact r.dom a h
 ·rcases h2 with h2 | ⟨ds,h2⟩
  ·obtain⟨p,n,e,h,_⟩:=r.sl i _ _ h1 h2;cases e;exact⟨_,h⟩
  ·obtain⟨l,xs,e,h,_⟩:=r.sl i _ _ h1 h2;cases e;exact⟨_,h⟩
theorem Kp.refl{K:PySem.W.Frag}{F:Fm}{σ:L2.St}{H:Hp}{δ:Sts}(r:Rel K F σ H δ):Kp σ δ H H:=⟨λ_ _ _ e=>e,λb ⟨i,h1,h2⟩=>by
 obtain⟨p,n,e,h,_⟩:=r.sl i _ _ h1 h2;cases e;exact⟨n,h⟩⟩
theorem Kp.trans{σ:L2.St}{δ:Sts}{H H1 H2:Hp}(a:Kp σ δ H H1)(b:Kp σ δ H1 H2):Kp σ δ H H2:=⟨λc o n e=>b.1 c o n (a.1 c o n e),b.2⟩
theorem Kp.same{K:PySem.W.Frag}{F:Fm}{σ:L2.St}{H H':Hp}{δ:Sts}(r:Rel K F σ H δ)(s:Same H H'):Kp σ δ H H':=⟨λb o _ e=>s b o e,λb hb=>let ⟨n,h⟩:=(Kp.refl r).2 b hb;⟨n,s _ _ h⟩⟩
theorem Kp.da{F:Fm}{σ:L2.St}{H H':Hp}{δ:Sts}{v:V}{d:Qc}(k:Kp σ δ H H')(h:DA (Av F σ δ) H v d):DA (Av F σ δ) H' v d:=h.mv (λa o n e=>k.1 a o (λz=>n (Y9 z)) e) λa z=>.inl z
theorem Kp.das{F:Fm}{σ:L2.St}{H H':Hp}{δ:Sts}{v:List V}{d:List Qc}(k:Kp σ δ H H')(h:DAs (Av F σ δ) H v d):DAs (Av F σ δ) H' v d:=h.mv (λa o n e=>k.1 a o (λz=>n (Y9 z)) e) λa z=>.inl z
theorem Kp.dp{F:Fm}{σ:L2.St}{H H':Hp}{δ:Sts}{v:V}{d:Qc}(k:Kp σ δ H H')(h:DP (Av F σ δ) (Z9 σ δ) H v d):DP (Av F σ δ) (Z9 σ δ) H' v d:=by
 rcases h with h | ⟨l,xs,ds,e1,e2,n,e,q⟩
 ·exact .inl (k.da h)
 ·exact .inr ⟨l,xs,ds,e1,e2,n,k.1 _ _ n e,k.das q⟩
theorem Rel.own_pot{K:PySem.W.Frag}{F:Fm}{σ:L2.St}{H:Hp}{δ:Sts}(r:Rel K F σ H δ){i:Nat}{ds:List Qc}{l:Addr}(h:δ[i]? = some (.own ds))(e:σ[i]? = some (some (.ref l))):¬Z9 σ δ l:=by
 rintro⟨j,h1,h2⟩;have:=r.inj i j l _ h e ⟨h1,.inl h2⟩;subst this;rw[h] at h2;cases h2
theorem Rel.pt_pot{K:PySem.W.Frag}{F:Fm}{σ:L2.St}{H H':Hp}{δ:Sts}(r:Rel K F σ H δ)(k:Kp σ δ H H'){p:Addr}(hp:F.pt p):∃n,H' p=some (.lst [.int n]):=by
 by_cases z:Z9 σ δ p
 ·exact k.2 p z
 ·obtain⟨n,e⟩:=(r.pt0 p hp).2;exact⟨n,k.1 _ _ z e⟩
theorem Rel.kp{K:PySem.W.Frag}{F:Fm}{σ:L2.St}{H H':Hp}{δ:Sts}(r:Rel K F σ H δ)(k:Kp σ δ H H'):Rel K F σ H' δ where
 len:=r.len
 dom:=λa ha=>by
  by_cases z:Z9 σ δ a
  ·exact⟨_,(k.2 a z).choose_spec⟩
  ·obtain⟨xs,e⟩:=r.dom a ha;exact⟨xs,k.1 _ _ z e⟩
 dom0:=r.dom0
 pt0:=λp hp=>⟨(r.pt0 p hp).1,r.pt_pot k hp⟩
 kx:=λb o n e=>by
  by_cases z:Z9 σ δ b
  ·obtain⟨i,h1,h2⟩:=z;obtain⟨p,m,e1,h,q⟩:=r.sl i _ _ h1 h2;cases e1;rcases q with q | q
   ·exact absurd q n
   ·rw[q] at e;cases e
  ·exact k.1 _ _ z (r.kx b o n e)
 sl:=λi o x h1 h2=>by
  have h:=r.sl i o x h1 h2;cases x with
  |no=>trivial
  |v d=>obtain⟨v,e,q⟩:=h;exact⟨v,e,k.da q⟩
  |own ds=>obtain⟨l,xs,rfl,e,q,f⟩:=h;exact⟨l,xs,rfl,k.1 _ _ (r.own_pot h2 h1) e,k.das q,f⟩
  |pk ds=>
   obtain⟨l,xs,rfl,e,q,ys,f,f2⟩:=h;refine⟨l,xs,rfl,k.1 _ _ ?_ e,k.das q,ys,f,f2⟩;rintro⟨j,j1,j2⟩;obtain⟨p,m,e1,_,w⟩:=r.sl j _ _ j1 j2;cases e1;rcases w with w | w
   ·exact f2 w
   ·rw[w] at f;cases f
  |pot=>
   obtain⟨p,n,rfl,e,q⟩:=h;obtain⟨m,e'⟩:=k.2 p ⟨i,h1,h2⟩;exact⟨p,m,rfl,e',q⟩
  |scr=>exact h
 inj:=r.inj
theorem Rel.same{K:PySem.W.Frag}{F:Fm}{σ:L2.St}{H H':Hp}{δ:Sts}(r:Rel K F σ H δ)(s:Same H H'):Rel K F σ H' δ:=r.kp (Kp.same r s)
theorem Stp.refl{F:Fm}{σ:L2.St}{H:Hp}{δ:Sts}:Stp F σ H δ σ H δ:=⟨λ_ _ _ e=>e,λ_ z=>.inl z⟩
theorem Stp.trans{F:Fm}{σ σ1 σ2:L2.St}{H H1 H2:Hp}{δ δ1 δ2:Sts}(a:Stp F σ H δ σ1 H1 δ1)(b:Stp F σ1 H1 δ1 σ2 H2 δ2):Stp F σ H δ σ2 H2 δ2:=by
 refine⟨λc o n e=>?_,λc z=>?_⟩
 ·refine b.1 c o (λz=>?_) (a.1 c o n e);rcases a.2 c z with q | q
  ·exact n q
  ·rw[q] at e;cases e
 ·rcases b.2 c z with q | q
  ·exact a.2 c q
  ·by_cases y:Av F σ δ c
   ·exact .inl y
   ·right
    cases e:H c with
    |none=>rfl
    |some o=>rw[a.1 c o y e] at q;cases q
theorem Stp.kp{F:Fm}{σ:L2.St}{H H':Hp}{δ:Sts}(k:Kp σ δ H H'):Stp F σ H δ σ H' δ:=⟨λb o n e=>k.1 b o (λz=>n (Y9 z)) e,λ_ z=>.inl z⟩
theorem Stp.da{F:Fm}{σ σ':L2.St}{H H':Hp}{δ δ':Sts}{v:V}{d:Qc}(k:Stp F σ H δ σ' H' δ')(h:DA (Av F σ δ) H v d):DA (Av F σ' δ') H' v d:=h.mv k.1 k.2
abbrev XP:=Addr->Prop
abbrev DE:=Sts->(Qc->Prop)->XP->Prop
abbrev DT:=Sts->(Bool->Prop)->XP->Prop
abbrev DAr:=Sts->(List Qc->Prop)->XP->Prop
abbrev DSl:=Sts->(List Sl->Prop)->XP->Prop
inductive Md where | D | P | F
def FrV(H H':Hp)(v:V):Prop:=∀l,v=.ref l->(∃xs,H' l=some (.lst xs))->H l=none
def Vok(m:Md)(F:Fm)(σ:L2.St)(δ:Sts)(H H':Hp)(v:V)(d:Qc):Prop:=
 match m with
 |.D=>DA (Av F σ δ) H' v d
 |.P=>DP (Av F σ δ) (Z9 σ δ) H' v d
 |.F=>DA (Av F σ δ) H' v d/\FrV H H' v
def Out(F:Fm)(E:XK)(EX:XP):Prop:=∀C,EX C->∀H',Ke F H'->E (.ref C) none H'
def tX(m:Md)(K:PySem.W.Frag)(E:XK)(w:DE):TE:=λσ H Q=>∃(F:Fm)(δ:Sts)(R:Qc->Prop)(EX:XP),Rel K F σ H δ/\w δ R EX/\(∀d,R d->∀v H',Rel K F σ H' δ->Kp σ δ H H'->Vok m F σ δ H H' v d->Q v H')/\Out F E EX
def tT(K:PySem.W.Frag)(E:XK)(w:DT):TT:=λσ H Q=>∃(F:Fm)(δ:Sts)(R:Bool->Prop)(EX:XP),Rel K F σ H δ/\w δ R EX/\(∀b,R b->∀H',Rel K F σ H' δ->Kp σ δ H H'->Q b H')/\Out F E EX
def VD(m:Md)(A P:Addr->Prop)(H:Hp)(v:V)(d:Qc):Prop:=
 match m with
 |.P=>DP A P H v d
 |_=>DA A H v d
def tAr(n:Nat)(m:Md)(K:PySem.W.Frag)(E:XK)(w:DAr):TA:=λσ H Q=>∃(F:Fm)(δ:Sts)(R:List Qc->Prop)(EX:XP),Rel K F σ H δ/\w δ R EX/\(∀ds,R ds->ds.length=n->∀vs H',Rel K F σ H' δ->Kp σ δ H H'->Zf (VD m (Av F σ δ) (Z9 σ δ) H') vs ds->Q vs H')/\Out F E EX
def QhU(A pt:Addr->Prop)(H:Hp)(v:V):Sl->Prop
 |.v d=>DA A H v d
 |.pot=>∃p,v=.ref p/\pt p
 |_=>False
def tAs(K:PySem.W.Frag)(E:XK)(w:DSl):TA:=λσ H Q=>∃(F:Fm)(δ:Sts)(R:List Sl->Prop)(EX:XP),Rel K F σ H δ/\w δ R EX/\(∀ds,R ds->∀vs H',Rel K F σ H' δ->Kp σ δ H H'->Zf (QhU (Av F σ δ) (Z9 σ δ) H') vs ds->Q vs H')/\Out F E EX
theorem Kp.vd{m:Md}{F:Fm}{σ:L2.St}{H H':Hp}{δ:Sts}{v:V}{d:Qc}(k:Kp σ δ H H')(h:VD m (Av F σ δ) (Z9 σ δ) H v d):VD m (Av F σ δ) (Z9 σ δ) H' v d:=by
 cases m
 ·exact k.da h
 ·exact k.dp h
 ·exact k.da h
theorem Kp.arg{F:Fm}{σ:L2.St}{H H':Hp}{δ:Sts}{v:V}{d:Sl}(k:Kp σ δ H H')(h:QhU (Av F σ δ) (Z9 σ δ) H v d):QhU (Av F σ δ) (Z9 σ δ) H' v d:=by
 cases d with
 |v d=>exact k.da h
 |pot=>exact h
 |_=>exact h.elim
def QcB(H:Hp):Prop:=∀a xs,H a=some (.lst xs)∨H a=some (.tup xs)->xs.length<=sizeLine
section
variable{X:Cx}{E:XK}
theorem Inv.lens{pins:List (Addr×Obj)}{σ:L2.St}{H:Hp}{s:Shared}(I:Inv X pins σ H s):QcB H:=λa xs h=>by
 rcases h with h | h
 ·exact(I.hok a _ h).1
 ·exact(I.hok a _ h).1
theorem PE.imp{e:QX}{t t':TE}(h:PE X e t)(i:∀σ H Q,t' σ H Q->t σ H Q):PE X e t':=λpins s σ H Q I q=>h pins s σ H Q I (i σ H Q q)
theorem PT.imp{e:QX}{t t':TT}(h:PT X e t)(i:∀σ H Q,t' σ H Q->t σ H Q):PT X e t':=λpins s σ H Q I q=>h pins s σ H Q I (i σ H Q q)
theorem PW.imp{e:QX}{t t':TT}(h:PW X e t)(i:∀σ H Q,t' σ H Q->t σ H Q):PW X e t':=λwh pins s σ H Q I q=>h wh pins s σ H Q I (i σ H Q q)
theorem PA.imp{e:List QX}{t t':TA}(h:PA X e t)(i:∀σ H Q,t' σ H Q->t σ H Q):PA X e t':=λpos pins s σ H Q I q=>h pos pins s σ H Q I (i σ H Q q)
theorem OpR.len{f:Value->Value->Sem Value}{r:R2}(h:OpR X f r):OpR X f (λx y H Q=>QcB H->r x y H Q):=λpins s σ H x y v u Q I rx ry q=>h pins s σ H x y v u Q I rx ry (q (Inv.lens I))
theorem CallR.len{f:Value}{r:List V->Hp->VK->Prop}(h:CallR X f r):CallR X f (λxs H Q=>QcB H->r xs H Q):=λpins s σ H xs us Q I rx q=>h pins s σ H xs us Q I rx (q (Inv.lens I))
theorem IxR.len{r:R2}(h:IxR X r):IxR X (λx y H Q=>QcB H->r x y H Q):=λa b pins s σ H x y v u Q I rx ry q hs=>h a b pins s σ H x y v u Q I rx ry (q (Inv.lens I)) hs
theorem OpR.or2{f:Value->Value->Sem Value}{r r':R2}(h:OpR X f r)(h':OpR X f r'):OpR X f (λx y H Q=>r x y H Q∨r' x y H Q):=OpR.or h h'
theorem IxR.or2{r r':R2}(h:IxR X r)(h':IxR X r'):IxR X (λx y H Q=>r x y H Q∨r' x y H Q):=λa b pins s σ H x y v u Q I rx ry q hs=>q.elim (λq=>h a b pins s σ H x y v u Q I rx ry q hs) λq=>h' a b pins s σ H x y v u Q I rx ry q hs
theorem SlR.or2{r r':V->Option Int->Option Int->Hp->VK->Prop}(h:SlR X r)(h':SlR X r'):SlR X (λx a b H Q=>r x a b H Q∨r' x a b H Q):=λpins s σ H x v vl vu lo hi sl Q I rx hs pl pu q=>q.elim (h pins s σ H x v vl vu lo hi sl Q I rx hs pl pu) (h' pins s σ H x v vl vu lo hi sl Q I rx hs pl pu)
theorem toD{e:QX}{w:DE}(h:PE X e (tX .F X.K E w)):PE X e (tX .D X.K E w):=PE.imp h λσ H Q ⟨F,δ,R,EX,r,hw,k,o⟩=>⟨F,δ,R,EX,r,hw,λd hd v H' r' kp vk=>k d hd v H' r' kp vk.1,o⟩
theorem toP{e:QX}{w:DE}(h:PE X e (tX .D X.K E w)):PE X e (tX .P X.K E w):=PE.imp h λσ H Q ⟨F,δ,R,EX,r,hw,k,o⟩=>⟨F,δ,R,EX,r,hw,λd hd v H' r' kp vk=>k d hd v H' r' kp (.inl vk),o⟩
theorem Qzl{e:QX}{w:DE}(h:PE X e (tX .F X.K E w)):PE X e (tX .P X.K E w):=toP (toD h)
def Qrs(i:Nat):DE:=λδ Q _=>match δ[i]? with
 |some (.v d)=>Q d
 |_=>False
def dPk(i:Nat):DE:=λδ Q _=>match δ[i]? with
 |some (.v d)=>Q d
 |some (.own ds)=>Q (.list ds)
 |some (.pk ds)=>Q (.list ds)
 |_=>False
def dC(d:Qc):DE:=λ_ Q _=>Q d
theorem Rel.lt{K:PySem.W.Frag}{F:Fm}{σ:L2.St}{H:Hp}{δ:Sts}(r:Rel K F σ H δ){i:Nat}{x:Sl}(h:δ[i]? = some x):∃o,σ[i]? = some o:=by
 have:=(Q2.mp h).1;exact⟨σ[i]'(by rw[r.len];exact this),Qi _⟩
theorem Qvk{e:QX}{i:Nat}(h:PE X e (Yy i)):PE X e (tX .D X.K E (Qrs i)):=PE.imp h λσ H Q ⟨F,δ,R,EX,r,hw,k,o⟩=>by
 unfold Qrs at hw;split at hw
 ·rename_i d hd
  obtain⟨x,hx⟩:=r.lt hd;obtain⟨v,rfl,q⟩:=r.sl i _ _ hx hd;exact⟨v,hx,k d hw v H r (Kp.refl r) q⟩
 ·exact hw.elim
theorem Qx4{e:QX}{i:Nat}(h:PE X e (Yy i)):PE X e (tX .P X.K E (dPk i)):=PE.imp h λσ H Q ⟨F,δ,R,EX,r,hw,k,o⟩=>by
 unfold dPk at hw;split at hw
 ·rename_i d hd
  obtain⟨x,hx⟩:=r.lt hd;obtain⟨v,rfl,q⟩:=r.sl i _ _ hx hd;exact⟨v,hx,k d hw v H r (Kp.refl r) (.inl q)⟩
 ·rename_i d hd
  obtain⟨x,hx⟩:=r.lt hd;obtain⟨l,xs,rfl,e,q,_⟩:=r.sl i _ _ hx hd;exact⟨_,hx,k _ hw _ H r (Kp.refl r) (.inr ⟨l,xs,d,rfl,rfl,r.own_pot hd hx,e,q⟩)⟩
 ·rename_i d hd
  obtain⟨x,hx⟩:=r.lt hd;obtain⟨l,xs,rfl,e,q,ys,f,f2⟩:=r.sl i _ _ hx hd;refine⟨_,hx,k _ hw _ H r (Kp.refl r) (.inr ⟨l,xs,d,rfl,rfl,?_,e,q⟩)⟩;rintro⟨j,j1,j2⟩;obtain⟨p,m,e1,_,w⟩:=r.sl j _ _ j1 j2;cases e1;rcases w with w | w
  ·exact f2 w
  ·rw[w] at f;cases f
 ·exact hw.elim
theorem Qvw{e:QX}{v:V}{d:Qc}(h:PE X e (tC v))(q:∀(A:Addr->Prop)(H:Hp),DA A H v d):PE X e (tX .D X.K E (dC d)):=PE.imp h λσ H Q ⟨F,δ,R,EX,r,hw,k,o⟩=>k d hw v H r (Kp.refl r) (q _ _)
theorem Qvt{i:Int}{j pos}:PE X (.Constant (.int i) j pos) (tX .D X.K E (dC (.int i))):=Qvw pe_int λ_ _=>.int i
theorem Qx7{b:Bool}{j pos}:PE X (.Constant (.bool b) j pos) (tX .D X.K E (dC (.bool b))):=Qvw QdU λ_ _=>.bl b
theorem Qvq{j pos}:PE X (.Constant .none j pos) (tX .D X.K E (dC .none)):=Qvw QeQ λ_ _=>.non
theorem Qvn{x:Str}{j pos}(h:JO (.str x)=true:=by decide +kernel):PE X (.Constant (.str x) j pos) (tX .D X.K E (dC (.str x))):=Qvw YY λ_ _=>.str x h
def OpD(r:R2)(rD:Qc->Qc->(Qc->Prop)->Prop):Prop:=∀(A P:Addr->Prop)(H:Hp)(x y:V)(d1 d2:Qc)(R:Qc->Prop)(Q:VK),QcB H->(∀a,A a->∃xs,H a=some (.lst xs))->DP A P H x d1->DP A P H y d2->rD d1 d2 R ->
 (∀d,R d->∀v H',Same H H'->DA A H' v d->FrV H H' v->Q v H')->r x y H Q
def Qui(r:R2)(rD:Qc->Qc->(Qc->Prop)->Prop):Prop:=∀(A P:Addr->Prop)(H:Hp)(x y:V)(d1 d2:Qc)(R:Qc->Prop)(Q:VK),QcB H->(∀a,A a->∃xs,H a=some (.lst xs))->DP A P H x d1->DP A P H y d2->rD d1 d2 R ->
 (∀d,R d->∀v H',Same H H'->DA A H' v d->Q v H')->r x y H Q
def dOp(rD:Qc->Qc->(Qc->Prop)->Prop)(wa wb:DE):DE:=λδ Q EX=>wa δ (λd1=>wb δ (λd2=>rD d1 d2 Q) EX) EX
theorem QhA{K:PySem.W.Frag}{r:R2}{rD:Qc->Qc->(Qc->Prop)->Prop}{wa wb:DE}(hd:OpD r rD)(σ:L2.St)(H:Hp)(Q:VK)(h:tX .F K E (dOp rD wa wb) σ H Q) :
  tOp (λx y H Q=>QcB H->r x y H Q) (tX .P K E wa) (tX .P K E wb) σ H Q:=by
 obtain⟨F,δ,R,EX,rel,hw,k,o⟩:=h;refine⟨F,δ,_,EX,rel,hw,λd1 h1 x H1 rel1 kp1 x1=>⟨F,δ,_,EX,rel1,h1,λd2 h2 y H2 rel2 kp2 y2=>λln=>?_,o⟩,o⟩;refine hd (Av F σ δ) (Z9 σ δ) H2 x y d1 d2 R Q ln (λa ha=>rel2.isl ha) (kp2.dp x1) y2 h2 λd hR v H' s q f=>?_
 refine k d hR v H' (rel2.same s) ((kp1.trans kp2).trans (Kp.same rel2 s)) ⟨q,λl e1 e2=>?_⟩;have f2:=f l e1 e2;cases e:H l with
 |none=>rfl
 |some ob=>
  by_cases z:Z9 σ δ l
  ·obtain⟨n,en⟩:=kp2.2 l z;rw[en] at f2;cases f2
  ·rw[(kp1.trans kp2).1 _ _ z e] at f2;cases f2
theorem Qoy{K:PySem.W.Frag}{r:R2}{rD:Qc->Qc->(Qc->Prop)->Prop}{wa wb:DE}(hd:Qui r rD)(σ:L2.St)(H:Hp)(Q:VK)(h:tX .D K E (dOp rD wa wb) σ H Q) :
  tOp (λx y H Q=>QcB H->r x y H Q) (tX .P K E wa) (tX .P K E wb) σ H Q:=by
 obtain⟨F,δ,R,EX,rel,hw,k,o⟩:=h;refine⟨F,δ,_,EX,rel,hw,λd1 h1 x H1 rel1 kp1 x1=>⟨F,δ,_,EX,rel1,h1,λd2 h2 y H2 rel2 kp2 y2=>λln=>?_,o⟩,o⟩;refine hd (Av F σ δ) (Z9 σ δ) H2 x y d1 d2 R Q ln (λa ha=>rel2.isl ha) (kp2.dp x1) y2 h2 λd hR v H' s q=>?_
 exact k d hR v H' (rel2.same s) ((kp1.trans kp2).trans (Kp.same rel2 s)) q
variable{a b:QX}{wa wb:DE}{pos:Pos}{r:R2}{rD:Qc->Qc->(Qc->Prop)->Prop}
theorem Qvx{op:Qff}(ho:OpR X (binaryOp op) r)(hd:OpD r rD)(ha:PE X a (tX .P X.K E wa))(hb:PE X b (tX .P X.K E wb)):PE X (.BinOp a op b pos) (tX .F X.K E (dOp rD wa wb)):=PE.imp (pe_op (OpR.len ho) ha hb) (QhA hd)
theorem Qvv{op:QrK}(ho:OpR X (compareOp op) r)(hd:OpD r rD)(ha:PE X a (tX .P X.K E wa))(hb:PE X b (tX .P X.K E wb))(hm:behindInMarks op b=false):PE X (.Compare a [op] [b] pos) (tX .F X.K E (dOp rD wa wb)):=PE.imp (Qbr (OpR.len ho) ha hb hm) (QhA hd)
theorem Qx5{r:R2}{rD:Qc->Qc->(Qc->Prop)->Prop}(ho:IxR X r)(hd:Qui r rD)(ha:PE X a (tX .P X.K E wa))(hb:PE X b (tX .P X.K E wb))(hs:QhT b):PE X (.Subscript a b pos) (tX .D X.K E (dOp rD wa wb)):=PE.imp (pe_ix (IxR.len ho) ha hb hs) (Qoy hd)
def dTst(w:DE):DT:=λδ Q EX=>w δ (λd=>match d with
 |.bool k=>Q k
 |_=>False) EX
theorem QsL{op:QrK}(ho:OpR X (compareOp op) r)(hd:OpD r rD)(ha:PE X a (tX .P X.K E wa))(hb:PE X b (tX .P X.K E wb))(hm:behindInMarks op b=false):PT X (.Compare a [op] [b] pos) (tT X.K E (dTst (dOp rD wa wb))):=by
 refine PT.imp (ZS (OpR.len ho) ha hb hm) λσ H Q ⟨F,δ,R,EX,rel,hw,k,o⟩=>?_
 refine QhA hd σ H (λx H'=>∃k,x=.bl k/\Q k H') ⟨F,δ,_,EX,rel,hw,λd hd2 v H' rel' kp vk=>?_,o⟩;split at hd2
 ·rename_i b
  have:v=.bl b:=by cases vk.1;rfl
  exact⟨b,this,k b hd2 H' rel' kp⟩
 ·exact hd2.elim
def tru:Qc->Bool
 |.none=>false
 |.bool b=>b
 |.int i=>i != 0
 |.str y=>(y.length:Int) != 0
 |.list ds => !ds.isEmpty
 |.tuple ds => !ds.isEmpty
 |.dict ds => !ds.isEmpty
def strOk:Qc->Prop
 |.str y=>y.length<=sizeLine
 |_=>True
def dTru(w:DE):DT:=λδ Q EX=>w δ (λd=>strOk d/\Q (tru d)) EX
theorem QuI{K:PySem.W.Frag}{A P:Addr->Prop}{H:Hp}{v:V}{d:Qc}(h:DP A P H v d)(hs:strOk d):QyG K v H (tru d):=by
 have sq:∀{xs:List V}{ds:List Qc},DAs A H xs ds->(!ds.isEmpty) = !xs.isEmpty:=λq=>by cases q<;>rfl
 rcases h with h | ⟨l,xs,ds,rfl,rfl,_,e,q⟩
 ·cases h with
  |non=>rfl
  |bl b=>rfl
  |int i=>rfl
  |str x c=>exact⟨hs,rfl⟩
  |@tup a xs ds n e q=>exact .inr (.inl ⟨xs,SqT.of e,sq q⟩)
  |@lst a xs ds n e q=>exact .inl ⟨xs,SqL.of e,sq q⟩
  |@dct a kvs ds n e q=>subst q;exact .inr (.inr ⟨dkV kvs,e,by cases kvs<;>rfl⟩)
 ·exact .inl ⟨xs,SqL.of e,sq q⟩
theorem QsJ{e:QX}{w:DE}(h:PE X e (tX .P X.K E w))(he:∀whole,isTrue e X.env whole=(do let v <- whole;standAt e.pos;holding [v] (truthy v))):PT X e (tT X.K E (dTru w)):=by
 refine PT.imp (QfH h he) λσ H Q ⟨F,δ,R,EX,rel,hw,k,o⟩=>?_
 exact⟨F,δ,_,EX,rel,hw,λd ⟨hs,hq⟩ v H' rel' kp vk=>⟨tru d,QuI vk hs,k _ hq H' rel' kp⟩,o⟩
theorem QsI{e:QX}{w:DE}(h:PE X e (tX .P X.K E w))(he:∀whole,isTrue e X.env whole=(do let v <- whole;standAt e.pos;holding [v] (truthy v)):=by intro _;rfl):PT X e (tT X.K E (dTst w)):=by
 refine PT.imp (Qcp h he) λσ H Q ⟨F,δ,R,EX,rel,hw,k,o⟩=>?_
 refine⟨F,δ,_,EX,rel,hw,λd hd v H' rel' kp vk=>?_,o⟩;split at hd
 ·exact⟨_,DP.bool vk,k _ hd H' rel' kp⟩
 ·exact hd.elim
def Qyz(wa wb:DT):DT:=λδ Q EX=>wa δ (λc=>if c=true then wb δ Q EX else Q false) EX
def dOr(wa wb:DT):DT:=λδ Q EX=>wa δ (λc=>if c=true then Q true else wb δ Q EX) EX
def Qy7(wa:DT):DT:=λδ Q EX=>wa δ (λc=>Q (!c)) EX
theorem Qdm{c:Prop}[Decidable c]{p q p' q':Prop}(h:if c then p else q)(h1:p->p')(h2:q->q'):if c then p' else q':=by
 split at h
 ·rw[if_pos (by assumption)];exact h1 h
 ·rw[if_neg (by assumption)];exact h2 h
variable{rest:List QX}{ta tb:DT}
theorem Qog(ha:PT X a (tT X.K E ta)):PW X (.BoolOp .And [a] pos) (tT X.K E ta):=Qlw ha
theorem QsG(ha:PT X a (tT X.K E ta)):PW X (.BoolOp .Or [a] pos) (tT X.K E ta):=Qgw ha
theorem QsH(ha:PT X a (tT X.K E ta))(hb:PW X (.BoolOp .And (b::rest) pos) (tT X.K E tb)):PW X (.BoolOp .And (a::b::rest) pos) (tT X.K E (Qyz ta tb)):=by
 refine PW.imp (Qp5 ha hb) λσ H Q ⟨F,δ,R,EX,rel,hw,k,o⟩=>?_
 refine⟨F,δ,_,EX,rel,hw,λc hc H' rel' kp=>?_,o⟩;exact Qdm hc (λz=>⟨F,δ,R,EX,rel',z,λc hc H2 rel2 kp2=>k c hc H2 rel2 (kp.trans kp2),o⟩) λz=>k _ z H' rel' kp
theorem Qvi(ha:PT X a (tT X.K E ta))(hb:PW X (.BoolOp .Or (b::rest) pos) (tT X.K E tb)):PW X (.BoolOp .Or (a::b::rest) pos) (tT X.K E (dOr ta tb)):=by
 refine PW.imp (Qjl ha hb) λσ H Q ⟨F,δ,R,EX,rel,hw,k,o⟩=>?_
 refine⟨F,δ,_,EX,rel,hw,λc hc H' rel' kp=>?_,o⟩;exact Qdm hc (λz=>k _ z H' rel' kp) (λz=>⟨F,δ,R,EX,rel',z,λc hc H2 rel2 kp2=>k c hc H2 rel2 (kp.trans kp2),o⟩)
theorem QsK(ha:PT X a (tT X.K E ta)):PT X (.UnaryOp .Not a pos) (tT X.K E (Qy7 ta)):=by
 refine PT.imp (QdR ha) λσ H Q ⟨F,δ,R,EX,rel,hw,k,o⟩=>?_
 exact⟨F,δ,_,EX,rel,hw,λc hc H' rel' kp=>k _ hc H' rel' kp,o⟩
def Qwm(wa wb:DE):DE:=λδ Q EX=>wa δ (λd=>match d with
 |.bool c=>if c=true then wb δ Q EX else Q (.bool false)
 |_=>False) EX
def Qwi(wa:DE):DE:=λδ Q EX=>wa δ (λd=>match d with
 |.bool c=>Q (.bool (!c))
 |_=>False) EX
theorem Qvo{op}{w:DE}(h:PE X a (tX .D X.K E w)):PE X (.BoolOp op [a] pos) (tX .D X.K E w):=Qdj h
theorem Qvy(ha:PE X a (tX .P X.K E wa))(hb:PE X (.BoolOp .And (b::rest) pos) (tX .D X.K E wb)):PE X (.BoolOp .And (a::b::rest) pos) (tX .D X.K E (Qwm wa wb)):=by
 refine PE.imp (Qdk ha hb) λσ H Q ⟨F,δ,R,EX,rel,hw,k,o⟩=>?_
 refine⟨F,δ,_,EX,rel,hw,λd hd v H' rel' kp vk=>?_,o⟩;split at hd
 ·exact⟨_,DP.bool vk,Qdm hd (λz=>⟨F,δ,R,EX,rel',z,λd hd v H2 rel2 kp2=>k d hd v H2 rel2 (kp.trans kp2),o⟩) λz=>k _ z _ H' rel' kp (.bl _)⟩
 ·exact hd.elim
theorem Qvp(ha:PE X a (tX .P X.K E wa)):PE X (.UnaryOp .Not a pos) (tX .D X.K E (Qwi wa)):=by
 refine PE.imp (Qrb ha) λσ H Q ⟨F,δ,R,EX,rel,hw,k,o⟩=>?_
 refine⟨F,δ,_,EX,rel,hw,λd hd v H' rel' kp vk=>?_,o⟩;split at hd
 ·exact⟨_,DP.bool vk,k _ hd _ H' rel' kp (.bl _)⟩
 ·exact hd.elim
end
theorem Qd0{A:Addr->Prop}{H H':Hp}{l:Addr}{xs:List V}{ds:List Qc}(dm:∀a,A a->∃xs,H a=some (.lst xs))(s:Same H H')(n:H l=none)(e:H' l=some (.lst xs))(q:DAs A H xs ds):DA A H' (.ref l) (.list ds):=
 .lst (λz=>by obtain⟨ys,e'⟩:=dm l z;rw[n] at e';cases e') e (q.same s)
theorem Qgl{A:Addr->Prop}{H H':Hp}{l:Addr}{xs:List V}{ds:List Qc}(dm:∀a,A a->∃xs,H a=some (.lst xs))(s:Same H H')(e:H' l=some (.tup xs))(q:DAs A H xs ds):DA A H' (.ref l) (.tuple ds):=
 .tup (λz=>by obtain⟨ys,e'⟩:=dm l z;rw[s _ _ e'] at e;cases e) e (q.same s)
theorem QaF{H H':Hp}{l:Addr}(n:H l=none):FrV H H' (.ref l):=λl' e _=>by cases e;exact n
theorem Qd6{H H':Hp}{l:Addr}{xs:List V}(e:H' l=some (.tup xs)):FrV H H' (.ref l):=λl' e1 ⟨ys,e2⟩=>by cases e1;rw[e] at e2;cases e2
theorem Qar{H H':Hp}{i:Int}:FrV H H' (.int i):=λl' e _=>by cases e
theorem Qaz{H H':Hp}{i:Bool}:FrV H H' (.bl i):=λl' e _=>by cases e
theorem QtI{H H':Hp}:FrV H H' .non:=λl' e _=>by cases e
theorem DAs.rep{A:Addr->Prop}{H:Hp}{xs:List V}{ds:List Qc}(q:DAs A H xs ds):∀k:Nat,DAs A H (QZ k xs).flatten (QZ k ds).flatten
 |0=>.nil
 |k+1=>by rw[Zg,Zg,ZU,ZU];exact q.app (DAs.rep q k)
def Qze:Qc->Qc->(Qc->Prop)->Prop
 |.int i,.int j,Q=>Q (.int (i+j))
 |.tuple a,.tuple b,Q=>a.length+b.length<=1000000/\Q (.tuple (a++b))
 |.list a,.list b,Q=>a.length+b.length<=1000000/\Q (.list (a++b))
 |_,_,_=>False
def iiD(C:Int->Int->Prop)(f:Int->Int->Qc):Qc->Qc->(Qc->Prop)->Prop
 |.int i,.int j,Q=>C i j/\Q (f i j)
 |_,_,_=>False
def ii0(f:Int->Int->Qc):Qc->Qc->(Qc->Prop)->Prop
 |.int i,.int j,Q=>Q (f i j)
 |_,_,_=>False
def Qy1:Qc->Qc->(Qc->Prop)->Prop
 |.int i,.int j,Q=>(CMul i j∨CMulB i j)/\Q (.int (i*j))
 |.list a,.int k,Q=>(k<1000000 /\ -1000000<k/\a.length*k.toNat<=1000000)/\Q (.list (QZ k.toNat a).flatten)
 |_,_,_=>False
theorem QhE:1000000<=sizeLine:=by show 1000000<=2^24;decide
section
variable{X:Cx}{E:XK}
theorem Ql9{C:Int->Int->Prop}{g:Int->Int->Int}:OpD (rI C λi j=>.int (g i j)) (iiD C λi j=>.int (g i j)):=λA P H x y d1 d2 R Q ln dm hx hy h k=>by
 cases d1<;>cases d2<;>first | exact h.elim | skip
 rw[hx.int,hy.int];exact⟨_,_,rfl,rfl,h.1,k _ h.2 _ H (Same.refl H) (.int _) Qar⟩
theorem QdY{g:Int->Int->Int}:OpD (rI0 λi j=>.int (g i j)) (ii0 λi j=>.int (g i j)):=λA P H x y d1 d2 R Q ln dm hx hy h k=>by
 cases d1<;>cases d2<;>first | exact h.elim | skip
 rw[hx.int,hy.int];exact⟨_,_,rfl,rfl,k _ h _ H (Same.refl H) (.int _) Qar⟩
theorem QeW{g:Int->Int->Bool}:OpD (rI0 λi j=>.bl (g i j)) (ii0 λi j=>.bool (g i j)):=λA P H x y d1 d2 R Q ln dm hx hy h k=>by
 cases d1<;>cases d2<;>first | exact h.elim | skip
 rw[hx.int,hy.int];exact⟨_,_,rfl,rfl,k _ h _ H (Same.refl H) (.bl _) Qaz⟩
def rAdd:R2:=λx y H Q=>(rI0 (λi j=>.int (i+j)) x y H Q∨Qn6 x y H Q)∨QyZ x y H Q
theorem QaE:OpR X (binaryOp .Add) rAdd:=OpR.or2 (OpR.or2 op_add QlX) Qrf
theorem QbS:OpD rAdd Qze:=λA P H x y d1 d2 R Q ln dm hx hy h k=>by
 cases d1<;>cases d2<;>first | exact h.elim | skip
 ·rw[hx.int,hy.int];exact .inl (.inl ⟨_,_,rfl,rfl,k _ h _ H (Same.refl H) (.int _) Qar⟩)
 ·obtain⟨l1,xs,rfl,e1,q1⟩:=hx.list;obtain⟨l2,ys,rfl,e2,q2⟩:=hy.list;refine .inr ⟨l1,l2,xs,ys,rfl,rfl,e1,e2,QL (by rw[q1.length,q2.length];exact h.1) QhE,λp hp=>?_⟩;exact k _ h.2 _ _ (Jn hp) (Qd0 dm (Jn hp) hp upd_same (q1.app q2)) (QaF hp)
 ·obtain⟨l1,xs,rfl,e1,q1⟩:=hx.tuple;obtain⟨l2,ys,rfl,e2,q2⟩:=hy.tuple;refine .inl (.inr ⟨l1,l2,xs,ys,rfl,rfl,e1,e2,QL (by rw[q1.length,q2.length];exact h.1) QhE,λp H' s e=>?_⟩);exact k _ h.2 _ _ s (Qgl dm s e (q1.app q2)) (Qd6 e)
def Qu1:R2:=λx y H Q=>(rI CMul (λi j=>.int (i*j)) x y H Q∨rI CMulB (λi j=>.int (i*j)) x y H Q)∨QyS x y H Q
theorem QlU:OpR X (binaryOp .Mult) Qu1:=OpR.or2 (OpR.or2 QeU Qs5) Qrd
theorem Qrg:OpD Qu1 Qy1:=λA P H x y d1 d2 R Q ln dm hx hy h k=>by
 cases d1<;>cases d2<;>first | exact h.elim | skip
 ·rw[hx.int,hy.int];rcases h.1 with c | c
  ·exact .inl (.inl ⟨_,_,rfl,rfl,c,k _ h.2 _ H (Same.refl H) (.int _) Qar⟩)
  ·exact .inl (.inr ⟨_,_,rfl,rfl,c,k _ h.2 _ H (Same.refl H) (.int _) Qar⟩)
 ·obtain⟨l1,xs,rfl,e1,q1⟩:=hx.list;rw[hy.int];obtain⟨⟨h1,h2,h3⟩,h4⟩:=h;refine .inr ⟨l1,_,xs,rfl,rfl,e1,by omega,by omega,QL (by rw[q1.length];exact h3) QhE,λp hp=>?_⟩;exact k _ h4 _ _ (Jn hp) (Qd0 dm (Jn hp) hp upd_same (q1.rep _)) (QaF hp)
def eqD:Qc->Qc->(Qc->Prop)->Prop
 |.int i,.int j,Q=>Q (.bool (decide (i=j)))
 |.bool i,.bool j,Q=>Q (.bool (decide (i=j)))
 |.str i,.str j,Q=>Q (.bool (decide (i=j)))
 |a,b,Q=>(nd a=true/\nd b=true/\(a.depth<=50∨b.depth<=50))/\Q (.bool (Jd a b))
def neD:Qc->Qc->(Qc->Prop)->Prop
 |.int i,.int j,Q=>Q (.bool (!decide (i=j)))
 |.bool i,.bool j,Q=>Q (.bool (!decide (i=j)))
 |.str i,.str j,Q=>Q (.bool (!decide (i=j)))
 |a,b,Q=>(nd a=true/\nd b=true/\(a.depth<=50∨b.depth<=50))/\Q (.bool (!Jd a b))
theorem QvO{a b:Qc}(h:a.depth<=50∨b.depth<=50):min a.depth b.depth<=50:=by rcases h with h | h<;>omega
def QyY(u:Nat):R2:=λx y H Q=>rEq x y H Q∨QyX u x y H Q
def QyU(u:Nat):R2:=λx y H Q=>rNe x y H Q∨QyT u x y H Q
theorem Qbs:OpR X (compareOp .Eq) (QyY X.A.units):=OpR.or2 Qb3 QvE
theorem QgA:OpR X (compareOp .NotEq) (QyU X.A.units):=OpR.or2 QlT QvA
theorem Qwa{i j:Int}:decide (V.int i=V.int j)=decide (i=j):=by
 by_cases h:i=j
 ·subst h;simp
 ·rw[decide_eq_false h,decide_eq_false (λz=>h (V.int.inj z))]
theorem Qwb{i j:Bool}:decide (V.bl i=V.bl j)=decide (i=j):=by
 by_cases h:i=j
 ·subst h;simp
 ·rw[decide_eq_false h,decide_eq_false (λz=>h (V.bl.inj z))]
theorem Qv9{i j:Str}:decide (V.str i=V.str j)=decide (i=j):=by
 by_cases h:i=j
 ·subst h;simp
 ·rw[decide_eq_false h,decide_eq_false (λz=>h (V.str.inj z))]
theorem QdZ{u:Nat}(hu:u+60<cLine):OpD (QyY u) eqD:=λA P H x y d1 d2 R Q ln dm hx hy h k=>by
 unfold eqD at h;split at h
 ·rw[hx.int,hy.int];exact .inl ⟨rfl,k (.bool (decide (V.int _=V.int _))) (by rw[Qwa];exact h) _ H (Same.refl H) (.bl _) Qaz⟩
 ·rw[hx.bool,hy.bool];exact .inl ⟨rfl,k (.bool (decide (V.bl _=V.bl _))) (by rw[Qwb];exact h) _ H (Same.refl H) (.bl _) Qaz⟩
 ·rw[hx.str.1,hy.str.1];exact .inl ⟨rfl,k (.bool (decide (V.str _=V.str _))) (by rw[Qv9];exact h) _ H (Same.refl H) (.bl _) Qaz⟩
 ·obtain⟨⟨n1,n2,dp⟩,hR⟩:=h;have:=QvO dp;exact .inr ⟨_,_,hx.dat n1,hy.dat n2,by omega,k _ hR _ H (Same.refl H) (.bl _) Qaz⟩
theorem Ql8{u:Nat}(hu:u+60<cLine):OpD (QyU u) neD:=λA P H x y d1 d2 R Q ln dm hx hy h k=>by
 unfold neD at h;split at h
 ·rw[hx.int,hy.int];exact .inl ⟨rfl,k (.bool (!decide (V.int _=V.int _))) (by rw[Qwa];exact h) _ H (Same.refl H) (.bl _) Qaz⟩
 ·rw[hx.bool,hy.bool];exact .inl ⟨rfl,k (.bool (!decide (V.bl _=V.bl _))) (by rw[Qwb];exact h) _ H (Same.refl H) (.bl _) Qaz⟩
 ·rw[hx.str.1,hy.str.1];exact .inl ⟨rfl,k (.bool (!decide (V.str _=V.str _))) (by rw[Qv9];exact h) _ H (Same.refl H) (.bl _) Qaz⟩
 ·obtain⟨⟨n1,n2,dp⟩,hR⟩:=h;have:=QvO dp;exact .inr ⟨_,_,hx.dat n1,hy.dat n2,by omega,k _ hR _ H (Same.refl H) (.bl _) Qaz⟩
def Qsj(u:Nat)(neg:Bool):R2:=λx y H Q=>∃c ps ds d,y=.ref c/\H c=some (.lst ps)/\Dats H ps ds/\Dat H x d/\u+d.depth<cLine/\Q (.bl (if neg then !(ds.any λe=>Jd e d) else ds.any λe=>Jd e d)) H
theorem Qs6:OpR X (compareOp .In) (Qsj X.A.in1.units false):=by
 intro pins s σ H x y v u Q I rx ry h;obtain⟨c,ps,ds,d,rfl,hc,qs,qx,hu,q⟩:=h;cases ry;obtain⟨⟨as,ra⟩,ca⟩:=YL I.hok d x v qx rx;obtain⟨its,rv,pl,hz⟩:=I.list (SqL.of hc);obtain⟨⟨bs,rb⟩,cb⟩:=YU I.hok ds ps its qs rv;refine SeqAt.in_listAt (eqH s.heap d) pl.isList (λw hw=>Qd2 ra ca rb cb hu w (YG.mp hw)) ⟨.bl _,H,I,rfl,?_⟩;rw[show its.toArray.any (eqH s.heap d)=its.any (eqH s.heap d) by simp,Qef rb cb];exact q
theorem Qjq:OpR X (compareOp .NotIn) (Qsj X.A.in1.units true):=by
 intro pins s σ H x y v u Q I rx ry h;obtain⟨c,ps,ds,d,rfl,hc,qs,qx,hu,q⟩:=h;cases ry;obtain⟨⟨as,ra⟩,ca⟩:=YL I.hok d x v qx rx;obtain⟨its,rv,pl,hz⟩:=I.list (SqL.of hc);obtain⟨⟨bs,rb⟩,cb⟩:=YU I.hok ds ps its qs rv;refine Qni (eqH s.heap d) pl.isList (λw hw=>Qd2 ra ca rb cb hu w (YG.mp hw)) ⟨.bl _,H,I,rfl,?_⟩;rw[show its.toArray.any (eqH s.heap d)=its.any (eqH s.heap d) by simp,Qef rb cb];exact q
def inD(neg:Bool)(d:Qc):Qc->(Qc->Prop)->Prop
 |.list ds,Q=>(nds ds=true/\nd d=true/\d.depth<=50)/\Q (.bool (if neg then !(ds.any λe=>Jd e d) else ds.any λe=>Jd e d))
 |.tuple ds,Q=>(nds ds=true/\nd d=true/\d.depth<=50)/\Q (.bool (if neg then !(ds.any λe=>Jd e d) else ds.any λe=>Jd e d))
 |_,_=>False
def QxX(u:Nat)(neg:Bool):R2:=λx y H Q=>QwW u neg x y H Q∨Qsj u neg x y H Q
theorem QlV:OpR X (compareOp .In) (QxX X.A.in1.units false):=OpR.or2 QvC Qs6
theorem QdW:OpR X (compareOp .NotIn) (QxX X.A.in1.units true):=OpR.or2 QlR Qjq
theorem Qjt{u:Nat}{neg:Bool}(hu:u+60<cLine):OpD (QxX u neg) (inD neg):=λA P H x y d1 d2 R Q ln dm hx hy h k=>by
 cases d2<;>first | exact h.elim | skip
 ·obtain⟨l,xs,rfl,e,q⟩:=hy.list;obtain⟨⟨n1,n2,n3⟩,hR⟩:=h;exact .inr ⟨l,xs,_,d1,rfl,e,Qae _ _ n1 q,hx.dat n2,by omega,k _ hR _ H (Same.refl H) (.bl _) Qaz⟩
 ·obtain⟨l,xs,rfl,e,q⟩:=hy.tuple;obtain⟨⟨n1,n2,n3⟩,hR⟩:=h;exact .inl ⟨l,xs,_,d1,rfl,e,Qae _ _ n1 q,hx.dat n2,by omega,k _ hR _ H (Same.refl H) (.bl _) Qaz⟩
def ixD:Qc->Qc->(Qc->Prop)->Prop
 |.list ds,.int i,Q=>∃d,atI ds i=some d/\Q d
 |.tuple ds,.int i,Q=>∃d,atI ds i=some d/\Q d
 |_,_,_=>False
theorem Qrx{A:Addr->Prop}{H:Hp}{xs:List V}{ds:List Qc}{i:Int}{d:Qc}(q:DAs A H xs ds)(h:atI ds i=some d):∃v,atI xs i=some v/\DA A H v d:=by
 unfold atI at h ⊢;rw[q.length];cases e:ixN ds.length i with
 |none=>rw[e] at h;cases h
 |some j=>
  rw[e] at h;exact q.get j d h
def QyV(K:PySem.W.Frag):R2:=λx y H Q=>Qp3 K x y H Q∨QxW K x y H Q
theorem ZK:IxR X (QyV X.K):=IxR.or2 ix_list ix_tup
theorem YT{K:PySem.W.Frag}:Qui (QyV K) ixD:=λA P H x y d1 d2 R Q ln dm hx hy h k=>by
 cases d1<;>cases d2<;>first | exact h.elim | skip
 ·obtain⟨l,xs,rfl,e,q⟩:=hx.list;obtain⟨d,hd,hR⟩:=h;obtain⟨v,hv,dv⟩:=Qrx q hd;rw[hy.int];exact .inl ⟨l,xs,_,v,rfl,rfl,SqL.of e,hv,k d hR v H (Same.refl H) dv⟩
 ·obtain⟨l,xs,rfl,e,q⟩:=hx.tuple;obtain⟨d,hd,hR⟩:=h;obtain⟨v,hv,dv⟩:=Qrx q hd;rw[hy.int];exact .inr ⟨l,xs,_,v,rfl,rfl,SqT.of e,hv,k d hR v H (Same.refl H) dv⟩
def dUn(rD:Qc->(Qc->Prop)->Prop)(wa:DE):DE:=λδ Q EX=>wa δ (λd=>rD d Q) EX
def Qy0:Qc->(Qc->Prop)->Prop
 |.int i,Q=>Q (.int (-i))
 |_,_=>False
variable{a b c:QX}{wa wb wc:DE}{pos:Pos}
theorem Qvr(ha:PE X a (tX .P X.K E wa)):PE X (.UnaryOp .USub a pos) (tX .F X.K E (dUn Qy0 wa)):=by
 refine PE.imp (pe_un un_neg ha) λσ H Q ⟨F,δ,R,EX,rel,hw,k,o⟩=>?_
 refine⟨F,δ,_,EX,rel,hw,λd hd v H' rel' kp vk=>?_,o⟩;cases d<;>first | exact(show False from hd).elim | skip
 exact⟨_,DP.int vk,k _ hd _ H' rel' kp ⟨.int _,Qar⟩⟩
def dCh(p q:Int->Int->Bool)(wa wb wc:DE):DE:=λδ Q EX=>wa δ (λx=>wb δ (λy=>match x,y with
 |.int i,.int j=>if p i j=true then wc δ (λz=>match z with
  |.int k=>Q (.bool (q j k))
  |_=>False) EX else Q (.bool false)
 |_,_=>False) EX) EX
theorem Qt0{K:PySem.W.Frag}{p q:Int->Int->Bool}(σ:L2.St)(H:Hp)(Q:VK)(h:tX .F K E (dCh p q wa wb wc) σ H Q) :
  QpU (rI0 λi j=>.bl (p i j)) (rI0 λi j=>.bl (q i j)) (tX .P K E wa) (tX .P K E wb) (tX .P K E wc) σ H Q:=by
 obtain⟨F,δ,R,EX,rel,hw,k,o⟩:=h;refine⟨F,δ,_,EX,rel,hw,λd1 h1 x H1 rel1 kp1 x1=>⟨F,δ,_,EX,rel1,h1,λd2 h2 y H2 rel2 kp2 y2=>?_,o⟩,o⟩;cases d1<;>cases d2<;>first | exact(show False from h2).elim | skip
 rw[DP.int x1,DP.int y2];refine⟨_,_,rfl,rfl,_,rfl,Qdm h2 (λz=>⟨F,δ,_,EX,rel2,z,λd3 h3 v H3 rel3 kp3 v3=>?_,o⟩) λz=>k _ z _ H2 rel2 (kp1.trans kp2) ⟨.bl _,Qaz⟩⟩;cases d3<;>first | exact(show False from h3).elim | skip
 rw[DP.int v3];exact⟨_,_,rfl,rfl,k _ h3 _ H3 rel3 ((kp1.trans kp2).trans kp3) ⟨.bl _,Qaz⟩⟩
theorem Qx6{op op':QrK}{p q:Int->Int->Bool}(ho:OpR X (compareOp op) (rI0 λi j=>.bl (p i j)))(ho':OpR X (compareOp op') (rI0 λi j=>.bl (q i j)))(ha:PE X a (tX .P X.K E wa))(hb:PE X b (tX .P X.K E wb))(hc:PE X c (tX .P X.K E wc))(hm:lastMarks [op,op'] [b,c]=false:=by with_unfolding_all rfl) :
  PE X (.Compare a [op,op'] [b,c] pos) (tX .F X.K E (dCh p q wa wb wc)):=PE.imp (Qoe ho ho' ha hb hc (hm:=hm)) Qt0
def Qpn:DAr:=λ_ Q _=>Q []
def Qbx(we:DE)(wr:DAr):DAr:=λδ Q EX=>we δ (λd=>wr δ (λds=>Q (d::ds)) EX) EX
theorem QsY{m:Md}:PA X [] (tAr 0 m X.K E Qpn):=PA.imp pa_nil λσ H Q ⟨F,δ,R,EX,rel,hw,k,o⟩=>k [] hw rfl [] H rel (Kp.refl rel) .nil
theorem Qnb{n:Nat}{m:Md}{K:PySem.W.Frag}{we:DE}{wr:DAr}(hm:∀{F:Fm}{σ:L2.St}{δ:Sts}{H H':Hp}{v:V}{d:Qc},Vok m F σ δ H H' v d->VD m (Av F σ δ) (Z9 σ δ) H' v d)(σ:L2.St)(H:Hp)(Q:List V->Hp->Prop)(h:tAr (n+1) m K E (Qbx we wr) σ H Q):Z1 (tX m K E we) (tAr n m K E wr) σ H Q:=by
 obtain⟨F,δ,R,EX,rel,hw,k,o⟩:=h;refine⟨F,δ,_,EX,rel,hw,λd hd v H' rel' kp vk=>⟨F,δ,_,EX,rel',hd,λds hds hl vs H2 rel2 kp2 vks=>?_,o⟩,o⟩;exact k _ hds (by rw[QV,hl]) (v::vs) H2 rel2 (kp.trans kp2) (.cons (kp2.vd (hm vk)) vks)
theorem QlM{n:Nat}{e:QX}{es:List QX}{we:DE}{wr:DAr}(he:PE X e (tX .D X.K E we))(hr:PA X es (tAr n .D X.K E wr))(hs:notStar e=true:=by rfl):PA X (e::es) (tAr (n+1) .D X.K E (Qbx we wr)):=PA.imp (pa_c he hr hs) (Qnb λh=>h)
theorem QlL{n:Nat}{e:QX}{es:List QX}{we:DE}{wr:DAr}(he:PE X e (tX .P X.K E we))(hr:PA X es (tAr n .P X.K E wr))(hs:notStar e=true:=by rfl):PA X (e::es) (tAr (n+1) .P X.K E (Qbx we wr)):=PA.imp (pa_c he hr hs) (Qnb λh=>h)
theorem QcV{A P:Addr->Prop}{H:Hp}:∀{vs:List V}{ds:List Qc},Zf (VD .D A P H) vs ds->DAs A H vs ds
 |_,_,.nil=>.nil
 |_,_,.cons a b=>.cons a (QcV b)
def Qw4(w:DAr):DE:=λδ Q EX=>w δ (λds=>Q (.tuple ds)) EX
def Qwj(w:DAr):DE:=λδ Q EX=>w δ (λds=>Q (.list ds)) EX
theorem Qvl{n:Nat}{es:List QX}{w:DAr}{x1}(h:PA X es (tAr n .D X.K E w))(hn:n<=1000:=by decide):PE X (.Tuple es x1 pos) (tX .F X.K E (Qw4 w)):=by
 refine PE.imp (Qa4 h) λσ H Q ⟨F,δ,R,EX,rel,hw,k,o⟩=>?_
 refine⟨F,δ,_,EX,rel,hw,λds hds hl vs H' rel' kp q=>?_,o⟩;have q':=QcV q;refine⟨by rw[q'.length,hl];exact hn,λa H2 s n e=>k _ hds _ H2 (rel'.same s) (kp.trans (Kp.same rel' s)) ⟨Qgl (λa ha=>rel'.isl ha) s e q',Qd6 e⟩⟩
theorem QcY{σ:L2.St}{δ:Sts}{H H':Hp}{l:Addr}(k:Kp σ δ H H')(n:H' l=none):H l=none:=by
 cases e:H l with
 |none=>rfl
 |some ob=>
  by_cases z:Z9 σ δ l
  ·obtain⟨m,em⟩:=k.2 l z;rw[em] at n;cases n
  ·rw[k.1 _ _ z e] at n;cases n
theorem Qvs{n:Nat}{es:List QX}{w:DAr}(h:PA X es (tAr n .D X.K E w))(hn:n<=1000:=by decide):PE X (.List es pos) (tX .F X.K E (Qwj w)):=by
 refine PE.imp (pe_lstW h) λσ H Q ⟨F,δ,R,EX,rel,hw,k,o⟩=>?_
 refine⟨F,δ,_,EX,rel,hw,λds hds hl vs H' rel' kp q=>?_,o⟩;have q':=QcV q;refine⟨by rw[q'.length,hl];exact hn,λa H2 s n e=>k _ hds _ H2 (rel'.same s) (kp.trans (Kp.same rel' s)) ⟨Qd0 (λa ha=>rel'.isl ha) s n e q',QaF (QcY kp n)⟩⟩
theorem Qvu{pos:Pos}:PE X (.Dict [] [] pos) (tX .D X.K E (dC (.dict []))):=by
 refine PE.imp QsE λσ H Q ⟨F,δ,R,EX,rel,hw,k,o⟩=>λp hp=>?_
 refine k _ hw _ _ (rel.same (Jn hp)) (Kp.same rel (Jn hp)) (.dct (kvs:=[]) (λz=>?_) upd_same rfl);obtain⟨xs,e⟩:=rel.isl z;rw[hp] at e;cases e
def QcC(r:List V->Hp->VK->Prop)(rD:List Qc->(Qc->Prop)->Prop):Prop:=∀(A P:Addr->Prop)(H:Hp)(vs:List V)(ds:List Qc)(R:Qc->Prop)(Q:VK),QcB H->(∀a,A a->∃xs,H a=some (.lst xs))->Zf (DP A P H) vs ds->rD ds R ->
 (∀d,R d->∀v H',Same H H'->DA A H' v d->FrV H H' v->Q v H')->r vs H Q
def dCB(rD:List Qc->(Qc->Prop)->Prop)(wa:DAr):DE:=λδ Q EX=>wa δ (λds=>rD ds Q) EX
theorem QmY{n:Nat}{K:PySem.W.Frag}{r:List V->Hp->VK->Prop}{rD:List Qc->(Qc->Prop)->Prop}{wa:DAr}(hd:QcC r rD)(σ:L2.St)(H:Hp)(Q:VK)(h:tX .F K E (dCB rD wa) σ H Q) :
  tCB (λxs H Q=>QcB H->r xs H Q) (tAr n .P K E wa) σ H Q:=by
 obtain⟨F,δ,R,EX,rel,hw,k,o⟩:=h;refine⟨F,δ,_,EX,rel,hw,λds hds hl vs H' rel' kp q ln=>?_,o⟩;refine hd (Av F σ δ) (Z9 σ δ) H' vs ds R Q ln (λa ha=>rel'.isl ha) q hds λd hR v H2 s dv fr=>?_
 exact k d hR v H2 (rel'.same s) (kp.trans (Kp.same rel' s)) ⟨dv,λl e1 e2=>QcY kp (fr l e1 e2)⟩
variable{x:Str}{bid T:String}{p:Pos}{e:QX}{es:List QX}{n:Nat}{wr:DAr}{r:List V->Hp->VK->Prop}{rD:List Qc->(Qc->Prop)->Prop}
theorem Qox(hc:CallR X (.builtin bid) r)(hd:QcC r rD)(hg:Gl X x)(hm:X.mg x=none)(hv:bootBuiltins x=some (.builtin bid))(ha:PA X (e::es) (tAr n .P X.K E wr))(hn:x ≠ "__name__" := by decide)(hdb:(x == ("__debug__" : Str))=false:=by decide)
  (he:starEach (e::es) X.env=(false,eval e X.env)::starEach es X.env:=by rfl)(hpl:(backTo pos (starEach es X.env)).any (·.1)=false:=by rfl):PE X (.Call (.Name x p) (e::es) [] pos) (tX .F X.K E (dCB rD wr)):=
 PE.imp (pe_callB (CallR.len hc) hg hm hv ha hn hdb he hpl) (QmY hd)
theorem QlN(hc:CallR X (.type T) r)(hd:QcC r rD)(hg:Gl X x)(hm:X.mg x=none)(hv:bootBuiltins x=some (.type T))(ha:PA X (e::es) (tAr n .P X.K E wr))(hn:x ≠ "__name__" := by decide)(hdb:(x == ("__debug__" : Str))=false:=by decide)
  (he:starEach (e::es) X.env=(false,eval e X.env)::starEach es X.env:=by rfl)(hpl:(backTo pos (starEach es X.env)).any (·.1)=false:=by rfl):PE X (.Call (.Name x p) (e::es) [] pos) (tX .F X.K E (dCB rD wr)):=
 PE.imp (QaP (CallR.len hc) hg hm hv ha hn hdb he hpl) (QmY hd)
theorem pd1{A P:Addr->Prop}{H:Hp}{vs:List V}{d:Qc}(q:Zf (DP A P H) vs [d]):∃v,vs=[v]/\DP A P H v d:=by
 cases q with
 |cons a b=>cases b;exact⟨_,rfl,a⟩
theorem pd2{A P:Addr->Prop}{H:Hp}{vs:List V}{d d':Qc}(q:Zf (DP A P H) vs [d,d']):∃v v',vs=[v,v']/\DP A P H v d/\DP A P H v' d':=by
 cases q with
 |cons a b=>cases b with | cons b c=>cases c;exact⟨_,_,rfl,a,b⟩
def Qyf:List Qc->(Qc->Prop)->Prop
 |[.list ds],Q=>Q (.int ds.length)
 |[.tuple ds],Q=>Q (.int ds.length)
 |_,_=>False
theorem QiM{K:PySem.W.Frag}:QcC (Qu3 K) Qyf:=λA P H vs ds R Q ln dm q h k=>by
 unfold Qyf at h;split at h
 ·obtain⟨v,rfl,hv⟩:=pd1 q;obtain⟨l,xs,rfl,e,qq⟩:=hv.list;exact⟨l,xs,rfl,.inl (SqL.of e),by rw[qq.length];exact k _ h _ H (Same.refl H) (.int _) Qar⟩
 ·obtain⟨v,rfl,hv⟩:=pd1 q;obtain⟨l,xs,rfl,e,qq⟩:=hv.tuple;exact⟨l,xs,rfl,.inr (SqT.of e),by rw[qq.length];exact k _ h _ H (Same.refl H) (.int _) Qar⟩
 ·exact h.elim
theorem Qcz:CallR X (.builtin "len") (Qu3 X.K):=ZR
def Qtw:List Qc->(Qc->Prop)->Prop
 |[.int i,.int j],Q=>Q (.int (if j<i then j else i))
 |_,_=>False
theorem Qt2:QcC (λxs H Q=>∃i j,xs=[.int i,.int j]/\Q (.int (if j<i then j else i)) H) Qtw:=λA P H vs ds R Q ln dm q h k=>by
 unfold Qtw at h;split at h
 ·obtain⟨v,v',rfl,h1,h2⟩:=pd2 q;rw[h1.int,h2.int];exact⟨_,_,rfl,k _ h _ H (Same.refl H) (.int _) Qar⟩
 ·exact h.elim
def Qee:List Qc->Option (List Int)
 |[]=>some []
 |.int b::ds=>(Qee ds).map (b::·)
 |_::_=>none
theorem ints_map(bs:List Int):Qee (bs.map QD)=some bs:=by
 induction bs with
 |nil=>rfl
 |cons b bs ih=>rw[JQ,Qee,ih];rfl
theorem Qmv:∀{ds:List Qc}{bs:List Int},Qee ds=some bs->ds=bs.map QD
 |[],bs,h=>by cases h;rfl
 |d::ds,bs,h=>by
  cases d<;>first | (unfold Qee at h;cases h;done) | skip
  rw[Qee] at h;obtain⟨cs,h1,rfl⟩:=JH.mp h;rw[Qmv h1];rfl
theorem QiF{A:Addr->Prop}{H:Hp}:∀{bs:List Int}{xs:List V},DAs A H xs (bs.map QD)->xs=bs.map V.int
 |[],_,.nil=>rfl
 |b::bs,_,.cons (.int _) r=>by rw[QiF r];rfl
def QpP:List Qc->(Qc->Prop)->Prop
 |[.list ds],Q=>Q (.tuple ds)
 |[.tuple ds],Q=>Q (.tuple ds)
 |_,_=>False
def Qtx:List Qc->(Qc->Prop)->Prop
 |[.list ds],Q=>Q (.list ds)
 |[.tuple ds],Q=>Q (.list ds)
 |_,_=>False
theorem Ys{K:PySem.W.Frag}:QcC (QfE K) QpP:=λA P H vs ds R Q ln dm q h k=>by
 unfold QpP at h;split at h
 ·obtain⟨v,rfl,hv⟩:=pd1 q;obtain⟨l,xs,rfl,e,qq⟩:=hv.list;exact⟨l,xs,rfl,.inl ⟨SqL.of e,λl' H' s n e'=>k _ h _ H' s (Qgl dm s e' qq) (Qd6 e')⟩⟩
 ·obtain⟨v,rfl,hv⟩:=pd1 q;obtain⟨l,xs,rfl,e,qq⟩:=hv.tuple;exact⟨l,xs,rfl,.inr ⟨SqT.of e,k _ h _ H (Same.refl H) (Qgl dm (Same.refl H) e qq) (Qd6 e)⟩⟩
 ·exact h.elim
theorem QmX{K:PySem.W.Frag}:QcC (Qlk K) Qtx:=λA P H vs ds R Q ln dm q h k=>by
 unfold Qtx at h;split at h
 ·obtain⟨v,rfl,hv⟩:=pd1 q;obtain⟨l,xs,rfl,e,qq⟩:=hv.list;exact⟨l,xs,rfl,.inl (SqL.of e),λl' H' s n e'=>k _ h _ H' s (Qd0 dm s n e' qq) (QaF n)⟩
 ·obtain⟨v,rfl,hv⟩:=pd1 q;obtain⟨l,xs,rfl,e,qq⟩:=hv.tuple;exact⟨l,xs,rfl,.inr (SqT.of e),λl' H' s n e'=>k _ h _ H' s (Qd0 dm s n e' qq) (QaF n)⟩
 ·exact h.elim
end
section
variable{X:Cx}{E:XK}
inductive Tn where | int | bool | str | tuple | list
def Tn.s:Tn->String
 |.int => "int"
 |.bool => "bool"
 |.str => "str"
 |.tuple => "tuple"
 |.list => "list"
def isT:Tn->Qc->Bool
 |.int,.int _=>true
 |.int,.bool _=>true
 |.bool,.bool _=>true
 |.str,.str _=>true
 |.tuple,.tuple _=>true
 |.list,.list _=>true
 |_,_=>false
theorem QtF{K:PySem.W.Frag}{A P:Addr->Prop}{H:Hp}{v:V}{d:Qc}(tn:Tn)(h:DP A P H v d):∃t,TyOf K H v t/\PySem.W.kitOne K t (.type tn.s)=some (isT tn d):=by
 rcases h with h | ⟨l,xs,ds,rfl,rfl,_,e,q⟩
 ·cases h with
  |non=>exact⟨_,.non,by cases tn<;>rfl⟩
  |bl b=>exact⟨_,.bl _,by cases tn<;>rfl⟩
  |int i=>exact⟨_,.int _,by cases tn<;>rfl⟩
  |str x c=>exact⟨_,.str _,by cases tn<;>rfl⟩
  |tup n e q=>exact⟨_,.tup e,by cases tn<;>rfl⟩
  |lst n e q=>exact⟨_,.lst e,by cases tn<;>rfl⟩
  |dct n e q=>exact⟨_,.dK e,by cases tn<;>rfl⟩
 ·exact⟨_,.lst e,by cases tn<;>rfl⟩
def Qwk(tn:Tn)(we:DE):DE:=λδ Q EX=>we δ (λd=>Q (.bool (isT tn d))) EX
theorem QsZ{e f:QX}{we:DE}{p pos:Pos}(tn:Tn)(hg:Gl X "isinstance")(hm:X.mg "isinstance" = none)(he:PE X e (tX .P X.K E we))(hf:PE X f (tC (.ty tn.s)))(h1:notStar e=true:=by rfl)(h2:notStar f=true:=by rfl) :
  PE X (.Call (.Name "isinstance" p) [e,f] [] pos) (tX .F X.K E (Qwk tn we)):=by
 refine PE.imp (pe_callB Zq hg hm JG (pa_c he (pa_c hf pa_nil h2) h1) (he:=Qa2 h1) (hpl:=by rw[Qa2 h2];rfl)) λσ H Q ⟨F,δ,R,EX,rel,hw,k,o⟩=>?_
 refine⟨F,δ,_,EX,rel,hw,λd hd v H' rel' kp vk=>?_,o⟩;obtain⟨t,ty,et⟩:=QtF (K:=X.K) tn vk;exact⟨v,t,tn.s,_,rfl,ty,et,k _ hd _ H' rel' kp ⟨.bl _,Qaz⟩⟩
theorem Qx8{x:Str}{pos:Pos}(tn:Tn)(hg:Gl X x)(hm:X.mg x=none)(hv:bootBuiltins x=some (.type tn.s))(hn:x ≠ "__name__" := by decide)(hd:(x == ("__debug__" : Str))=false:=by decide):PE X (.Name x pos) (tC (.ty tn.s)):=YK (v:=.ty tn.s) hg hm hv rfl hn hd
abbrev DO:=Sts->(Option Int->Prop)->XP->Prop
def tO(K:PySem.W.Frag)(E:XK)(w:DO):TO:=λσ H Q=>∃(F:Fm)(δ:Sts)(R:Option Int->Prop)(EX:XP),Rel K F σ H δ/\w δ R EX/\(∀d,R d->∀H',Rel K F σ H' δ->Kp σ δ H H'->Q d H')/\Out F E EX
def dNo:DO:=λ_ Q _=>Q none
def dSo(we:DE):DO:=λδ Q EX=>we δ (λd=>match d with
 |.int i=>Q (some i)
 |_=>False) EX
theorem PO.imp{e:Option QX}{t t':TO}(h:PO X e t)(i:∀σ H Q,t' σ H Q->t σ H Q):PO X e t':=λpins s σ H Q I q=>h pins s σ H Q I (i σ H Q q)
theorem Qor:PO X none (tO X.K E dNo):=PO.imp Qsz λσ H Q ⟨F,δ,R,EX,rel,hw,k,o⟩=>k _ hw H rel (Kp.refl rel)
theorem Qoq{e:QX}{we:DE}(he:PE X e (tX .P X.K E we)):PO X (some e) (tO X.K E (dSo we)):=by
 refine PO.imp (Qsy he) λσ H Q ⟨F,δ,R,EX,rel,hw,k,o⟩=>?_
 refine⟨F,δ,_,EX,rel,hw,λd hd v H' rel' kp vk=>?_,o⟩;cases d<;>first | exact(show False from hd).elim | skip
 exact⟨_,DP.int vk,k _ hd H' rel' kp⟩
def cutD(xs:List Qc)(lo hi:Option Int):List Qc:=(xs.drop (HT.sIx xs.length 0 lo)).take (HT.sIx xs.length xs.length hi - HT.sIx xs.length 0 lo)
theorem QmS{A:Addr->Prop}{H:Hp}{xs:List V}{ds:List Qc}(q:DAs A H xs ds)(lo hi:Option Int):DAs A H (QiH xs lo hi) (cutD ds lo hi):=by
 unfold QiH cutD;rw[q.length];exact(q.drop _).take _
def slD(d:Qc)(lo hi:Option Int)(Q:Qc->Prop):Prop:=
 match d with
 |.list ds=>Q (.list (cutD ds lo hi))
 |.tuple ds=>Q (.tuple (cutD ds lo hi))
 |_=>False
def dSl(we:DE)(wl wh:DO):DE:=λδ Q EX=>we δ (λd=>wl δ (λlo=>wh δ (λhi=>slD d lo hi Q) EX) EX) EX
def Qu0(K:PySem.W.Frag):V->Option Int->Option Int->Hp->VK->Prop:=λx a b H Q=>QyR x a b H Q∨QuZ K x a b H Q
theorem Qov{e:QX}{lo hi:Option QX}{we:DE}{wl wh:DO}{p2 pos:Pos}(he:PE X e (tX .P X.K E we))(hl:PO X lo (tO X.K E wl))(hh:PO X hi (tO X.K E wh)):PE X (.Subscript e (.Slice lo hi none p2) pos) (tX .F X.K E (dSl we wl wh)):=by
 refine PE.imp (Qoa (r:=Qu0 X.K) (SlR.or2 QuR QnL) he hl hh) λσ H Q ⟨F,δ,R,EX,rel,hw,k,o⟩=>?_
 refine⟨F,δ,_,EX,rel,hw,λd hd v H1 rel1 kp1 vk=>⟨F,δ,_,EX,rel1,hd,λa ha H2 rel2 kp2=>⟨F,δ,_,EX,rel2,ha,λb hb H3 rel3 kp3=>?_,o⟩,o⟩,o⟩;have v3:=kp3.dp (kp2.dp vk);have K3:=(kp1.trans kp2).trans kp3;cases d<;>first | exact(show False from hb).elim | skip
 ·obtain⟨l,xs,rfl,e,q⟩:=DP.list v3;exact .inr ⟨l,xs,rfl,SqL.of e,λp H' s n e'=>k _ hb _ H' (rel3.same s) (K3.trans (Kp.same rel3 s)) ⟨Qd0 (λa ha=>rel3.isl ha) s n e' (QmS q _ _),QaF (QcY K3 n)⟩⟩
 ·obtain⟨l,xs,rfl,e,q⟩:=DP.tuple v3;exact .inl ⟨l,xs,rfl,e,λp H' s e'=>k _ hb _ H' (rel3.same s) (K3.trans (Kp.same rel3 s)) ⟨Qgl (λa ha=>rel3.isl ha) s e' (QmS q _ _),Qd6 e'⟩⟩
abbrev DF:=List Sl->(Qc->Prop)->XP->Prop
def Kq(pt:Addr->Prop)(H H':Hp):Prop:=(∀b o,¬pt b->H b=some o->H' b=some o)/\∀p,pt p->∃n,H' p=some (.lst [.int n])
def ZE(fr:Bool)(f:DF):Sp:=λvs H Q Ex=>∃(A pt:Addr->Prop)(args:List Sl)(R:Qc->Prop)(EX:XP),(∀a,A a->∃xs,H a=some (.lst xs))/\(∀p,pt p->A p/\∃n,H p=some (.lst [.int n]))/\Zf (QhU A pt H) vs args/\f args R EX /\
 (∀d,R d->∀v H',Kq pt H H'->DA A H' v d->(fr=true->FrV H H' v)->Q v H')/\∀C,EX C->∀H',Kq pt H H'->Ex (.ref C) none H'
def QxU:DSl:=λ_ Q _=>Q []
def sV(we:DE)(wr:DSl):DSl:=λδ Q EX=>we δ (λd=>wr δ (λds=>Q (.v d::ds)) EX) EX
def QwT(i:Nat)(wr:DSl):DSl:=λδ Q EX=>match δ[i]? with
 |some .pot=>wr δ (λds=>Q (.pot::ds)) EX
 |_=>False
theorem QsR:PA X [] (tAs X.K E QxU):=PA.imp pa_nil λσ H Q ⟨F,δ,R,EX,rel,hw,k,o⟩=>k [] hw [] H rel (Kp.refl rel) .nil
theorem Qx3{e:QX}{es:List QX}{we:DE}{wr:DSl}(he:PE X e (tX .D X.K E we))(hr:PA X es (tAs X.K E wr))(hs:notStar e=true:=by rfl):PA X (e::es) (tAs X.K E (sV we wr)):=by
 refine PA.imp (pa_c he hr hs) λσ H Q ⟨F,δ,R,EX,rel,hw,k,o⟩=>?_
 refine⟨F,δ,_,EX,rel,hw,λd hd v H' rel' kp vk=>⟨F,δ,_,EX,rel',hd,λds hds vs H2 rel2 kp2 vks=>?_,o⟩,o⟩;exact k _ hds (v::vs) H2 rel2 (kp.trans kp2) (.cons (kp2.da vk) vks)
theorem QsO{e:QX}{es:List QX}{i:Nat}{wr:DSl}(he:PE X e (Yy i))(hr:PA X es (tAs X.K E wr))(hs:notStar e=true:=by rfl):PA X (e::es) (tAs X.K E (QwT i wr)):=by
 refine PA.imp (pa_c he hr hs) λσ H Q ⟨F,δ,R,EX,rel,hw,k,o⟩=>?_
 unfold QwT at hw;split at hw
 ·rename_i hd
  obtain⟨x,hx⟩:=rel.lt hd;obtain⟨p,n,rfl,e,q⟩:=rel.sl i _ _ hx hd;refine⟨.ref p,hx,F,δ,_,EX,rel,hw,λds hds vs H2 rel2 kp2 vks=>?_,o⟩;exact k _ hds (.ref p::vs) H2 rel2 kp2 (.cons ⟨p,rfl,i,hx,hd⟩ vks)
 ·exact hw.elim
def QjT(f:DF)(wa:DSl):DE:=λδ Q EX=>wa δ (λargs=>f args Q EX) EX
theorem Kq.kp{K:PySem.W.Frag}{F:Fm}{σ:L2.St}{δ:Sts}{H H':Hp}(k:Kq (Z9 σ δ) H H'):Kp σ δ H H':=k
theorem QgT{m:Md}{fr:Bool}{K:PySem.W.Frag}{f:DF}{wa:DSl}(hm:∀{F:Fm}{σ:L2.St}{δ:Sts}{H H':Hp}{v:V}{d:Qc},DA (Av F σ δ) H' v d->(fr=true->FrV H H' v)->Vok m F σ δ H H' v d)(σ:L2.St)(H:Hp)(Q:VK)(h:tX m K E (QjT f wa) σ H Q):QrW (ZE fr f) [] E (tAs K E wa) σ H Q:=by
 obtain⟨F,δ,R,EX,rel,hw,k,o⟩:=h;refine⟨F,δ,_,EX,rel,hw,λargs ha vs H1 rel1 kp1 q=>?_,o⟩;show ZE fr f (vs++[]) H1 Q E;rw[ZV];refine⟨Av F σ δ,Z9 σ δ,args,R,EX,λa ha=>rel1.isl ha,λp hp=>⟨Y9 hp,(Kp.refl rel1).2 p hp⟩,q,ha,λd hd v H' kq dv fr=>?_,λC hC H' kq=>o C hC H' (rel1.kp kq).ke⟩;exact k d hd v H' (rel1.kp kq) (kp1.trans kq) (hm dv λz l e1 e2=>QcY kp1 (fr z l e1 e2))
variable{CX:CXT}{k:Nat}{f:Addr}{fd:Qq}{ps:List Str}{x:Str}{p pos:Pos}{e:QX}{es:List QX}{fD:DF}{wa:DSl}
theorem Qs1(G:FnOk X.prog X.w X.K X.mg X.base CX k f fd ps (ZE false fD))(hr:Room k X.A)(hg:Gl X x)(hm:X.mg x=some (.ref f))(hk:PySem.W.keepIn X.K (.ref f)=true)(hb:Binds X.K fd ps [])(hx:QaT CX X E)
  (ha:PA X (e::es) (tAs X.K E wa))(hdb:(x == ("__debug__" : Str))=false:=by decide)(he:starEach (e::es) X.env=(false,eval e X.env)::starEach es X.env:=by rfl)(hpl:(backTo pos (starEach es X.env)).any (·.1)=false:=by rfl) :
  PE X (.Call (.Name x p) (e::es) [] pos) (tX .D X.K E (QjT fD wa)):=PE.imp (pe_call G hr hg hm hk hb .nil hx ha hdb he hpl) (QgT λh _=>h)
theorem Qow(G:FnOk X.prog X.w X.K X.mg X.base CX k f fd ps (ZE true fD))(hr:Room k X.A)(hg:Gl X x)(hm:X.mg x=some (.ref f))(hk:PySem.W.keepIn X.K (.ref f)=true)(hb:Binds X.K fd ps [])(hx:QaT CX X E)
  (ha:PA X (e::es) (tAs X.K E wa))(hdb:(x == ("__debug__" : Str))=false:=by decide)(he:starEach (e::es) X.env=(false,eval e X.env)::starEach es X.env:=by rfl)(hpl:(backTo pos (starEach es X.env)).any (·.1)=false:=by rfl) :
  PE X (.Call (.Name x p) (e::es) [] pos) (tX .F X.K E (QjT fD wa)):=PE.imp (pe_call G hr hg hm hk hb .nil hx ha hdb he hpl) (QgT λh z=>⟨h,z rfl⟩)
def scal:Qc->Bool
 |.list _=>false
 |.tuple _=>false
 |.dict _=>false
 |_=>true
end
abbrev DG:=Qc->Sts->(Sts->Prop)->Prop
def tG(ix:List Nat)(K:PySem.W.Frag)(w:DG):TG:=λv σ H Q=>∃(F:Fm)(δ:Sts)(d:Qc)(R:Sts->Prop),Rel K F σ H δ/\DA (Av F σ δ) H v d/\w d δ R /\
 ∀δ',R δ'->∀σ',Rel K F σ' H δ'->Stp F σ H δ σ' H δ'->σ'.length=σ.length->(∀j,j∉ix->σ'[j]? = σ[j]?)->Q σ' H
theorem Y8{α:Type}{l:List α}{i j:Nat}{x:α}(h:j≠i):(l.set i x)[j]? = l[j]? := Qav (Y2 h)
theorem set_eq{α:Type}{l:List α}{i:Nat}{x y:α}(h:(l.set i x)[i]? = some y):y=x:=by
 rw[Qei] at h;simp only[if_true] at h;split at h
 ·exact(QB h).symm
 ·cases h
theorem Qdn{F:Fm}{σ:L2.St}{δ:Sts}{i:Nat}{o:Option V}{d:Qc}{a:Addr}(h:Av F (σ.set i o) (δ.set i (.v d)) a):Av F σ δ a:=by
 rcases h with h | ⟨j,h1,h2⟩
 ·exact .inl h
 ·by_cases z:j=i
  ·subst z;rcases h2 with h2 | ⟨ds,h2⟩<;>cases set_eq h2
  ·rw[Y8 z] at h1 h2;exact .inr ⟨j,h1,h2⟩
theorem Rel.setv{K:PySem.W.Frag}{F:Fm}{σ:L2.St}{H:Hp}{δ:Sts}(r:Rel K F σ H δ){i:Nat}{v:V}{d:Qc}(q:DA (Av F σ δ) H v d):Rel K F (σ.set i (some v)) H (δ.set i (.v d)) where
 len:=by rw[Zc,Zc];exact r.len
 dom:=r.dom
 dom0:=r.dom0
 pt0:=r.pt0
 kx:=r.kx
 sl:=λj o x h1 h2=>by
  have wk:∀{v:V}{d':Qc},DA (Av F σ δ) H v d'->DA (Av F (σ.set i (some v)) (δ.set i (.v d))) H v d':=λh=>h.mv (λ_ _ _ e=>e) λa z=>.inl (Qdn z)
  by_cases z:j=i
  ·subst z;cases set_eq h1;cases set_eq h2;exact⟨v,rfl,q.mv (λ_ _ _ e=>e) λa z=>.inl (Qdn z)⟩
  ·rw[Y8 z] at h1 h2;have h:=r.sl j o x h1 h2;cases x with
   |no=>trivial
   |v d=>obtain⟨v',e,q'⟩:=h;exact⟨v',e,q'.mv (λ_ _ _ e=>e) λa z=>.inl (Qdn z)⟩
   |own ds=>obtain⟨l,xs,e,e2,q',f⟩:=h;exact⟨l,xs,e,e2,q'.mv (λ_ _ _ e=>e) λa z=>.inl (Qdn z),f⟩
   |pk ds=>obtain⟨l,xs,e,e2,q',f⟩:=h;exact⟨l,xs,e,e2,q'.mv (λ_ _ _ e=>e) λa z=>.inl (Qdn z),f⟩
   |pot=>exact h
   |scr=>exact h
 inj:=λj k a ds h1 h2 ⟨h3,h4⟩=>by
  by_cases z:j=i
  ·subst z;cases set_eq h1
  ·rw[Y8 z] at h1 h2;by_cases z2:k=i
   ·subst z2;rcases h4 with h4 | ⟨ds,h4⟩<;>cases set_eq h4
   ·rw[Y8 z2] at h3 h4;exact r.inj j k a ds h1 h2 ⟨h3,h4⟩
theorem Stp.setv{F:Fm}{σ:L2.St}{H:Hp}{δ:Sts}{i:Nat}{o:Option V}{d:Qc}:Stp F σ H δ (σ.set i o) H (δ.set i (.v d)):=⟨λ_ _ _ e=>e,λa z=>.inl (Qdn z)⟩
def gN(i:Nat):DG:=λd δ Q=>Q (δ.set i (.v d))
def Qh7:Sts->List Nat->List Qc->Sts
 |δ,i::is,d::ds=>Qh7 (δ.set i (.v d)) is ds
 |δ,_,_=>δ
def gTN(is:List Nat):DG:=λd δ Q=>match d with
 |.tuple ds=>ds.length=is.length/\Q (Qh7 δ is ds)
 |_=>False
section
variable{X:Cx}{E:XK}
theorem PG.imp{e:QX}{t t':TG}(h:PG X e t)(i:∀v σ H Q,t' v σ H Q->t v σ H Q):PG X e t':=λpins s σ H v u Q I r q=>h pins s σ H v u Q I r (i v σ H Q q)
theorem Qou{e:QX}{i:Nat}(h:PG X e (YN i)):PG X e (tG [i] X.K (gN i)):=PG.imp h λv σ H Q ⟨F,δ,d,R,rel,dv,hw,k⟩=>
 k _ hw _ (rel.setv dv) Stp.setv (Zc ..) λj hj=>Y8 λz=>hj (by rw[z];exact JL.mpr rfl)
def gNs:List Nat->TGs
 |[]=>Qw3
 |i::is=>QjP (YN i) (gNs is)
theorem Qix{K:PySem.W.Frag}{F:Fm}{H:Hp}{Q:L2.St->Hp->Prop}:∀(is:List Nat)(vs:List V)(ds:List Qc)(σ:L2.St)(δ:Sts),ds.length=is.length->Rel K F σ H δ->DAs (Av F σ δ) H vs ds ->
  (∀σ',Rel K F σ' H (Qh7 δ is ds)->Stp F σ H δ σ' H (Qh7 δ is ds)->σ'.length=σ.length->(∀j,j∉is->σ'[j]? = σ[j]?)->Q σ' H)->gNs is vs σ H Q
 |[],vs,ds,σ,δ,hl,rel,q,k=>by
  cases ds with
  |nil=>cases q;exact⟨rfl,k σ rel Stp.refl rfl λ_ _=>rfl⟩
  |cons d ds=>cases hl
 |i::is,vs,ds,σ,δ,hl,rel,q,k=>by
  cases ds with
  |nil=>cases hl
  |cons d ds=>
   cases q with
   |@cons v vs _ _ q qs=>
    refine⟨v,vs,rfl,?_⟩;refine Qix is vs ds _ _ (by simpa using hl) (rel.setv q) (qs.mv (λ_ _ _ e=>e) λa z=>.inl (Qdn z)) λσ' r' st hl' hj=>?_
    refine k σ' r' (Stp.setv.trans st) (by rw[hl',Zc]) λj hn=>?_
    rw[hj j (λz=>hn (Jm _ z)),Y8 (λz=>hn (by rw[z];exact Zl))]
theorem QsX{e:QX}{n:Nat}{is:List Nat}(h:PG X e (Qw2 X.K n (gNs is)))(hn:is.length=n:=by rfl):PG X e (tG is X.K (gTN is)):=PG.imp h λv σ H Q ⟨F,δ,d,R,rel,dv,hw,k⟩=>by
 unfold gTN at hw;split at hw
 ·obtain⟨hl,hR⟩:=hw;cases dv with
  |@tup a xs ds na e q=>
   exact⟨a,xs,rfl,SqT.of e,by rw[q.length,hl,hn],Qix is xs _ σ δ hl rel q λσ' r' st hl' hj=>k _ hR σ' r' st hl' hj⟩
 ·exact hw.elim
def ItD(A S:Addr->Prop)(J:It)(items:List Qc)(H1:Hp):Prop:=items.length<=sizeLine/\∀(H2:Hp)(A':Addr->Prop),(∀b o,S b->H1 b=some o->H2 b=some o)->(∀b,A' b->A b∨H1 b=none)->(∀a,A' a->∃xs,H2 a=some (.lst xs)) ->
 (∀(i:Nat) d,items[i]? = some d->J.go i H2/\∀x H3,J.yld i H2 x H3->Same H2 H3/\DA A' H3 x d)/\J.stop items.length H2
def Sx(m:Md)(F:Fm)(σ:L2.St)(δ:Sts)(b:Addr):Prop:=
 match m with
 |.P=>¬Z9 σ δ b
 |_=>¬Av F σ δ b
abbrev DI:=Sts->(List Qc->Prop)->XP->Prop
def tI(m:Md)(K:PySem.W.Frag)(E:XK)(w:DI):TI:=λσ H R=>∃(F:Fm)(δ:Sts)(R':List Qc->Prop)(EX:XP),Rel K F σ H δ/\w δ R' EX/\(∀items,R' items->∀J H',Rel K F σ H' δ->Kp σ δ H H'->ItD (Av F σ δ) (Sx m F σ δ) J items H'->R J H')/\Out F E EX
theorem PI.imp{tg e:QX}{t t':TI}(h:PI X tg e t)(i:∀σ H R,QcB H->t' σ H R->t σ H R):PI X tg e t':=λpins s σ H R I q=>h pins s σ H R I (i σ H R (Inv.lens I) q)
theorem PI.len{tg e:QX}{t:TI}(h:PI X tg e t):PI X tg e (λσ H R=>t σ H λJ H1=>QcB H1->R J H1):=λpins s σ H R I q=>by
 refine thn (h pins s σ H _ I q) λv s1 h1=>thn h1 λitv s2 h2=>?_
 obtain⟨it,fp,tn,J,H',e,I',T,t0,fo,hR⟩:=h2;exact⟨it,fp,tn,J,H',e,I',T,t0,fo,hR (Inv.lens I')⟩
def Qy9(w:DE):DI:=λδ Q EX=>w δ (λd=>match d with
 |.list ds=>Q ds
 |_=>False) EX
def Qy8(w:DE):DI:=λδ Q EX=>w δ (λd=>match d with
 |.tuple ds=>Q ds
 |_=>False) EX
theorem Qfw{A S:Addr->Prop}{H H2:Hp}{A':Addr->Prop}{xs:List V}{ds:List Qc}(sA:∀b,¬A b->S b)(k:∀b o,S b->H b=some o->H2 b=some o)(m:∀b,A' b->A b∨H b=none)(q:DAs A H xs ds):DAs A' H2 xs ds:=q.mv (λa o n e=>k a o (sA a n) e) m
theorem Qyi{K:PySem.W.Frag}{A S:Addr->Prop}{H:Hp}{l:Addr}{xs:List V}{ds:List Qc}(sA:∀b,¬A b->S b)(sl:S l)(e:H l=some (.lst xs))(q:DAs A H xs ds)(ln:xs.length<=sizeLine):ItD A S (Itl K l) ds H:=by
 refine⟨by rw[<- q.length];exact ln,λH2 A' k m dm=>⟨λi d hd=>?_,xs,SqL.of (k _ _ sl e),by rw[q.length];exact Qh _⟩⟩;obtain⟨x,hx,dx⟩:=(Qfw sA k m q).get i d hd;refine⟨⟨xs,x,SqL.of (k _ _ sl e),hx⟩,λy H3 ⟨e3,hy⟩=>?_⟩;subst e3;have:=hy xs (SqL.of (k _ _ sl e));rw[hx] at this;cases this;exact⟨Same.refl _,dx⟩
theorem Qyg{K:PySem.W.Frag}{A S:Addr->Prop}{H:Hp}{l:Addr}{xs:List V}{ds:List Qc}(sA:∀b,¬A b->S b)(sl:S l)(e:H l=some (.tup xs))(q:DAs A H xs ds)(ln:xs.length<=sizeLine):ItD A S (Itt K l) ds H:=by
 refine⟨by rw[<- q.length];exact ln,λH2 A' k m dm=>⟨λi d hd=>?_,xs,SqT.of (k _ _ sl e),by rw[q.length];exact Qh _⟩⟩;obtain⟨x,hx,dx⟩:=(Qfw sA k m q).get i d hd;refine⟨⟨xs,x,SqT.of (k _ _ sl e),hx⟩,λy H3 ⟨e3,hy⟩=>?_⟩;subst e3;have:=hy xs (SqT.of (k _ _ sl e));rw[hx] at this;cases this;exact⟨Same.refl _,dx⟩
theorem QkR{m:Md}{F:Fm}{σ:L2.St}{δ:Sts}{b:Addr}(h:¬Av F σ δ b):Sx m F σ δ b:=by
 cases m
 ·exact h
 ·exact λz=>h (Y9 z)
 ·exact h
theorem stL{m:Md}{F:Fm}{σ:L2.St}{δ:Sts}{H H':Hp}{v:V}{ds:List Qc}(h:VD m (Av F σ δ) (Z9 σ δ) H v (.list ds)):∃l xs,v=.ref l/\Sx m F σ δ l/\H l=some (.lst xs)/\DAs (Av F σ δ) H xs ds:=by
 cases m
 ·cases h with | @lst a xs _ n e q=>exact⟨a,xs,rfl,n,e,q⟩
 ·rcases h with h | ⟨l,xs,ds',rfl,e,n,e2,q⟩
  ·cases h with | @lst a xs _ n e q=>exact⟨a,xs,rfl,QkR n,e,q⟩
  ·cases e;exact⟨l,xs,rfl,n,e2,q⟩
 ·cases h with | @lst a xs _ n e q=>exact⟨a,xs,rfl,n,e,q⟩
theorem stT{m:Md}{F:Fm}{σ:L2.St}{δ:Sts}{H H':Hp}{v:V}{ds:List Qc}(h:VD m (Av F σ δ) (Z9 σ δ) H v (.tuple ds)):∃l xs,v=.ref l/\Sx m F σ δ l/\H l=some (.tup xs)/\DAs (Av F σ δ) H xs ds:=by
 cases m
 ·cases h with | @tup a xs _ n e q=>exact⟨a,xs,rfl,n,e,q⟩
 ·rcases h with h | ⟨l,xs,ds',rfl,e,n,e2,q⟩
  ·cases h with | @tup a xs _ n e q=>exact⟨a,xs,rfl,QkR n,e,q⟩
  ·cases e
 ·cases h with | @tup a xs _ n e q=>exact⟨a,xs,rfl,n,e,q⟩
theorem QkD{m:Md}{F:Fm}{σ:L2.St}{δ:Sts}{H H':Hp}{v:V}{d:Qc}(h:Vok m F σ δ H H' v d):VD m (Av F σ δ) (Z9 σ δ) H' v d:=by
 cases m
 ·exact h
 ·exact h
 ·exact h.1
variable{m:Md}{tg e e':QX}{w w':DE}{p pos tpos:Pos}
theorem Qot(h:PE X e (tX m X.K E w)):PI X tg e (tI m X.K E (Qy9 w)):=by
 refine PI.imp (PI.len (QsB h)) λσ H R _ ⟨F,δ,R',EX,rel,hw,k,o⟩=>?_
 refine⟨F,δ,_,EX,rel,hw,λd hd v H' rel' kp vk=>?_,o⟩;cases d<;>first | exact(show False from hd).elim | skip
 obtain⟨l,xs,rfl,sl,e,q⟩:=stL (H':=H') (QkD vk);exact⟨l,rfl,⟨xs,SqL.of e⟩,λln=>k _ hd _ H' rel' kp (Qyi (λb=>QkR) sl e q (ln _ _ (.inl e)))⟩
theorem QsW(h:PE X e (tX m X.K E w)):PI X tg e (tI m X.K E (Qy8 w)):=by
 refine PI.imp (PI.len (Qp8 h)) λσ H R _ ⟨F,δ,R',EX,rel,hw,k,o⟩=>?_
 refine⟨F,δ,_,EX,rel,hw,λd hd v H' rel' kp vk=>?_,o⟩;cases d<;>first | exact(show False from hd).elim | skip
 obtain⟨l,xs,rfl,sl,e,q⟩:=stT (H':=H') (QkD vk);exact⟨l,rfl,⟨xs,SqT.of e⟩,λln=>k _ hd _ H' rel' kp (Qyg (λb=>QkR) sl e q (ln _ _ (.inr e)))⟩
def QfC(lo:Int)(n:Nat):List Qc:=(QY n).map λ(i:Nat)=>.int (lo+i)
theorem QbY{lo:Int}{n i:Nat}{d:Qc}(h:(QfC lo n)[i]? = some d):i<n/\d=.int (lo+i):=by
 unfold QfC at h;rw[QC] at h;by_cases z:i<n
 ·rw[JC z] at h;exact⟨z,(QB h).symm⟩
 ·rw[Jr (by rw[Q8];omega)] at h;cases h
theorem QfB{lo:Int}{n:Nat}:(QfC lo n).length=n:=by unfold QfC;rw[Qg,Q8]
theorem Qyh{A S:Addr->Prop}{H:Hp}{lo:Int}{n:Nat}(hn:n<=1000000):ItD A S (Itr lo n) (QfC lo n) H:=by
 refine⟨by rw[QfB];exact QL hn QhE,λH2 A' k m dm=>⟨λi d hd=>?_,by rw[QfB];exact Qh _⟩⟩;obtain⟨hi,rfl⟩:=QbY hd;exact⟨hi,λx H3 ⟨e1,e2⟩=>by subst e1 e2;exact⟨Same.refl _,.int _⟩⟩
def Qwg(w:DE):DI:=λδ Q EX=>w δ (λd=>match d with
 |.int j=>(-1000000<=j/\j<=1000000)/\Q (QfC 0 j.toNat)
 |_=>False) EX
theorem Qos(hg:Gl X "range")(hm:X.mg "range" = none)(h:PE X e (tX .P X.K E w))(hs:notStar e=true:=by rfl):PI X tg (.Call (.Name "range" p) [e] [] pos) (tI m X.K E (Qwg w)):=by
 refine PI.imp (Qbp hg hm (pa_c h pa_nil hs) (by rw[Qa2 hs];rfl)) λσ H R _ ⟨F,δ,R',EX,rel,hw,k,o⟩=>?_
 refine⟨F,δ,_,EX,rel,hw,λd hd v H' rel' kp vk=>?_,o⟩;cases d<;>first | exact(show False from hd).elim | skip
 obtain⟨⟨h1,h2⟩,hR⟩:=hd;rw[DP.int vk];exact⟨_,rfl,by omega,by omega,k _ hR _ H' rel' kp (Qyh (by omega))⟩
theorem Qs3{A':Addr->Prop}{H2:Hp}{r:Addr}{x y:V}{d d':Qc}(dm:∀a,A' a->∃xs,H2 a=some (.lst xs))(n:H2 r=none)(q:DA A' H2 x d)(q':DA A' H2 y d'):DA A' (upd H2 r (.tup [x,y])) (.ref r) (.tuple [d,d']):=
 .tup (λz=>by obtain⟨xs,e⟩:=dm r z;rw[n] at e;cases e) upd_same (.cons (q.same (Jn n)) (.cons (q'.same (Jn n)) .nil))
def QgL(ds:List Qc):List Qc:=(QY ds.length).map λ(i:Nat)=>.tuple [.int i,ds.getD i .none]
theorem QfV{ds:List Qc}{i:Nat}{d:Qc}(h:(QgL ds)[i]? = some d):∃e,ds[i]? = some e/\d=.tuple [.int i,e]:=by
 unfold QgL at h;rw[QC] at h;by_cases z:i<ds.length
 ·rw[JC z] at h;refine⟨ds[i],Qi z,?_⟩;rw[<- QB h];show QaJ [.int i,ds.getD i .none]=_;rw[QJ,Qi z];rfl
 ·rw[Jr (by rw[Q8];omega)] at h;cases h
theorem QfU{ds:List Qc}:(QgL ds).length=ds.length:=by unfold QgL;rw[Qg,Q8]
def Qza(w:DE):DI:=λδ Q EX=>w δ (λd=>match d with
 |.list ds=>Q (QgL ds)
 |_=>False) EX
variable{elts:List QX}
theorem QlK{x1}(hg:Gl X "enumerate")(hm:X.mg "enumerate" = none)(h:PE X e (tX m X.K E w))(hs:notStar e=true:=by rfl):PI X (.Tuple elts x1 tpos) (.Call (.Name "enumerate" p) [e] [] pos) (tI m X.K E (Qza w)):=by
 refine PI.imp (PI.len (QsC hg hm (pa_c h pa_nil hs) (by rw[Qa2 hs];rfl))) λσ H R _ ⟨F,δ,R',EX,rel,hw,k,o⟩=>?_
 refine⟨F,δ,_,EX,rel,hw,λd hd v H' rel' kp vk=>?_,o⟩;cases d<;>first | exact(show False from hd).elim | skip
 obtain⟨l,xs,rfl,sl,e,q⟩:=stL (H':=H') (QkD vk);refine⟨l,xs,rfl,e,λln=>k _ hd _ H' rel' kp ⟨by rw[QfU,<- q.length];exact ln _ _ (.inl e),λH2 A' kk mm dm=>⟨λi d hd'=>?_,xs,kk _ _ sl e,by rw[QfU,q.length];exact Qh _⟩⟩⟩;obtain⟨d',hd2,rfl⟩:=QfV hd';obtain⟨x,hx,dx⟩:=(Qfw (S:=Sx m F σ δ) (λb=>QkR) kk mm q).get i d' hd2;refine⟨⟨xs,x,kk _ _ sl e,hx⟩,λy H3 ⟨r,x',nr,hx',e1,e2⟩=>?_⟩;subst e1 e2;have:=hx' xs (kk _ _ sl e);rw[hx] at this;cases this;exact⟨Jn nr,Qs3 dm nr (.int _) dx⟩
end
def Qt4:Option Sl->Sl
 |some (.v d)=>.v d
 |some (.own ds)=>.pk ds
 |some (.pk ds)=>.pk ds
 |some .pot=>.pot
 |_=>.no
def QdG(cap:List (Option Nat))(δ:Sts):Sts:=cap.map λo=>match o with
 |none=>.no
 |some j=>Qt4 δ[j]?
theorem Qf3{cap:List (Option Nat)}{σ:L2.St}{i:Nat}{o:Option V}(h:(Qc2 cap σ)[i]? = some o):(cap[i]? = some none/\o=none)∨∃j,cap[i]? = some (some j)/\o=(σ[j]?).getD none:=by
 unfold Qc2 at h;rw[QC] at h;obtain⟨c,hc,rfl⟩:=JH.mp h;cases c with
 |none=>exact .inl ⟨hc,rfl⟩
 |some j=>exact .inr ⟨j,hc,rfl⟩
theorem Qf4{cap:List (Option Nat)}{δ:Sts}{i:Nat}{x:Sl}(h:(QdG cap δ)[i]? = some x):(cap[i]? = some none/\x=.no)∨∃j,cap[i]? = some (some j)/\x=Qt4 δ[j]? := by
 unfold QdG at h;rw[QC] at h;obtain⟨c,hc,rfl⟩:=JH.mp h;cases c with
 |none=>exact .inl ⟨hc,rfl⟩
 |some j=>exact .inr ⟨j,hc,rfl⟩
theorem QaA{cap:List (Option Nat)}{σ:L2.St}{δ:Sts}{i:Nat}{o:Option V}{x:Sl}(h1:(Qc2 cap σ)[i]? = some o)(h2:(QdG cap δ)[i]? = some x)(hx:x≠.no):∃(j:Nat)(y:Sl),δ[j]? = some y/\x=Qt4 (some y)/\o=(σ[j]?).getD none:=by
 rcases Qf4 h2 with⟨_,e⟩ | ⟨j,hj,e⟩
 ·exact absurd e hx
 ·rcases Qf3 h1 with⟨z,_⟩ | ⟨j',hj',e'⟩
  ·rw[hj] at z;cases z
  ·rw[hj] at hj';cases hj';cases e2:δ[j]? with
   |none=>rw[e2] at e;exact absurd e hx
   |some y=>exact⟨j,y,e2,by rw[e,e2],e'⟩
theorem Qb8{cap:List (Option Nat)}{σ:L2.St}{δ:Sts}{a:Addr}(h:Z9 (Qc2 cap σ) (QdG cap δ) a):Z9 σ δ a:=by
 obtain⟨i,h1,h2⟩:=h;obtain⟨j,y,hy,e,eo⟩:=QaA h1 h2 (λz=>by cases z);cases y<;>first | (cases e;done) | skip
 refine⟨j,?_,hy⟩;cases e2:σ[j]? with
 |none=>rw[e2] at eo;cases eo
 |some o'=>rw[e2] at eo;exact congrArg some eo.symm
def inF(A1:Addr->Prop)(cap:List (Option Nat))(σ:L2.St)(δ:Sts)(H:Hp):Fm:=⟨H,A1,Z9 (Qc2 cap σ) (QdG cap δ)⟩
theorem Qiw{A1:Addr->Prop}{cap:List (Option Nat)}{σ:L2.St}{δ:Sts}{H:Hp}(h:∀a,Z9 σ δ a->A1 a){a:Addr}:Av (inF A1 cap σ δ H) (Qc2 cap σ) (QdG cap δ) a↔A1 a:=by
 constructor
 ·rintro(z | ⟨i,h1,h2⟩)
  ·exact z
  ·rcases h2 with h2 | ⟨ds,h2⟩
   ·exact h a (Qb8 ⟨i,h1,h2⟩)
   ·obtain⟨j,y,hy,e,eo⟩:=QaA h1 h2 (λz=>by cases z);cases y<;>cases e
 ·exact .inl
theorem Qmx{K:PySem.W.Frag}{F:Fm}{σ:L2.St}{δ:Sts}{H1 H3:Hp}{A1:Addr->Prop}{cap:List (Option Nat)}(rel:Rel K F σ H1 δ)(hA:∀a,Av F σ δ a->A1 a)(hN:∀a,A1 a->Av F σ δ a∨H1 a=none)
  (dm:∀a,A1 a->∃xs,H3 a=some (.lst xs))(kp:Kp σ δ H1 H3):Rel K (inF A1 cap σ δ H3) (Qc2 cap σ) H3 (QdG cap δ) where
 len:=by unfold Qc2 QdG;rw[Qg,Qg]
 dom:=dm
 dom0:=dm
 pt0:=λp hp=>⟨hA p (Y9 (Qb8 hp)),kp.2 p (Qb8 hp)⟩
 kx:=λb o _ e=>e
 sl:=λi o x h1 h2=>by
  have iv:∀{a:Addr},Av (inF A1 cap σ δ H3) (Qc2 cap σ) (QdG cap δ) a->A1 a:=λ{a}=>(Qiw λa z=>hA a (Y9 z)).mp
  have mv:∀{v:V}{d:Qc},DA (Av F σ δ) H1 v d->DA (Av (inF A1 cap σ δ H3) (Qc2 cap σ) (QdG cap δ)) H3 v d:=λq=>q.mv (λa o n e=>kp.1 a o (λz=>n (Y9 z)) e) λa z=>hN a (iv z)
  have mvs:∀{v:List V}{d:List Qc},DAs (Av F σ δ) H1 v d->DAs (Av (inF A1 cap σ δ H3) (Qc2 cap σ) (QdG cap δ)) H3 v d:=λq=>q.mv (λa o n e=>kp.1 a o (λz=>n (Y9 z)) e) λa z=>hN a (iv z)
  cases x with
  |no=>trivial
  |own ds=>
   obtain⟨j,y,hy,e,eo⟩:=QaA h1 h2 (λz=>by cases z);cases y<;>cases e
  |scr=>
   obtain⟨j,y,hy,e,eo⟩:=QaA h1 h2 (λz=>by cases z);cases y<;>cases e
  |v d=>
   obtain⟨j,y,hy,e,eo⟩:=QaA h1 h2 (λz=>by cases z);cases y<;>first | (cases e;done) | skip
   cases e;obtain⟨x,hx⟩:=rel.lt hy;obtain⟨v,rfl,q⟩:=rel.sl j _ _ hx hy;rw[hx] at eo;exact⟨v,eo,mv q⟩
  |pk ds=>
   obtain⟨j,y,hy,e,eo⟩:=QaA h1 h2 (λz=>by cases z);cases y<;>first | (cases e;done) | skip
   ·cases e;obtain⟨x,hx⟩:=rel.lt hy;obtain⟨l,xs,rfl,e,q,f⟩:=rel.sl j _ _ hx hy;rw[hx] at eo;have np:=rel.own_pot hy hx;exact⟨l,xs,eo,kp.1 _ _ np e,mvs q,xs,kp.1 _ _ np e,λz=>np (Qb8 z)⟩
   ·cases e;obtain⟨x,hx⟩:=rel.lt hy;obtain⟨l,xs,rfl,e,q,ys,f,f2⟩:=rel.sl j _ _ hx hy;rw[hx] at eo;have np:¬Z9 σ δ l:=by
     rintro⟨j,j1,j2⟩;obtain⟨p,m,e1,_,w⟩:=rel.sl j _ _ j1 j2;cases e1;rcases w with w | w
     ·exact f2 w
     ·rw[w] at f;cases f
    exact⟨l,xs,eo,kp.1 _ _ np e,mvs q,xs,kp.1 _ _ np e,λz=>np (Qb8 z)⟩
  |pot=>
   obtain⟨j,y,hy,e,eo⟩:=QaA h1 h2 (λz=>by cases z);cases y<;>first | (cases e;done) | skip
   obtain⟨x,hx⟩:=rel.lt hy;obtain⟨p,n,rfl,e,q⟩:=rel.sl j _ _ hx hy;rw[hx] at eo;obtain⟨m,em⟩:=kp.2 p ⟨j,hx,hy⟩;have eo':o=some (.ref p):=eo;subst eo';exact⟨p,m,rfl,em,.inl ⟨i,h1,h2⟩⟩
 inj:=λi j a ds h1 h2 _=>by
  obtain⟨j,y,hy,e,eo⟩:=QaA h2 h1 (λz=>by cases z);cases y<;>cases e
theorem QnB:∀{σ σ':L2.St},σ'.length=σ.length->(∀(i:Nat) v,σ[i]? = some (some v)->σ'[i]? = some (some v))->Wk σ σ'
 |[],[],_,_=>trivial
 |[],_::_,h,_=>by cases h
 |_::_,[],h,_=>by cases h
 |none::a,x::b,h,g=>QnB (σ:=a) (σ':=b) (by simpa using h) λi v e=>by simpa using g (i+1) v (by simpa using e)
 |some u::a,x::b,h,g=>by
  have h0:=g 0 u rfl;simp only[QhV,Option.some.injEq] at h0;subst h0;exact⟨rfl,QnB (σ:=a) (σ':=b) (by simpa using h) λi v e=>by simpa using g (i+1) v (by simpa using e)⟩
def Qc1(cap:List (Option Nat))(ix:List Nat):Bool:=ix.all λi=>match cap[i]? with
 |some none=>true
 |_=>false
theorem Qrv{cap:List (Option Nat)}{ix:List Nat}(hf:Qc1 cap ix=true){σ σ4:L2.St}(hl:σ4.length=(Qc2 cap σ).length)(hj:∀j,j∉ix->σ4[j]? = (Qc2 cap σ)[j]?):Wk (Qc2 cap σ) σ4:=by
 refine QnB hl λi v e=>?_
 by_cases z:i∈ix
 ·have:=J4.mp hf i z;rcases Qf3 e with⟨_,e2⟩ | ⟨j,hj2,_⟩
  ·cases e2
  ·rw[hj2] at this;cases this
 ·rw[hj i z];exact e
def XF:XP:=λ_=>False
@[irreducible] def Qka(items:List Qc)(wg:DG)(wt:DT)(we:DE)(δ:Sts)(Q:Qc->Prop):Prop:=∃Iv:Nat->List Qc->Prop,Iv 0 [] /\
 (∀(i:Nat) acc d,items[i]? = some d->Iv i acc->wg d δ λδ4=>wt δ4 (λb=>if b=true then we δ4 (λe=>Iv (i+1) (acc++[e])) XF else Iv (i+1) acc) XF)/\∀acc,Iv items.length acc->Q (.list acc)
def dComp(cap:List (Option Nat))(wi:DI)(wg:DG)(wt:DT)(we:DE):DE:=λδ Q EX=>wi δ (λitems=>Qka items wg wt we (QdG cap δ) Q) EX
def Qw5:DT:=λ_ Q _=>Q true
section
variable{X:Cx}{E:XK}
theorem Qs4{F:Fm}{E:XK}:Out F E XF:=λ_ z=>z.elim
theorem PTs.imp{es:List QX}{t t':TT}(h:PTs X es t)(i:∀σ H Q,t' σ H Q->t σ H Q):PTs X es t':=λpins s σ H Q I q=>h pins s σ H Q I (i σ H Q q)
theorem Qoi:PTs X [] (tT X.K E Qw5):=PTs.imp Qly λσ H Q ⟨F,δ,R,EX,rel,hw,k,o⟩=>k _ hw H rel (Kp.refl rel)
theorem Qoh{c:QX}{t:DT}(h:PT X c (tT X.K E t)):PTs X [c] (tT X.K E t):=Qsu h
theorem QhG{K:PySem.W.Frag}{A1:Addr->Prop}{cap:List (Option Nat)}{σ σ4:L2.St}{δ δ4:Sts}{H3 H4:Hp}(r:Rel K (inF A1 cap σ δ H3) σ4 H4 δ4)(hk:∀b o,¬Z9 σ δ b->H4 b=some o->H3 b=none->False){b:Addr}(h:Z9 σ4 δ4 b):Z9 σ δ b:=by
 obtain⟨i,h1,h2⟩:=h;obtain⟨p,n,e,hp,w⟩:=r.sl i _ _ h1 h2;cases e;rcases w with w | w
 ·exact Qb8 w
 ·by_cases z:Z9 σ δ b
  ·exact z
  ·exact(hk b _ z hp w).elim
theorem QrS{K:PySem.W.Frag}{F:Fm}{σ:L2.St}{δ:Sts}{H1 H3:Hp}{cap:List (Option Nat)}{ix:List Nat}{wg:DG}{wt:DT}{A1:Addr->Prop}{x:V}{d:Qc}{inner:L2.St->Hp->(Hp->Prop)->Prop}{kk:Hp->Prop}{T:Sts->Prop}{N:Prop}
  (hf:Qc1 cap ix=true)(rel:Rel K F σ H1 δ)(hA:∀a,Av F σ δ a->A1 a)(hN:∀a,A1 a->Av F σ δ a∨H1 a=none)(dm:∀a,A1 a->∃xs,H3 a=some (.lst xs))(kp:Kp σ δ H1 H3)(dx:DA A1 H3 x d)
  (h:wg d (QdG cap δ) λδ4=>wt δ4 (λb=>if b=true then T δ4 else N) XF)
  (hT:∀σ4 δ4 H5,T δ4->Rel K (inF A1 cap σ δ H3) σ4 H5 δ4->Kp σ δ H3 H5->(∀b,Z9 σ4 δ4 b->Z9 σ δ b)->inner σ4 H5 kk)(hF:N->∀H5,Kp σ δ H3 H5->kk H5) :
  bOf (Qc2 cap σ) (tG ix K wg) (tT K E0 wt) inner x H3 kk:=by
 have ri:=Qmx (cap:=cap) rel hA hN dm kp;have iv:∀{a:Addr},Av (inF A1 cap σ δ H3) (Qc2 cap σ) (QdG cap δ) a->A1 a:=λ{a}=>(Qiw λa z=>hA a (Y9 z)).mp
 refine⟨inF A1 cap σ δ H3,QdG cap δ,d,_,ri,dx.mv (λ_ _ _ e=>e) λa z=>.inl (iv z),h,λδ4 h4 σ4 r4 st4 l4 j4=>⟨Qrv hf l4 j4,inF A1 cap σ δ H3,δ4,_,XF,r4,h4,λb hb H5 r5 kp5=>?_,Qs4⟩⟩;have pots:∀{b:Addr},Z9 σ4 δ4 b->Z9 σ δ b:=λz=>QhG r4 (λb o _ e1 e2=>by rw[e2] at e1;cases e1) z
 have K5:Kp σ δ H3 H5:=by
  refine⟨λb o n e=>kp5.1 b o (λz=>n (pots z)) e,λb hb=>?_⟩;by_cases z:Z9 σ4 δ4 b
  ·exact kp5.2 b z
  ·obtain⟨n,e⟩:=kp.2 b hb;exact⟨n,kp5.1 _ _ z e⟩
 exact Qdm hb (λz=>hT σ4 δ4 H5 z r5 K5 λb=>pots) λz=>hF z H5 K5
structure Lp (σ:L2.St) (δ:Sts) (A1:Addr->Prop) (p:Addr) (H1 H2:Hp) (acc:List Qc):Prop where
 kp:Kp σ δ H1 H2
 at_:∃ys,H2 p=some (.lst ys)/\DAs A1 H2 ys acc
theorem Lp.step{σ:L2.St}{δ:Sts}{A1:Addr->Prop}{p:Addr}{H1 H2 H3:Hp}{acc:List Qc}(hpA:∀a,Z9 σ δ a->A1 a)(hpn:¬Z9 σ δ p)(h:Lp σ δ A1 p H1 H2 acc)(k:Kp σ δ H2 H3):Lp σ δ A1 p H1 H3 acc:=by
 obtain⟨ys,e,q⟩:=h.at_;exact⟨h.kp.trans k,ys,k.1 _ _ hpn e,q.mv (λa o n e=>k.1 a o (λz=>n (hpA a z)) e) λa z=>.inl z⟩
theorem Qv5{K:PySem.W.Frag}{σ σ4:L2.St}{δ δ4:Sts}{H1 H3 H5:Hp}{cap:List (Option Nat)}{we:DE}{A1:Addr->Prop}{p:Addr}{acc:List Qc}{kk:Hp->Prop}{G:Qc->Prop}
  (hpA:A1 p)(hP:∀a,Z9 σ δ a->A1 a)(hp1:H1 p=none)(hpn:¬Z9 σ δ p)(lp:Lp σ δ A1 p H1 H5 acc)(hl:acc.length<sizeLine)(r5:Rel K (inF A1 cap σ δ H3) σ4 H5 δ4)(pots:∀b,Z9 σ4 δ4 b->Z9 σ δ b)
  (h:we δ4 G XF)(hk:∀e,G e->∀H',Lp σ δ A1 p H1 H' (acc++[e])->kk H'):Quu p (tX .D K E0 we) σ4 H5 kk:=by
 refine⟨inF A1 cap σ δ H3,δ4,G,XF,r5,h,λe he v H6 r6 kp6 dv=>?_,Qs4⟩;have k56:Kp σ δ H5 H6:=by
  refine⟨λb o n e=>kp6.1 b o (λz=>n (pots b z)) e,λb hb=>?_⟩;by_cases z:Z9 σ4 δ4 b
  ·exact kp6.2 b z
  ·obtain⟨n,e⟩:=lp.kp.2 b hb;exact⟨n,kp6.1 _ _ z e⟩
 obtain⟨k6,ys,e6,q6⟩:=lp.step hP hpn k56;have up:∀{b:Addr}{o:HO},¬A1 b->H6 b=some o->upd H6 p (.lst (ys++[v])) b=some o:=λ{b o} n e=>by rw[QU (λz=>n (by rw[z];exact hpA))];exact e
 refine⟨ys,e6,by rw[q6.length];exact hl,hk e he _ ⟨⟨λb o n e=>?_,λb hb=>?_⟩,ys++[v],upd_same,DAs.app (q6.mv (λ_ _=>up) λa z=>.inl z) (.cons (DA.mv dv (λa o n e=>up (λz=>n (.inl z)) e) λa z=>.inl (.inl z)) .nil)⟩⟩
 ·rw[QU (λz=>by rw[z,hp1] at e;cases e)];exact k6.1 b o n e
 ·rw[QU (λz=>hpn (by rw[<- z];exact hb))];exact k6.2 b hb
theorem Qs0{M:List Str}{cap:List (Option Nat)}{elt tg iter:QX}{ifs:List QX}{scope:Y4}{pos:Pos}{ix:List Nat}{wi:DI}{wg:DG}{wt:DT}{we:DE}(hc:X.calm=true)(ok:QhO X.N X.env.scope M scope cap=true)(hf:Qc1 cap ix=true)
  (hi:PI X tg iter (tI .P X.K E wi))(hb:∀cl ex s3 H3 C,PG (blk X M scope cl ex s3 H3 C) tg (tG ix X.K wg)/\PTs (blk X M scope cl ex s3 H3 C) ifs (tT X.K E0 wt)/\PE (blk X M scope cl ex s3 H3 C) elt (tX .D X.K E0 we))
  (hs:∀x,foldedSetIterable iter X.env x=pure x:=by intro _;rfl):PE X (.ListComp elt [⟨tg,iter,ifs,0⟩] scope pos) (tX .F X.K E (dComp cap wi wg wt we)):=by
 refine PE.imp (Qip hc ok hi hb hs) λσ H Q ⟨F,δ,R,EX,rel,hw,k,o⟩=>?_
 refine⟨F,δ,_,EX,rel,hw,λitems hC J H1 rel1 kp1 ⟨ln,it⟩ p hp=>?_,o⟩;unfold Qka at hC;obtain⟨Iv,i0,step,fin⟩:=hC;have hpn:¬Z9 σ δ p:=λz=>by obtain⟨xs,e⟩:=rel1.isl (Y9 (F:=F) z);rw[hp] at e;cases e
 let A1:Addr->Prop:=λa=>Av F σ δ a∨a=p
 have hP:∀a,Z9 σ δ a->A1 a:=λa z=>.inl (Y9 z)
 have hN:∀a,A1 a->Av F σ δ a∨H1 a=none:=λa z=>z.elim .inl λz=>.inr (by rw[z];exact hp)
 have dmK:∀{H2:Hp},Kp σ δ H1 H2->(∃ys,H2 p=some (.lst ys))->∀a,A1 a->∃xs,H2 a=some (.lst xs):=λ{H2} k2 e2 a z=>by
  rcases z with z | z
  ·exact(rel1.kp k2).isl z
  ·rw[z];exact e2
 refine QfP items.length (λi H2=>i<=items.length/\∃acc,Iv i acc/\acc.length<=i/\Lp σ δ A1 p H1 H2 acc) ⟨Je _,[],i0,Qh _,Kp.same rel1 (Jn hp),[],upd_same,.nil⟩ (λi H2 hi ⟨_,acc,iv,hl,lp⟩=>?_) λH2 ⟨_,acc,iv,hl,lp⟩=>?_
 ·obtain⟨k2,ys,e2,q2⟩:=lp;obtain⟨go,_⟩:=it H2 A1 (λb o n e=>k2.1 b o n e) hN (dmK k2 ⟨ys,e2⟩);have hd:items[i]? = some items[i]:=Qi hi;obtain⟨g1,g2⟩:=go i _ hd;refine⟨g1,λx H3 y kk hk=>?_⟩;obtain⟨s3,dx⟩:=g2 x H3 y;have k23:=Kp.same (rel1.kp k2) s3;have lp3:Lp σ δ A1 p H1 H3 acc:=Lp.step hP hpn ⟨k2,ys,e2,q2⟩ k23;refine QrS hf rel1 (λa z=>.inl z) hN (dmK lp3.kp ⟨ys,s3 _ _ e2⟩) lp3.kp dx (step i acc _ hd iv) (λσ4 δ4 H5 h5 r5 k5 pots=>?_) λh5 H5 k5=>hk _ ⟨hi,acc,h5,by omega,lp3.step hP hpn k5⟩
  exact Qv5 (.inr rfl) hP hp hpn (lp3.step hP hpn k5) (by omega) r5 pots h5 λe he H' lp'=>hk _ ⟨hi,acc++[e],he,by rw[Qv];show _+1<=_;omega,lp'⟩
 ·obtain⟨k2,ys,e2,q2⟩:=lp;obtain⟨_,st⟩:=it H2 A1 (λb o n e=>k2.1 b o n e) hN (dmK k2 ⟨ys,e2⟩);refine⟨st,k _ (fin acc iv) (.ref p) H2 (rel1.kp k2) (kp1.trans k2) ⟨.lst (λz=>?_) e2 (q2.mv (λ_ _ _ e=>e) λa z=>.inl (.inl z)),λl e1 _=>?_⟩⟩
  ·obtain⟨xs,e⟩:=rel1.isl z;rw[hp] at e;cases e
  ·cases e1;exact QcY kp1 hp
theorem QjW{items:List Qc}{wg:DG}{wt:DT}{we:DE}{δ:Sts}{Q:Qc->Prop}(G:Qc->Option Qc)
  (h:∀d∈items,∀(k1:Prop)(k2:Qc->Prop),(G d=none->k1)->(∀e,G d=some e->k2 e)->wg d δ λδ4=>wt δ4 (λb=>if b=true then we δ4 k2 XF else k1) XF)(q:Q (.list (items.filterMap G))) :
  Qka items wg wt we δ Q:=by
 unfold Qka;refine⟨λi acc=>acc=(items.take i).filterMap G,by simp,λi acc d hd e=>?_,λacc e=>by rw[e,Zm];exact q⟩;have hs:(items.take (i+1)).filterMap G=(items.take i).filterMap G++(G d).toList:=by
  rw[Zx,hd,Qkg];cases e2:G d<;>simp[e2]
 have e:acc=(items.take i).filterMap G:=e;refine h d (Q3 hd) _ _ (λe2=>?_) λe' e2=>?_
 ·show acc=(items.take (i+1)).filterMap G;rw[hs,e2,e];simp
 ·show acc++[e']=(items.take (i+1)).filterMap G;rw[hs,e2,e];rfl
theorem QiJ{items:List Qc}{wg:DG}{we:DE}{δ:Sts}{Q:Qc->Prop}(G:Qc->Qc)
  (h:∀d∈items,∀(k2:Qc->Prop),k2 (G d)->wg d δ λδ4=>we δ4 k2 XF)(q:Q (.list (items.map G))) :
  Qka items wg Qw5 we δ Q:=by
 unfold Qka;refine⟨λi acc=>acc=(items.take i).map G,by simp,λi acc d hd e=>?_,λacc e=>by rw[e,Zm];exact q⟩;have hs:(items.take (i+1)).map G=(items.take i).map G++[G d]:=by
  rw[Zx,hd,JF];simp
 have e:acc=(items.take i).map G:=e;have hh:=h d (Q3 hd) (λe=>acc++[e]=(items.take (i+1)).map G) (by show acc++[G d]=_;rw[hs,e]);simp only[Qw5,if_true];exact hh
end
theorem QmJ:∀{a b:List (Int×Int)},dkV a=dkV b->a=b
 |[],[],_=>rfl
 |[],_::_,h=>by cases h
 |_::_,[],h=>by cases h
 |p::a,q::b,h=>by
  have h:=List.cons.inj (show(JS p.1,V.int p.2)::dkV a=(JS q.1,V.int q.2)::dkV b from h);have h1:=Zu h.1;rw[QmJ h.2,Qdw (QiT h1.1) (V.int.inj h1.2)]
mutual
theorem QmO{A B:Addr->Prop}{H:Hp}:∀(d d':Qc)(x:V),DA A H x d->DA B H x d'->d=d'
 |.none,d',_,.non,h=>by cases h;rfl
 |.bool _,d',_,.bl _,h=>by cases h;rfl
 |.int _,d',_,.int _,h=>by cases h;rfl
 |.str _,d',_,.str _ _,h=>by cases h;rfl
 |.tuple ds,d',_,.tup (xs:=xs) n e q,h=>by
  cases h with
  |@tup a ys es n' e' q'=>
   rw[e] at e';cases e';rw[QfZ ds es xs q q']
  |@lst a ys es n' e' q'=>rw[e] at e';cases e'
  |@dct a kvs' ds' n' e' q'=>rw[e] at e';cases e'
 |.list ds,d',_,.lst (xs:=xs) n e q,h=>by
  cases h with
  |@tup a ys es n' e' q'=>rw[e] at e';cases e'
  |@lst a ys es n' e' q'=>
   rw[e] at e';cases e';rw[QfZ ds es xs q q']
  |@dct a kvs' ds' n' e' q'=>rw[e] at e';cases e'
 |.dict _,d',_,.dct (kvs:=kvs) n e q,h=>by
  cases h with
  |@tup a ys es n' e' q'=>rw[e] at e';cases e'
  |@lst a ys es n' e' q'=>rw[e] at e';cases e'
  |@dct a kvs' ds' n' e' q'=>
   rw[e] at e';rw[q,q',QmJ (HO.dK.inj (QB e'))]
theorem QfZ{A B:Addr->Prop}{H:Hp}:∀(ds es:List Qc)(xs:List V),DAs A H xs ds->DAs B H xs es->ds=es
 |[],es,_,.nil,h=>by cases h;rfl
 |d::ds,es,_,.cons q qs,h=>by
  cases h with
  |@cons x xs e es q' qs'=>rw[QmO d e _ q q',QfZ ds es _ qs qs']
end
mutual
theorem Qwc{A:Addr->Prop}{H:Hp}{l:Addr}{rs:List Qc}(root:DA A H (.ref l) (.list rs)):∀(d:Qc)(x:V),sizeOf d<sizeOf (YC rs)->DA A H x d->DA (λa=>A a∨a=l) H x d
 |.none,_,_,.non=>.non
 |.bool _,_,_,.bl _=>.bl _
 |.int _,_,_,.int _=>.int _
 |.str _,_,_,.str _ c=>.str _ c
 |.tuple ds,_,hs,.tup (a:=a) (xs:=xs) n e q=>.tup (λz=>z.elim n λz=>by subst z;cases root with | @lst _ ys _ n' e' q'=>(rw[e] at e';cases e')) e (Qf0 root ds xs (by simp at hs ⊢;omega) q)
 |.list ds,_,hs,.lst (a:=a) (xs:=xs) n e q=>.lst (λz=>z.elim n λz=>by
   subst z;have:=QmO _ _ _ root (.lst n e q);rw[this] at hs;omega) e (Qf0 root ds xs (by simp at hs ⊢;omega) q)
 |.dict _,_,hs,.dct (a:=a) n e q=>.dct (λz=>z.elim n λz=>by subst z;cases root with | @lst _ ys _ n' e' q'=>(rw[e] at e';cases e')) e q
theorem Qf0{A:Addr->Prop}{H:Hp}{l:Addr}{rs:List Qc}(root:DA A H (.ref l) (.list rs)):∀(ds:List Qc)(xs:List V),sizeOf ds<sizeOf (YC rs)->DAs A H xs ds->DAs (λa=>A a∨a=l) H xs ds
 |[],_,_,.nil=>.nil
 |d::ds,_,hs,.cons q qs=>.cons (Qwc root d _ (by simp at hs ⊢;omega) q) (Qf0 root ds _ (by simp at hs ⊢;omega) qs)
end
theorem DA.items{A:Addr->Prop}{H:Hp}{l:Addr}{ds:List Qc}(root:DA A H (.ref l) (.list ds)):∃xs,H l=some (.lst xs)/\DAs (λa=>A a∨a=l) H xs ds:=by
 have root':=root;cases root with
 |@lst _ xs _ n e q=>exact⟨xs,e,Qf0 root' ds xs (by simp) q⟩
structure Qf8 where
 nx:Sts->Prop
 rt:Qc->Prop
 rtF:Qc->Prop
 bk:Sts->Prop
 ct:Sts->Prop
 ex:XP
abbrev DS:=Qf8->Sts->Prop
structure Nx (K:PySem.W.Frag) (F:Fm) (σ:L2.St) (H:Hp) (δ:Sts) (R:Sts->Prop) (T:L2.St->Hp->Prop):Prop where
 go:∀δ',R δ'->∀σ' H',Rel K F σ' H' δ'->Stp F σ H δ σ' H' δ'->T σ' H'
structure Ends1 (K:PySem.W.Frag) (E:XK) (F:Fm) (σ:L2.St) (H:Hp) (δ:Sts) (DD:Qf8) (D:Ends):Prop where
 nx:Nx K F σ H δ DD.nx D.nx
 rt:∀d,DD.rt d->∀v H',Ke F H'->DA F.A0 H' v d->D.rt v H'
 rtF:∀d,DD.rtF d->∀v H',Ke F H'->DA F.A0 H' v d->FrV F.H0 H' v->D.rt v H'
 bk:Nx K F σ H δ DD.bk D.bk
 ct:Nx K F σ H δ DD.ct D.ct
 ex:Out F E DD.ex
def tS(K:PySem.W.Frag)(E:XK)(w:DS):TS:=λD σ H=>∃(F:Fm)(δ:Sts)(DD:Qf8),Rel K F σ H δ/\w DD δ/\Ends1 K E F σ H δ DD D
theorem Nx.step{K:PySem.W.Frag}{F:Fm}{σ σ1:L2.St}{H H1:Hp}{δ δ1:Sts}{R:Sts->Prop}{T:L2.St->Hp->Prop}(h:Nx K F σ H δ R T)(s:Stp F σ H δ σ1 H1 δ1):Nx K F σ1 H1 δ1 R T:=⟨λδ' hR σ' H' r st=>h.go δ' hR σ' H' r (s.trans st)⟩
theorem Ends1.step{K:PySem.W.Frag}{E:XK}{F:Fm}{σ σ1:L2.St}{H H1:Hp}{δ δ1:Sts}{DD:Qf8}{D:Ends}(h:Ends1 K E F σ H δ DD D)(s:Stp F σ H δ σ1 H1 δ1):Ends1 K E F σ1 H1 δ1 DD D:=⟨h.nx.step s,h.rt,h.rtF,h.bk.step s,h.ct.step s,h.ex⟩
section
variable{X:Cx}{E:XK}
theorem PS.imp{e:ZM}{t t':TS}(h:PS X e t)(i:∀D σ H,t' D σ H->t D σ H):PS X e t':=λpins s σ H D I q=>h pins s σ H D I (i D σ H q)
theorem PSs.imp{e:List ZM}{t t':TS}(h:PSs X e t)(i:∀D σ H,t' D σ H->t D σ H):PSs X e t':=λpins s σ H D I q=>h pins s σ H D I (i D σ H q)
def Qpm(a b:DS):DS:=λD δ=>a { D with nx:=b D } δ
def QgO:DS:=λD δ=>D.nx δ
theorem Qoj:PSs X [] (tS X.K E QgO):=PSs.imp Z2 λD σ H ⟨F,δ,DD,rel,hw,en⟩=>en.nx.go δ hw σ H rel Stp.refl
theorem QsQ{st:ZM}{w:DS}(h:PS X st (tS X.K E w)):PSs X [st] (tS X.K E w):=Ji h
theorem Qoo{st:ZM}{rest:List ZM}{w w':DS}(h:PS X st (tS X.K E w))(h':PSs X rest (tS X.K E w')):PSs X (st::rest) (tS X.K E (Qpm w w')):=by
 refine PSs.imp (QR h h') λD σ H ⟨F,δ,DD,rel,hw,en⟩=>?_
 exact⟨F,δ,_,rel,hw,⟨λδ' h' σ' H' r st=>⟨F,δ',DD,r,h',en.step st⟩⟩,en.rt,en.rtF,en.bk,en.ct,en.ex⟩
def Qyv(i:Nat)(we:DE):DS:=λD δ=>we δ (λd=>D.nx (δ.set i (.v d))) D.ex
def Qpl(i:Nat)(we:DE):DS:=λD δ=>we δ (λd=>match d with
 |.list ds=>D.nx (δ.set i (.own ds))
 |_=>False) D.ex
def QzI(i:Nat)(we:DE):DS:=λD δ=>we δ (λd=>match d with
 |.list [.int _]=>D.nx (δ.set i .pot)
 |_=>False) D.ex
variable{i:Nat}{e:QX}{st:ZM}{we wi:DE}
theorem QlH(h:PS X st (Qfo (tX .D X.K E we) (YN i))):PS X st (tS X.K E (Qyv i we)):=by
 refine PS.imp h λD σ H ⟨F,δ,DD,rel,hw,en⟩=>?_
 refine⟨F,δ,_,DD.ex,rel,hw,λd hd v H' rel' kp vk=>?_,en.ex⟩;exact en.nx.go _ hd _ H' (rel'.setv vk) ((Stp.kp kp).trans Stp.setv)
theorem Qrw{F:Fm}{σ:L2.St}{δ:Sts}{i:Nat}{l:Addr}{x:Sl}{a:Addr}(h:Av F (σ.set i (some (.ref l))) (δ.set i x) a):Av F σ δ a∨a=l:=by
 rcases h with h | ⟨j,h1,h2⟩
 ·exact .inl (.inl h)
 ·by_cases z:j=i
  ·subst z;cases set_eq h1;exact .inr rfl
  ·rw[Y8 z] at h1 h2;exact .inl (.inr ⟨j,h1,h2⟩)
theorem Rel.seto{K:PySem.W.Frag}{F:Fm}{σ:L2.St}{H H':Hp}{δ:Sts}{l:Addr}{x:Sl}(r:Rel K F σ H δ)(r':Rel K F σ H' δ)(kp:Kp σ δ H H')(n:H l=none)(hx:∀A:Addr->Prop,(∀a,A a->Av F σ δ a∨H a=none)->(∀a,A a->Av F σ δ a∨a=l)->Qzf K F H' A (some (.ref l)) x) :
  Rel K F (σ.set i (some (.ref l))) H' (δ.set i x)/\Stp F σ H δ (σ.set i (some (.ref l))) H' (δ.set i x):=by
 have nA:∀a,Av F (σ.set i (some (.ref l))) (δ.set i x) a->Av F σ δ a∨H a=none:=λa z=>(Qrw z).elim .inl λz=>.inr (by rw[z];exact n)
 have kk:∀a o,¬Av F σ δ a->H a=some o->H' a=some o:=λa o m e=>kp.1 a o (λz=>m (Y9 z)) e
 refine⟨?_,⟨kk,nA⟩⟩;exact{
  len:=by rw[Zc,Zc];exact r.len
  dom:=r'.dom
  dom0:=r'.dom0
  pt0:=r'.pt0
  kx:=r'.kx
  sl:=λj o y h1 h2=>by
   by_cases z:j=i
   ·subst z;cases set_eq h1;cases set_eq h2;exact hx _ nA λa z=>Qrw z
   ·rw[Y8 z] at h1 h2;have h:=r.sl j o y h1 h2;have h':=r'.sl j o y h1 h2;cases y with
    |no=>trivial
    |v d=>obtain⟨v',e,q'⟩:=h;exact⟨v',e,q'.mv kk nA⟩
    |own ds=>obtain⟨l',xs,rfl,e2,q',f⟩:=h;exact⟨l',xs,rfl,kp.1 _ _ (r.own_pot h2 h1) e2,q'.mv kk nA,f⟩
    |pk ds=>
     obtain⟨l',xs,rfl,e2,q',ys,f,f2⟩:=h;refine⟨l',xs,rfl,kp.1 _ _ ?_ e2,q'.mv kk nA,ys,f,f2⟩;rintro⟨j,j1,j2⟩;obtain⟨p,m,e1,_,w⟩:=r.sl j _ _ j1 j2;cases e1;rcases w with w | w
     ·exact f2 w
     ·rw[w] at f;cases f
    |pot=>exact h'
    |scr=>exact h'
  inj:=λj k a ds h1 h2 ⟨h3,h4⟩=>by
   have ne:∀(k:Nat),k≠i->σ[k]? = some (some (.ref l))->(δ[k]? = some .pot∨∃ds,δ[k]? = some (.own ds))->False:=λk _ h3 h4=>by
    obtain⟨xs,e⟩:=r.isl (a:=l) (.inr ⟨k,h3,h4⟩);rw[n] at e;cases e
   by_cases z:j=i
   ·subst z;cases set_eq h2;by_cases z2:k=j
    ·exact z2.symm
    ·rw[Y8 z2] at h3 h4;exact(ne k z2 h3 h4).elim
   ·rw[Y8 z] at h1 h2;by_cases z2:k=i
    ·subst z2;cases set_eq h3;exact(ne j z h2 (.inr ⟨ds,h1⟩)).elim
    ·rw[Y8 z2] at h3 h4;exact r.inj j k a ds h1 h2 ⟨h3,h4⟩ }
theorem Qrk{K:PySem.W.Frag}{F:Fm}{σ:L2.St}{H:Hp}{δ:Sts}(r:Rel K F σ H δ){l:Addr}(n:H l=none):F.H0 l=none:=by
 cases e:F.H0 l with
 |none=>rfl
 |some o=>
  by_cases z:F.pt l
  ·obtain⟨_,m,e'⟩:=r.pt0 l z;rw[n] at e';cases e'
  ·rw[r.kx l o z e] at n;cases n
theorem Qok(h:PS X st (Qfo (tX .F X.K E we) (YN i))):PS X st (tS X.K E (Qpl i we)):=by
 refine PS.imp h λD σ H ⟨F,δ,DD,rel,hw,en⟩=>?_
 refine⟨F,δ,_,DD.ex,rel,hw,λd hd v H' rel' kp ⟨vk,fr⟩=>?_,en.ex⟩;obtain⟨ds,rfl⟩:∃ds,d=.list ds:=by cases d<;>first | exact⟨_,rfl⟩ | exact(show False from hd).elim
 obtain⟨l,rfl⟩:∃l,v=.ref l:=by cases vk;exact⟨_,rfl⟩
 obtain⟨xs,e,q⟩:=DA.items vk;have n:=fr l rfl ⟨xs,e⟩;obtain⟨r2,st⟩:=rel.seto (i:=i) (x:=.own ds) rel' kp n λA hA hB=>⟨l,xs,rfl,e,q.mv (λ_ _ _ e=>e) λa z=>.inl (hB a z),Qrk rel n⟩
 exact en.nx.go _ hd _ H' r2 st
def Qzb(we:DE)(wg:DG):DS:=λD δ=>we δ (λd=>wg d δ D.nx) D.ex
theorem QsV{ix:List Nat}{wg:DG}(h:PS X st (Qfo (tX .D X.K E we) (tG ix X.K wg))):PS X st (tS X.K E (Qzb we wg)):=by
 refine PS.imp h λD σ H ⟨F,δ,DD,rel,hw,en⟩=>?_
 refine⟨F,δ,_,DD.ex,rel,hw,λd hd v H' rel' kp vk=>?_,en.ex⟩;exact⟨F,δ,d,_,rel',vk,hd,λδ' h' σ' r' st' _ _=>en.nx.go _ h' _ H' r' ((Stp.kp kp).trans st')⟩
def Qy6(i j:Nat)(wa:DAr):DS:=λD δ=>wa δ (λds=>match ds with
 |[a,b]=>D.nx ((δ.set i (.v a)).set j (.v b))
 |_=>False) D.ex
theorem QsP{n i j:Nat}{wa:DAr}(h:PS X st (QyP i j (tAr n .D X.K E wa))):PS X st (tS X.K E (Qy6 i j wa)):=by
 refine PS.imp h λD σ H ⟨F,δ,DD,rel,hw,en⟩=>?_
 refine⟨F,δ,_,DD.ex,rel,hw,λds hds _ vs H' rel' kp q=>?_,en.ex⟩;split at hds
 ·cases q with
  |cons q1 q2=>cases q2 with
   |cons q2 q3=>
    cases q3;refine⟨_,_,rfl,en.nx.go _ hds _ H' ((rel'.setv q1).setv (DA.mv q2 (λ_ _ _ e=>e) λa z=>.inl (Qdn z))) (((Stp.kp kp).trans Stp.setv).trans Stp.setv)⟩
 ·exact hds.elim
def Qy5(we:DE):DS:=λD δ=>we δ D.rt D.ex
def QtV(we:DE):DS:=λD δ=>we δ D.rtF D.ex
theorem Qpk{F:Fm}{σ:L2.St}{δ:Sts}{H:Hp}{v:V}{d:Qc}(h:DA (Av F σ δ) H v d):DA F.A0 H v d:=h.mv (λ_ _ _ e=>e) λa z=>.inl (.inl z)
theorem QsM{e:QX}{pos:Pos}(h:PE X e (tX .D X.K E we)):PS X (.Return (some e) pos) (tS X.K E (Qy5 we)):=by
 refine PS.imp (Zy h) λD σ H ⟨F,δ,DD,rel,hw,en⟩=>?_
 exact⟨F,δ,_,DD.ex,rel,hw,λd hd v H' rel' kp vk=>en.rt d hd v H' rel'.ke (Qpk vk),en.ex⟩
theorem Qom{e:QX}{pos:Pos}(h:PE X e (tX .F X.K E we)):PS X (.Return (some e) pos) (tS X.K E (QtV we)):=by
 refine PS.imp (Zy h) λD σ H ⟨F,δ,DD,rel,hw,en⟩=>?_
 exact⟨F,δ,_,DD.ex,rel,hw,λd hd v H' rel' kp vk=>en.rtF d hd v H' rel'.ke (Qpk vk.1) λl e1 e2=>Qrk rel (vk.2 l e1 e2),en.ex⟩
def QtU(i:Nat):DS:=λD δ=>match δ[i]? with
 |some (.own ds)=>D.rtF (.list ds)
 |some (.v d)=>D.rt d
 |_=>False
theorem Qol{e:QX}{pos:Pos}(h:PE X e (Yy i)):PS X (.Return (some e) pos) (tS X.K E (QtU i)):=by
 refine PS.imp (Zy h) λD σ H ⟨F,δ,DD,rel,hw,en⟩=>?_
 unfold QtU at hw;split at hw
 ·rename_i ds hd
  obtain⟨x,hx⟩:=rel.lt hd;obtain⟨l,xs,rfl,e,q,f⟩:=rel.sl i _ _ hx hd;refine⟨_,hx,en.rtF _ hw _ H rel.ke (.lst (λz=>?_) e (q.mv (λ_ _ _ e=>e) λa z=>.inl (.inl z))) λl' e1 _=>by cases e1;exact f⟩;obtain⟨ys,e'⟩:=rel.dom0 l z;rw[f] at e';cases e'
 ·rename_i d hd
  obtain⟨x,hx⟩:=rel.lt hd;obtain⟨v,rfl,q⟩:=rel.sl i _ _ hx hd;exact⟨v,hx,en.rt _ hw _ H rel.ke (Qpk q)⟩
 ·exact hw.elim
def dIf(t:DT)(a b:DS):DS:=λD δ=>t δ (λc=>if c=true then a D δ else b D δ) D.ex
theorem Qvj{c:QX}{a b:List ZM}{pos:Pos}{t:DT}{w w':DS}(hc:PT X c (tT X.K E t))(ha:PSs X a (tS X.K E w))(hb:PSs X b (tS X.K E w')):PS X (.If c a b pos) (tS X.K E (dIf t w w')):=by
 refine PS.imp (Qbf hc ha hb) λD σ H ⟨F,δ,DD,rel,hw,en⟩=>?_
 exact⟨F,δ,_,DD.ex,rel,hw,λb hb H' rel' kp=>Qdm hb (λz=>⟨F,δ,DD,rel',z,en.step (Stp.kp kp)⟩) λz=>⟨F,δ,DD,rel',z,en.step (Stp.kp kp)⟩,en.ex⟩
theorem Qtp{g:Int->Int->Int}:Qui (ipI g) (ii0 λi j=>.int (g i j)):=λA P H x y d1 d2 R Q ln dm hx hy h k=>by
 cases d1<;>cases d2<;>first | exact h.elim | skip
 rw[hx.int,hy.int];exact⟨_,_,rfl,rfl,k _ h _ H (Same.refl H) (.int _)⟩
theorem PIp.len{op:Qff}{t:TIp}(h:PIp X op t):PIp X op (λx y H Q=>QcB H->t x y H Q):=λpins s σ H x y v u Q I rx ry q=>h pins s σ H x y v u Q I rx ry (q (Inv.lens I))
theorem Rel.mut{K:PySem.W.Frag}{F:Fm}{σ:L2.St}{H:Hp}{δ:Sts}(r:Rel K F σ H δ){l:Addr}{ds ds':List Qc}{ys:List V}(h:δ[i]? = some (.own ds))(hx:σ[i]? = some (some (.ref l)))(q:DAs (Av F σ δ) H ys ds') :
  Rel K F σ (upd H l (.lst ys)) (δ.set i (.own ds'))/\Stp F σ H δ σ (upd H l (.lst ys)) (δ.set i (.own ds')):=by
 have hl:Av F σ δ l:=.inr ⟨i,hx,.inr ⟨ds,h⟩⟩;obtain⟨l',xs0,e0,el,_,f⟩:=r.sl i _ _ hx h;cases e0;have lt:i < δ.length:=(Q2.mp h).1;have ge:(δ.set i (.own ds'))[i]? = some (.own ds'):=by rw[Y6 lt]
 have kk:∀a o,¬Av F σ δ a->H a=some o->upd H l (.lst ys) a=some o:=λa o n e=>by rw[QU (λz=>n (by rw[z];exact hl))];exact e
 have av:∀a,Av F σ (δ.set i (.own ds')) a->Av F σ δ a:=λa z=>by
  rcases z with z | ⟨j,h1,h2⟩
  ·exact .inl z
  ·by_cases z:j=i
   ·subst z;exact .inr ⟨j,h1,.inr ⟨ds,h⟩⟩
   ·rw[Y8 z] at h2;exact .inr ⟨j,h1,h2⟩
 have up:∀{b:Addr}{o:HO},b≠l->H b=some o->upd H l (.lst ys) b=some o:=λn e=>by rw[QU n];exact e
 refine⟨?_,⟨kk,λa z=>.inl (av a z)⟩⟩;exact{
  len:=by rw[Zc];exact r.len
  dom:=λa ha=>by
   by_cases z:a=l
   ·rw[z];exact⟨_,upd_same⟩
   ·obtain⟨xs,e⟩:=r.dom a ha;exact⟨xs,up z e⟩
  dom0:=r.dom0
  pt0:=λp hp=>by
   obtain⟨h1,n,e⟩:=r.pt0 p hp;refine⟨h1,n,up (λz=>?_) e⟩;obtain⟨xs,e'⟩:=r.dom0 p h1;rw[z,f] at e';cases e'
  kx:=λb o n e=>up (λz=>by rw[z,f] at e;cases e) (r.kx b o n e)
  sl:=λj o y h1 h2=>by
   by_cases z:j=i
   ·subst z;rw[ge] at h2;cases h2;rw[hx] at h1;cases h1;exact⟨l,ys,rfl,upd_same,q.mv kk λa z=>.inl (av a z),f⟩
   ·rw[Y8 z] at h2;have hh:=r.sl j o y h1 h2;cases y with
    |no=>trivial
    |v d=>obtain⟨v',e,q'⟩:=hh;exact⟨v',e,q'.mv kk λa z=>.inl (av a z)⟩
    |own es=>
     obtain⟨l',xs,rfl,e2,q',f'⟩:=hh;exact⟨l',xs,rfl,up (λz2=>z (r.inj j i l' es h2 h1 ⟨by rw[z2];exact hx,.inr ⟨ds,h⟩⟩)) e2,q'.mv kk λa z=>.inl (av a z),f'⟩
    |pk es=>
     obtain⟨l',xs,rfl,e2,q',ys',f',f2⟩:=hh;exact⟨l',xs,rfl,up (λz2=>by rw[z2,f] at f';cases f') e2,q'.mv kk λa z=>.inl (av a z),ys',f',f2⟩
    |pot=>
     obtain⟨p,n,rfl,e2,w⟩:=hh;refine⟨p,n,rfl,up (λz2=>?_) e2,w⟩;subst z2;exact r.own_pot h hx ⟨j,h1,h2⟩
    |scr=>exact hh
  inj:=λj k a es h1 h2 ⟨h3,h4⟩=>by
   have h4':δ[k]? = some .pot∨∃ds,δ[k]? = some (.own ds):=by
    by_cases z:k=i
    ·subst z;exact .inr ⟨ds,h⟩
    ·rw[Y8 z] at h4;exact h4
   by_cases z:j=i
   ·subst z;exact r.inj j k a ds h h2 ⟨h3,h4'⟩
   ·rw[Y8 z] at h1;exact r.inj j k a es h1 h2 ⟨h3,h4'⟩ }
def dApp(i:Nat)(we:DE):DS:=λD δ=>match δ[i]? with
 |some (.own ds)=>we δ (λd=>ds.length<1000000/\D.nx (δ.set i (.own (ds++[d])))) D.ex
 |_=>False
def Qyx(i:Nat)(we:DE):DS:=λD δ=>match δ[i]? with
 |some (.own ds)=>we δ (λd=>match d with
  |.list es=>ds.length+es.length<=1000000/\D.nx (δ.set i (.own (ds++es)))
  |_=>False) D.ex
 |_=>False
theorem QsU(h:PS X st (QnG (tBM X.K "list" Qll (Yy i) (Z1 (tX .P X.K E we) QbO)))):PS X st (tS X.K E (Qyx i we)):=by
 refine PS.imp h λD σ H ⟨F,δ,DD,rel,hw,en⟩=>?_
 unfold Qyx at hw;split at hw
 ·rename_i ds hd
  obtain⟨x,hx⟩:=rel.lt hd;obtain⟨l,xs,rfl,e,q,f⟩:=rel.sl i _ _ hx hd;have np:=rel.own_pot hd hx;refine⟨.ref l,hx,.inl ⟨rfl,_,SqL.of e⟩,F,δ,_,DD.ex,rel,hw,λd hd2 v H' rel' kp vk=>?_,en.ex⟩;cases d<;>first | exact(show False from hd2).elim | skip
  obtain⟨hl,hn⟩:=hd2;obtain⟨l2,ys,rfl,e2,q2⟩:=DP.list vk;have q':=kp.das q;refine⟨l,l2,xs,ys,rfl,rfl,kp.1 _ _ np e,e2,QL (by rw[q.length,q2.length];exact hl) QhE,?_⟩;obtain⟨r2,st⟩:=rel'.mut hd hx (q'.app q2);exact en.nx.go _ hn _ _ r2 ((Stp.kp kp).trans st)
 ·exact hw.elim
def Qwh(i:Nat)(wi we:DE):DS:=λD δ=>we δ (λd=>match δ[i]? with
 |some (.own ds)=>wi δ (λz=>match z with
  |.int k=>∃j,ixN ds.length k=some j/\D.nx (δ.set i (.own (ds.set j d)))
  |_=>False) D.ex
 |_=>False) D.ex
theorem QsN(h:PS X st (Qfo (tX .D X.K E we) (gSub (Yy i) (tX .P X.K E wi) Qlj))):PS X st (tS X.K E (Qwh i wi we)):=by
 refine PS.imp h λD σ H ⟨F,δ,DD,rel,hw,en⟩=>?_
 refine⟨F,δ,_,DD.ex,rel,hw,λd hd v H1 rel1 kp1 vk=>?_,en.ex⟩;split at hd
 ·rename_i ds hds
  obtain⟨x,hx⟩:=rel1.lt hds;obtain⟨l,xs,rfl,e,q,f⟩:=rel1.sl i _ _ hx hds;have np:=rel1.own_pot hds hx;refine⟨.ref l,hx,F,δ,_,DD.ex,rel1,hd,λz hz y H2 rel2 kp2 yk=>?_,en.ex⟩;cases z<;>first | exact(show False from hz).elim | skip
  obtain⟨j,hj,hn⟩:=hz;refine⟨l,xs,_,j,rfl,DP.int yk,kp2.1 _ _ np e,by rw[q.length];exact hj,?_⟩;obtain⟨r2,st⟩:=rel2.mut hds hx ((kp2.das q).set (kp2.da vk) j);exact en.nx.go _ hn _ _ r2 (((Stp.kp kp1).trans (Stp.kp kp2)).trans st)
 ·exact hd.elim
def QtW(i:Nat)(rD:Qc->Qc->(Qc->Prop)->Prop)(wi we:DE):DS:=λD δ=>match δ[i]? with
 |some (.own ds)=>wi δ (λz=>match z with
  |.int k=>∃j a,ixN ds.length k=some j/\ds[j]? = some a/\we δ (λe=>rD a e λb=>D.nx (δ.set i (.own (ds.set j b)))) D.ex
  |_=>False) D.ex
 |_=>False
theorem Qop{r:TIp}{rD:Qc->Qc->(Qc->Prop)->Prop}(hd:Qui r rD)(h:PS X st (QuN (Yy i) (tX .P X.K E wi) (tX .P X.K E we) (Qp3 X.K) (λx y H Q=>QcB H->r x y H Q) Qlj)):PS X st (tS X.K E (QtW i rD wi we)):=by
 refine PS.imp h λD σ H ⟨F,δ,DD,rel,hw,en⟩=>?_
 unfold QtW at hw;split at hw
 ·rename_i ds hds
  obtain⟨x,hx⟩:=rel.lt hds;obtain⟨l,xs,rfl,e,q,f⟩:=rel.sl i _ _ hx hds;have np:=rel.own_pot hds hx;refine⟨.ref l,hx,F,δ,_,DD.ex,rel,hw,λz hz y H1 rel1 kp1 yk=>?_,en.ex⟩;cases z<;>first | exact(show False from hz).elim | skip
  obtain⟨j,a,hj,ha,hn⟩:=hz;have q1:=kp1.das q;obtain⟨va,hva,da⟩:=q1.get j a ha;rw[DP.int yk];refine⟨l,xs,_,va,rfl,rfl,SqL.of (kp1.1 _ _ np e),by unfold atI;rw[q.length,hj];exact hva,F,δ,_,DD.ex,rel1,hn,λb hb u H2 rel2 kp2 uk ln=>?_,en.ex⟩;refine hd (Av F σ δ) (Z9 σ δ) H2 va u a b _ _ ln (λa ha=>rel2.isl ha) (.inl (kp2.da da)) uk hb λc hc w H3 s dw=>?_
  have r3:=rel2.same s;have k3:=kp2.trans (Kp.same rel2 s);refine⟨l,xs,_,j,rfl,rfl,k3.1 _ _ np (kp1.1 _ _ np e),by rw[q.length];exact hj,?_⟩;obtain⟨r4,st⟩:=r3.mut hds hx ((k3.das q1).set dw j);exact en.nx.go _ hc _ _ r4 (((Stp.kp kp1).trans (Stp.kp k3)).trans st)
 ·exact hw.elim
@[irreducible] def Quj(items:List Qc)(wg:DG)(wb:DS)(D:Qf8)(δ:Sts):Prop:=∃Iv:Nat->Sts->Prop,Iv 0 δ/\(∀(i:Nat) d δ,items[i]? = some d->Iv i δ->wg d δ λδ2=>wb { D with nx:=Iv (i+1),ct:=Iv (i+1),bk:=D.nx } δ2)/\∀δ,Iv items.length δ->D.nx δ
def dFor(wi:DI)(wg:DG)(wb:DS):DS:=λD δ=>wi δ (λitems=>Quj items wg wb D δ) D.ex
theorem QsT{tg iter:QX}{body:List ZM}{pos:Pos}{ix:List Nat}{wi:DI}{wg:DG}{wb:DS}(hp:PassesOwn (model X.prog X.w) X.A X.env X.xe)(hc:X.calm=true)(hi:PI X tg iter (tI .D X.K E wi))(hg:PG X tg (tG ix X.K wg))(hb:PSs X body (tS X.K E wb))
  (hs:∀x,foldedSetIterable iter X.env x=pure x:=by intro _;rfl):PS X (.For tg iter body [] pos) (tS X.K E (dFor wi wg wb)):=by
 refine PS.imp (Qdh hp hc hi hg hb hs) λD σ H ⟨F,δ,DD,rel,hw,en⟩=>?_
 refine⟨F,δ,_,DD.ex,rel,hw,λitems hC J H1 rel1 kp1 ⟨ln,it⟩=>?_,en.ex⟩;unfold Quj at hC;obtain⟨Iv,i0,step,fin⟩:=hC;have en1:=en.step (Stp.kp (F:=F) kp1);refine⟨λi m σ' H'=>m=items.length - i/\i<=items.length/\∃δ',Iv i δ'/\Rel X.K F σ' H' δ'/\Stp F σ H1 δ σ' H' δ',⟨_,rfl,Je _,δ,i0,rel1,Stp.refl⟩,?_⟩;rintro i m σ' H' ⟨rfl,hi',δ',iv,r',st'⟩;obtain⟨go,stop⟩:=it H' (Av F σ' δ') st'.1 st'.2 λa ha=>r'.isl ha
 by_cases hlt:i<items.length
 ·have hd:items[i]? = some items[i]:=Qi hlt;obtain⟨g1,g2⟩:=go i _ hd;refine .inr ⟨g1,λσ2 H2=>∃δ2,Iv (i+1) δ2/\Rel X.K F σ2 H2 δ2/\Stp F σ H1 δ σ2 H2 δ2,λσ2 H2 ⟨δ2,h2,r2,s2⟩=>⟨_,by omega,rfl,hlt,δ2,h2,r2,s2⟩,λx H3 y=>?_⟩;obtain⟨s3,dx⟩:=g2 x H3 y;have r3:=r'.same s3;have st3:Stp F σ H1 δ σ' H3 δ':=st'.trans (Stp.kp (Kp.same r' s3));refine⟨F,δ',_,_,r3,dx,step i _ δ' hd iv,λδ4 h4 σ4 r4 st4 _ _=>⟨F,δ4,_,r4,h4,?_⟩⟩;have st5:=st3.trans st4;exact⟨⟨λδ6 h6 σ6 H6 r6 s6=>⟨δ6,h6,r6,st5.trans s6⟩⟩,en.rt,en.rtF,(en1.step st5).nx,⟨λδ6 h6 σ6 H6 r6 s6=>⟨δ6,h6,r6,st5.trans s6⟩⟩,en.ex⟩
 ·have e:i=items.length:=by omega
  subst e;exact .inl ⟨stop,(en1.step st').nx.go δ' (fin δ' iv) σ' H' r' Stp.refl⟩
theorem QtK{lo:Int}{n:Nat}{wg:DG}{wb:DS}{D:Qf8}{δ:Sts}(Iv:Nat->Sts->Prop)(h0:Iv 0 δ)
  (hs:∀(i:Nat) δ,i<n->Iv i δ->wg (.int (lo+i)) δ λδ2=>wb { D with nx:=Iv (i+1),ct:=Iv (i+1),bk:=D.nx } δ2)(hd:∀δ,Iv n δ->D.nx δ):Quj (QfC lo n) wg wb D δ:=by
 unfold Quj;exact⟨Iv,h0,λi d δ hd iv=>by obtain⟨hi,rfl⟩:=QbY hd;exact hs i δ hi iv,λδ iv=>hd δ (by rw[QfB] at iv;exact iv)⟩
theorem Qd7{items:List Qc}{wg:DG}{wb:DS}{D:Qf8}{δ:Sts}(Iv:Nat->Sts->Prop)(h0:Iv 0 δ)
  (hs:∀(i:Nat) d δ,items[i]? = some d->Iv i δ->wg d δ λδ2=>wb { D with nx:=Iv (i+1),ct:=Iv (i+1),bk:=D.nx } δ2)(hd:∀δ,Iv items.length δ->D.nx δ):Quj items wg wb D δ:=by
 unfold Quj;exact⟨Iv,h0,hs,hd⟩
def Qrt(C:Addr)(we:DE):DS:=λD δ=>we δ (λ_=>D.ex C) D.ex
theorem QlJ{C:Addr}(h:PS X st (Rx.QpR E C (tX .P X.K E we))):PS X st (tS X.K E (Qrt C we)):=by
 refine PS.imp h λD σ H ⟨F,δ,DD,rel,hw,en⟩=>?_
 exact⟨F,δ,_,DD.ex,rel,hw,λd hd v H' rel' kp vk=>en.ex C hd H' rel'.ke,en.ex⟩
def Qwl(we:DE):DS:=λD δ=>we δ (λ_=>D.nx δ) D.ex
theorem Qon(h:PS X st (QnG (tX .P X.K E we))):PS X st (tS X.K E (Qwl we)):=by
 refine PS.imp h λD σ H ⟨F,δ,DD,rel,hw,en⟩=>?_
 exact⟨F,δ,_,DD.ex,rel,hw,λd hd v H' rel' kp vk=>en.nx.go δ hd σ H' rel' (Stp.kp kp),en.ex⟩
end
def stD(N:List Str)(args:List Sl):Sts:=args++QZ (N.length - args.length) .no
theorem paired_get{α β:Type}{R:α->β->Prop}:∀{xs:List α}{ys:List β},Zf R xs ys->∀(i:Nat) x y,xs[i]? = some x->ys[i]? = some y->R x y
 |_,_,.nil,i,x,y,h,_=>by simp at h
 |_,_,.cons a b,0,x,y,h,h'=>by simp at h h';subst h h';exact a
 |_,_,.cons a b,i+1,x,y,h,h'=>paired_get b i x y (by simpa using h) (by simpa using h')
theorem Qgo{K:PySem.W.Frag}{N:List Str}{A pt:Addr->Prop}{H:Hp}{vs:List V}{args:List Sl}(dm:∀a,A a->∃xs,H a=some (.lst xs))(hp:∀p,pt p->A p/\∃n,H p=some (.lst [.int n]))(q:Zf (QhU A pt H) vs args):Rel K ⟨H,A,pt⟩ (L2.start N vs) H (stD N args):=by
 have hl:vs.length=args.length:=q.length;have no:∀(i:Nat) x,(stD N args)[i]? = some x->(i<args.length/\args[i]? = some x)∨x=.no:=λi x h=>by
  unfold stD at h;by_cases z:i<args.length
  ·rw[Qa8 z] at h;exact .inl ⟨z,h⟩
  ·rw[Qgg (by omega),YW] at h;split at h
   ·exact .inr (QB h).symm
   ·cases h
 have arg:∀(i:Nat) o x,(L2.start N vs)[i]? = some o->(stD N args)[i]? = some x->x≠.no->∃v,o=some v/\QhU A pt H v x:=λi o x h1 h2 hx=>by
  rcases no i x h2 with⟨z,e⟩ | e
  ·unfold L2.start at h1;rw[Qa8 (by rw[Qg];omega),QC] at h1;obtain⟨v,hv,rfl⟩:=JH.mp h1;exact⟨v,rfl,paired_get q i v x hv e⟩
  ·exact absurd e hx
 have av:∀a,Av ⟨H,A,pt⟩ (L2.start N vs) (stD N args) a->A a:=λa z=>by
  rcases z with z | ⟨i,h1,h2⟩
  ·exact z
  ·rcases h2 with h2 | ⟨ds,h2⟩
   ·obtain⟨v,e,p,rfl,hp'⟩:=arg i _ _ h1 h2 (λz=>by cases z);cases e;exact(hp _ hp').1
   ·obtain⟨v,e,hh⟩:=arg i _ _ h1 h2 (λz=>by cases z);exact hh.elim
 exact{
  len:=by unfold L2.start stD;rw[Qv,Qv,Qg,Qaf,Qaf,hl]
  dom:=dm
  dom0:=dm
  pt0:=hp
  kx:=λ_ _ _ e=>e
  sl:=λi o x h1 h2=>by
   cases x with
   |no=>trivial
   |v d=>
    obtain⟨v,e,hh⟩:=arg i _ _ h1 h2 (λz=>by cases z);exact⟨v,e,DA.mv hh (λ_ _ _ e=>e) λa z=>.inl (av a z)⟩
   |pot=>
    obtain⟨v,e,p,rfl,hp'⟩:=arg i _ _ h1 h2 (λz=>by cases z);obtain⟨_,n,en⟩:=hp p hp';exact⟨p,n,e,en,.inl hp'⟩
   |own ds=>obtain⟨v,e,hh⟩:=arg i _ _ h1 h2 (λz=>by cases z);exact hh.elim
   |pk ds=>obtain⟨v,e,hh⟩:=arg i _ _ h1 h2 (λz=>by cases z);exact hh.elim
   |scr=>obtain⟨v,e,hh⟩:=arg i _ _ h1 h2 (λz=>by cases z);exact hh.elim
  inj:=λi j a ds h1 h2 _=>by
   obtain⟨v,e,hh⟩:=arg i _ _ h2 h1 (λz=>by cases z);exact hh.elim }
def Qzz:Qc->Bool
 |.list _=>false
 |_=>true
def rtD:Bool->(Qc->Prop)->Qc->Prop
 |true,R,d=>Qzz d=true/\R d
 |false,R,d=>R d
def QjR(fr:Bool)(R:Qc->Prop)(EX:XP):Qf8:=⟨λ_=>R .none,rtD fr R,R,λ_=>False,λ_=>False,EX⟩
theorem QmG{K:PySem.W.Frag}{E Ex:XK}{fr:Bool}{A pt:Addr->Prop}{H:Hp}{R:Qc->Prop}{EX EX':XP}{Q:VK}{σ:L2.St}{δ:Sts}(k:∀d,R d->∀v H',Kq pt H H'->DA A H' v d->(fr=true->FrV H H' v)->Q v H')(o:Out ⟨H,A,pt⟩ E EX') :
  Ends1 K E ⟨H,A,pt⟩ σ H δ (QjR fr R EX') { nx:=λ_ H'=>Q .non H',rt:=Q } where
 nx:=⟨λδ' hR σ' H' r st=>k _ hR _ H' r.ke .non λ_=>QtI⟩
 rt:=λd h v H' ke dv=>by
  cases fr with
  |false=>exact k d h v H' ke dv λz=>by cases z
  |true=>
   obtain⟨h1,h2⟩:=h;refine k d h2 v H' ke dv λz l e1 ⟨xs,e2⟩=>?_
   subst e1;cases dv with
   |@tup a ys ds n e q=>rw[e] at e2;cases e2
   |@lst a ys ds n e q=>cases h1
   |@dct a kvs ds n e q=>rw[e] at e2;cases e2
 rtF:=λd h v H' ke dv fr'=>k d h v H' ke dv λ_=>fr'
 bk:=⟨λ_ h=>h.elim⟩
 ct:=⟨λ_ h=>h.elim⟩
 ex:=o
section
variable{P:Qw}{w:Ja}{K:PySem.W.Frag}{mg:Str->Option Value}{base:JR}
theorem okD{x qual:Str}{st:ZM}{f:Addr}{fd:Qq}{N ps:List Str}{k:Nat}{fD:DF}(fr:Bool)(F:Fun K x qual st f fd)(S:Jc N ps (Qm st))(len:∀args R EX,fD args R EX->args.length=ps.length)
  (hbody:∀(cdv:Value)(A:Q9)(outer:List Env)(s:Shared)(H:Hp)(E:XK),Room k (A.deeper (envOfC qual (Qm st) s.heap.objs.size f cdv)) ->
   ∃wd,PSs (cxOf CX0 P w K mg base N qual (Qm st) f cdv A outer s H E).nox (Q7 st) (tS K E0 wd)/\∀args R EX,fD args R EX->wd (QjR fr R XF) (stD N args)):FnOk P w K mg base CX0 (k+1) f fd ps (ZE fr fD):=by
 refine F.ok S (λvs H Q E h=>?_) λcdv A outer s H vs Q E hr h=>?_
 ·obtain⟨A,pt,args,R,EX,_,_,q,h,_⟩:=h;rw[q.length];exact len _ _ _ h
 ·obtain⟨wd,hp,hw⟩:=hbody cdv A outer s H E hr;obtain⟨A',pt,args,R,EX,dm,hpt,q,h,k,_⟩:=h;exact⟨_,hp,⟨H,A',pt⟩,_,_,Qgo dm hpt q,hw args R EX h,QmG (Ex:=E) (EX:=EX) k Qs4⟩
theorem Qzy{x qual:Str}{st:ZM}{f:Addr}{fd:Qq}{N ps:List Str}{k:Nat}{fD:DF}(fr:Bool)(F:Fun K x qual st f fd)(S:Jc N ps (Qm st))(len:∀args R EX,fD args R EX->args.length=ps.length)
  (hbody:∀(cdv:Value)(A:Q9)(outer:List Env)(s:Shared)(H:Hp)(E:XK),Room k (A.deeper (envOfC qual (Qm st) s.heap.objs.size f cdv)) ->
   ∃wd,PSs (cxOf (Rx.CXE P w) P w K mg base N qual (Qm st) f cdv A outer s H E) (Q7 st) (tS K E wd)/\∀args R EX,fD args R EX->wd (QjR fr R EX) (stD N args)):FnOk P w K mg base (Rx.CXE P w) (k+1) f fd ps (ZE fr fD):=by
 refine Rx.okE F S (λvs H Q E h=>?_) λcdv A outer s H vs Q E hr h=>?_
 ·obtain⟨A,pt,args,R,EX,_,_,q,h,_⟩:=h;rw[q.length];exact len _ _ _ h
 ·obtain⟨wd,hp,hw⟩:=hbody cdv A outer s H E hr;obtain⟨A',pt,args,R,EX,dm,hpt,q,h,k,kx⟩:=h;exact⟨_,hp,⟨H,A',pt⟩,_,_,Qgo dm hpt q,hw args R EX h,QmG (Ex:=E) (EX:=EX) k λC hC H' ke=>kx C hC H' ke⟩
end
end Dl
namespace L2
def QyL(i j:Int):Prop:=0<j/\j<=10^40
theorem QoA{X:Cx}:OpR X (binaryOp .FloorDiv) (rI QyL λi j=>.int (i / j)):=opI λi j _ _ _ _ _ hc q=>by
 have h1:(0:Int)<j:=hc.1;have h2:j<=10^40:=hc.2;refine floordiv_int (by omega) (by rw[Int.fdiv_eq_ediv_of_nonneg i (by omega)];exact q) (.inl (PyProof.noPylong_of_log2 ?_));have h3:j.natAbs<2^200:=by
  have:(10:Int)^40<2^200:=by decide
  omega
 have:=(Nat.log2_lt (by omega:j.natAbs≠0)).mpr h3;omega
end L2
namespace Rk
open L2 _root_.Rd
def QdB:Sp:=λvs H Q _=>∃p n f,vs=[.ref p,.int f]/\H p=some (.lst [.int n])/\0<f/\f<=10^40/\∀r m,0<=r->r<f->Q (.int r) (upd H p (.lst [.int m]))
end Rk
namespace Dl
open L2 _root_.Rd Rk
theorem QaD{X:Cx}{E:XK}:QaT CX0 X E:=λ_ _ _ _ _ _ _ h=>h.elim
theorem Room.u60{k:Nat}{A:Q9}(r:Room k A):A.units+60<cLine:=by have:=r.un;omega
theorem Room.i60{k:Nat}{A:Q9}(r:Room k A):A.in1.units+60<cLine:=by
 have:=r.un;show A.units+1+60<cLine;omega
section
variable{X:Cx}{E:XK}{CX:CXT}{k:Nat}{f:Addr}{fd:Qq}{ps:List Str}{x:Str}{p pos:Pos}{e:QX}{es:List QX}{fD:DF}
def QnF:DF:=λargs R _=>∃f,args=[.pot,.v (.int f)]/\0<f/\f<=10^40/\∀r,0<=r->r<f->R (.int r)
theorem QuJ{vs:List V}{H:Hp}{Q:VK}{Ex:XK}(h:ZE true QnF vs H Q Ex):QdB vs H Q Ex:=by
 obtain⟨A,pt,args,R,EX,dm,hp,q,⟨f,rfl,f0,f1,hR⟩,k,_⟩:=h;cases q with
 |cons q1 q2=>cases q2 with
  |cons q2 q3=>
   cases q3;obtain⟨p,rfl,pp⟩:=q1;cases q2;obtain⟨_,n,e⟩:=hp p pp;refine⟨p,n,f,rfl,e,f0,f1,λr m r0 r1=>k _ (hR r r0 r1) _ _ ⟨λb o nb eb=>?_,λz hz=>?_⟩ (.int _) λ_=>Qar⟩
   ·rw[QU (λz=>nb (by rw[z];exact pp))];exact eb
   ·by_cases y:z=p
    ·rw[y];exact⟨m,upd_same⟩
    ·obtain⟨_,n',e'⟩:=hp z hz;exact⟨n',by rw[QU y];exact e'⟩
def isW:Qc->Bool
 |.int _=>true
 |_=>false
def QeG:DF:=λargs R _=>∃d,args=[.v d]/\R (.bool (isW d))
def QnY(n:Nat):DF:=λargs R _=>∃d,args=[.v d,.v d]/\nd d=true/\Qb7 n d=true/\R (.bool true)
theorem QuV{n:Nat}{vs:List V}{H:Hp}{Q:VK}{Ex:XK}(h:ZE false (QnY n) vs H Q Ex):Qht (n+1) vs H Q Ex:=by
 obtain⟨A,pt,args,R,EX,dm,hp,q,⟨d,rfl,hn,hf,hR⟩,k,_⟩:=h;cases q with
 |cons q1 q2=>cases q2 with
  |cons q2 q3=>
   cases q3;exact⟨_,_,d,rfl,QgN d _ hn q1,QgN d _ hn q2,hf,λH' s=>k _ hR _ H' ⟨λb o _ e=>s b o e,λp hp'=>let ⟨_,n,e⟩:=hp p hp';⟨n,s _ _ e⟩⟩ (.bl _) λz=>by cases z⟩
end
section
variable{P:Qw}{w:Ja}{K:PySem.W.Frag}{mg:Str->Option Value}{base:JR}
def Qh6(K:PySem.W.Frag):Sp:=λvs H Q _=>∃(a:Addr)(ns:List Int),vs=[.ref a]/\SqL K H a (ns.map V.int)/\ns.length<=63/\∀H',Q (.bl true) H'
end
theorem QwA{α:Type}{p:α->Prop}:∀x∈([]:List α),p x:=λ_ h=>nomatch h
theorem Qc6{α:Type}{p:α->Prop}{a:α}{l:List α}(h:p a)(t:∀x∈l,p x):∀x∈a::l,p x:=λx hx=>by
 rcases Qz.mp hx with z | z
 ·rw[z];exact h
 ·exact t x z
theorem Qwy{b c:Bool}{R:Qc->Prop}(h:R (.bool (b&&c))):if b=true then R (.bool c) else R (.bool false):=by
 cases b
 ·exact Qaw h
 ·exact Qb5 h
theorem Qud{b c:Bool}{R:Qc->Prop}{Pk:Prop}(h:R (.bool (b&&c)))(k:b=true->R (.bool c)->Pk):if b=true then Pk else R (.bool false):=by
 cases b
 ·exact Qaw h
 ·exact Qb5 (k rfl h)
theorem ifF{c:Bool}{A B:Prop}(h:c=false)(k:B):if c=true then A else B:=by subst h;exact k
theorem ifT{c:Bool}{A B:Prop}(h:c=true)(k:A):if c=true then A else B:=by subst h;exact k
theorem ifC{c:Bool}{A B:Prop}(t:c=true->A)(f:c=false->B):if c=true then A else B:=by
 cases c
 ·exact f rfl
 ·exact t rfl
end Dl
namespace L2
section
variable{X:Cx}
end
end L2
namespace Dl
open L2 _root_.Rd Rk
section
variable{X:Cx}{E:XK}
variable{e:QX}{w:DE}{p p2 pos pos2:Pos}
end
theorem Qwx{ds:List Qc}{i:Int}(h0:0<=i)(h1:i<ds.length):∃d,d∈ds/\atI ds i=some d:=by
 obtain⟨j,rfl⟩:∃j:Nat,i=j:=⟨i.toNat,by omega⟩
 have hj:j<ds.length:=by omega
 exact⟨ds[j],YH hj,JB (Qi hj)⟩
theorem QtC{ds:List Qc}{i:Int}{Q:Qc->Prop}(h0:0<=i)(h1:i<ds.length)(q:∀d∈ds,Q d):∃d,atI ds i=some d/\Q d:=by
 obtain⟨d,hd,e⟩:=Qwx h0 h1;exact⟨d,e,q d hd⟩
structure QE (m:Md) (X:Cx) (E:XK) (e:QX) (w:DE):Prop where h:PE X e (tX m X.K E w)
structure QT (X:Cx) (E:XK) (e:QX) (w:DT):Prop where h:PT X e (tT X.K E w)
structure QW (X:Cx) (E:XK) (e:QX) (w:DT):Prop where h:PW X e (tT X.K E w)
structure QTs (X:Cx) (E:XK) (es:List QX) (w:DT):Prop where h:PTs X es (tT X.K E w)
structure QA (n:Nat) (m:Md) (X:Cx) (E:XK) (es:List QX) (w:DAr):Prop where h:PA X es (tAr n m X.K E w)
structure QAs (X:Cx) (E:XK) (es:List QX) (w:DSl):Prop where h:PA X es (tAs X.K E w)
structure QO (X:Cx) (E:XK) (o:Option QX) (w:DO):Prop where h:PO X o (tO X.K E w)
structure QG (ix:List Nat) (X:Cx) (tg:QX) (w:DG):Prop where h:PG X tg (tG ix X.K w)
structure QI (m:Md) (X:Cx) (E:XK) (tg it:QX) (w:DI):Prop where h:PI X tg it (tI m X.K E w)
structure QS (X:Cx) (E:XK) (st:ZM) (w:DS):Prop where h:PS X st (tS X.K E w)
structure QSs (X:Cx) (E:XK) (sts:List ZM) (w:DS):Prop where h:PSs X sts (tS X.K E w)
section
variable{X:Cx}{E:XK}
theorem ZD{e:QX}{w:DE}(h:QE .F X E e w):QE .D X E e w:=⟨toD h.h⟩
theorem Jq{e:QX}{w:DE}(h:QE .D X E e w):QE .P X E e w:=⟨toP h.h⟩
theorem Jt{e:QX}{w:DE}(h:QE .F X E e w):QE .P X E e w:=⟨Qzl h.h⟩
theorem qv(i:Nat){x:Str}{pos:Pos}(hN:X.N[i]? = some x:=by rfl)(hv:Vis X.env.scope x:=by first | exact QF rfl | exact QK (QF rfl) | exact QK (QK rfl))(hd:(x == ("__debug__" : Str))=false:=by decide)(hcd:(x == ("__classdict__" : Str))=false:=by decide):QE .D X E (.Name x pos) (Qrs i):=⟨Qvk (pv i hN hv hd hcd)⟩
theorem qp(i:Nat){x:Str}{pos:Pos}(hN:X.N[i]? = some x:=by rfl)(hv:Vis X.env.scope x:=by first | exact QF rfl | exact QK (QF rfl) | exact QK (QK rfl))(hd:(x == ("__debug__" : Str))=false:=by decide)(hcd:(x == ("__classdict__" : Str))=false:=by decide):QE .P X E (.Name x pos) (dPk i):=⟨Qx4 (pv i hN hv hd hcd)⟩
theorem JT{i:Int}{j pos}:QE .D X E (.Constant (.int i) j pos) (dC (.int i)):=⟨Qvt⟩
theorem QwX{b:Bool}{j pos}:QE .D X E (.Constant (.bool b) j pos) (dC (.bool b)):=⟨Qx7⟩
theorem Qvb{j pos}:QE .D X E (.Constant .none j pos) (dC .none):=⟨Qvq⟩
theorem Qac{x:Str}{j pos}(h:JO (.str x)=true:=by decide +kernel):QE .D X E (.Constant (.str x) j pos) (dC (.str x)):=⟨Qvn h⟩
theorem Qvd{x:Str}(i:Int){u:Value}{pos:Pos}(hg:Gl X x)(hm:X.mg x=some u)(r:RelV (.int i) u)(hd:(x == ("__debug__" : Str))=false:=by decide):QE .D X E (.Name x pos) (dC (.int i)):=⟨Qvw (QlF hg hm r hd) λ_ _=>.int i⟩
theorem Qad{a b:QX}{wa wb:DE}{pos:Pos}{r:R2}{rD:Qc->Qc->(Qc->Prop)->Prop}{op:Qff}(ho:OpR X (binaryOp op) r)(hd:OpD r rD)(ha:QE .P X E a wa)(hb:QE .P X E b wb):QE .F X E (.BinOp a op b pos) (dOp rD wa wb):=⟨Qvx ho hd ha.h hb.h⟩
theorem Qve{a b:QX}{wa wb:DE}{pos:Pos}{r:R2}{rD:Qc->Qc->(Qc->Prop)->Prop}{op:QrK}(ho:OpR X (compareOp op) r)(hd:OpD r rD)(ha:QE .P X E a wa)(hb:QE .P X E b wb)(hm:behindInMarks op b=false):QE .F X E (.Compare a [op] [b] pos) (dOp rD wa wb):=⟨Qvv ho hd ha.h hb.h hm⟩
theorem ZP{a b:QX}{wa wb:DE}{pos:Pos}{r:R2}{rD:Qc->Qc->(Qc->Prop)->Prop}{op:QrK}(ho:OpR X (compareOp op) r)(hd:OpD r rD)(ha:QE .P X E a wa)(hb:QE .P X E b wb)(hm:behindInMarks op b=false):QT X E (.Compare a [op] [b] pos) (dTst (dOp rD wa wb)):=⟨QsL ho hd ha.h hb.h hm⟩
theorem QcS{a b:QX}{wa wb:DE}{pos:Pos}{r:R2}{rD:Qc->Qc->(Qc->Prop)->Prop}(ho:IxR X r)(hd:Qui r rD)(ha:QE .P X E a wa)(hb:QE .P X E b wb)(hs:QhT b):QE .D X E (.Subscript a b pos) (dOp rD wa wb):=⟨Qx5 ho hd ha.h hb.h hs⟩
theorem Qvc{a:QX}{wa:DE}{pos:Pos}(ha:QE .P X E a wa):QE .F X E (.UnaryOp .USub a pos) (dUn Qy0 wa):=⟨Qvr ha.h⟩
theorem Qx1{a b c:QX}{wa wb wc:DE}{pos:Pos}{op op':QrK}{p q:Int->Int->Bool}(ho:OpR X (compareOp op) (rI0 λi j=>.bl (p i j)))(ho':OpR X (compareOp op') (rI0 λi j=>.bl (q i j)))(ha:QE .P X E a wa)(hb:QE .P X E b wb)(hc:QE .P X E c wc)(hm:lastMarks [op,op'] [b,c]=false:=by with_unfolding_all rfl):QE .F X E (.Compare a [op,op'] [b,c] pos) (dCh p q wa wb wc):=⟨Qx6 ho ho' ha.h hb.h hc.h hm⟩
theorem Qlp{e:QX}{w:DE}(h:QE .P X E e w)(he:∀whole,isTrue e X.env whole=(do let v <- whole;standAt e.pos;holding [v] (truthy v)):=by intro _;rfl):QT X E e (dTru w):=⟨QsJ h.h he⟩
theorem Qde{e:QX}{w:DE}(h:QE .P X E e w)(he:∀whole,isTrue e X.env whole=(do let v <- whole;standAt e.pos;holding [v] (truthy v)):=by intro _;rfl):QT X E e (dTst w):=⟨QsI h.h he⟩
theorem Qhv{a:QX}{pos:Pos}{ta:DT}(ha:QT X E a ta):QW X E (.BoolOp .And [a] pos) ta:=⟨Qog ha.h⟩
theorem Qln{a b:QX}{rest:List QX}{pos:Pos}{ta tb:DT}(ha:QT X E a ta)(hb:QW X E (.BoolOp .And (b::rest) pos) tb):QW X E (.BoolOp .And (a::b::rest) pos) (Qyz ta tb):=⟨QsH ha.h hb.h⟩
theorem Qlv{a b:QX}{rest:List QX}{pos:Pos}{wa wb:DE}(ha:QE .P X E a wa)(hb:QE .D X E (.BoolOp .And (b::rest) pos) wb):QE .D X E (.BoolOp .And (a::b::rest) pos) (Qwm wa wb):=⟨Qvy ha.h hb.h⟩
theorem Qig{a:QX}{pos:Pos}{ta:DT}(ha:QT X E a ta):QW X E (.BoolOp .Or [a] pos) ta:=⟨QsG ha.h⟩
theorem Qjk{a b:QX}{rest:List QX}{pos:Pos}{ta tb:DT}(ha:QT X E a ta)(hb:QW X E (.BoolOp .Or (b::rest) pos) tb):QW X E (.BoolOp .Or (a::b::rest) pos) (dOr ta tb):=⟨Qvi ha.h hb.h⟩
theorem Qsq{e:QX}{t:DT}(h:QW X E e t):QT X E e t:=⟨PW.pt h.h⟩
theorem Qco{a:QX}{pos:Pos}{ta:DT}(ha:QT X E a ta):QT X E (.UnaryOp .Not a pos) (Qy7 ta):=⟨QsK ha.h⟩
theorem Qlu{op}{a:QX}{pos:Pos}{w:DE}(h:QE .D X E a w):QE .D X E (.BoolOp op [a] pos) w:=⟨Qvo h.h⟩
theorem Qva{a:QX}{pos:Pos}{wa:DE}(ha:QE .P X E a wa):QE .D X E (.UnaryOp .Not a pos) (Qwi wa):=⟨Qvp ha.h⟩
theorem Jl{m:Md}:QA 0 m X E [] Qpn:=⟨QsY⟩
theorem ZF{n:Nat}{e:QX}{es:List QX}{we:DE}{wr:DAr}(he:QE .D X E e we)(hr:QA n .D X E es wr)(hs:notStar e=true:=by rfl):QA (n+1) .D X E (e::es) (Qbx we wr):=⟨QlM he.h hr.h hs⟩
theorem Qdg{n:Nat}{e:QX}{es:List QX}{we:DE}{wr:DAr}(he:QE .P X E e we)(hr:QA n .P X E es wr)(hs:notStar e=true:=by rfl):QA (n+1) .P X E (e::es) (Qbx we wr):=⟨QlL he.h hr.h hs⟩
theorem YS{n:Nat}{es:List QX}{w:DAr}{x1}{pos:Pos}(h:QA n .D X E es w)(hn:n<=1000:=by decide):QE .F X E (.Tuple es x1 pos) (Qw4 w):=⟨Qvl h.h hn⟩
theorem QfF{n:Nat}{es:List QX}{w:DAr}{pos:Pos}(h:QA n .D X E es w)(hn:n<=1000:=by decide):QE .F X E (.List es pos) (Qwj w):=⟨Qvs h.h hn⟩
theorem Qx0{pos:Pos}:QE .D X E (.Dict [] [] pos) (dC (.dict [])):=⟨Qvu⟩
theorem Qao{x:Str}{bid:String}{p pos:Pos}{e:QX}{es:List QX}{n:Nat}{wr:DAr}{r:List V->Hp->VK->Prop}{rD:List Qc->(Qc->Prop)->Prop}(hc:CallR X (.builtin bid) r)(hd:QcC r rD)(hg:Gl X x)(hm:X.mg x=none)(hv:bootBuiltins x=some (.builtin bid))(ha:QA n .P X E (e::es) wr)(hn:x ≠ "__name__" := by decide)(hdb:(x == ("__debug__" : Str))=false:=by decide)(he:starEach (e::es) X.env=(false,eval e X.env)::starEach es X.env:=by rfl)(hpl:(backTo pos (starEach es X.env)).any (·.1)=false:=by rfl):QE .F X E (.Call (.Name x p) (e::es) [] pos) (dCB rD wr):=⟨Qox hc hd hg hm hv ha.h hn hdb he hpl⟩
theorem Z5{x:Str}{T:String}{p pos:Pos}{e:QX}{es:List QX}{n:Nat}{wr:DAr}{r:List V->Hp->VK->Prop}{rD:List Qc->(Qc->Prop)->Prop}(hc:CallR X (.type T) r)(hd:QcC r rD)(hg:Gl X x)(hm:X.mg x=none)(hv:bootBuiltins x=some (.type T))(ha:QA n .P X E (e::es) wr)(hn:x ≠ "__name__" := by decide)(hdb:(x == ("__debug__" : Str))=false:=by decide)(he:starEach (e::es) X.env=(false,eval e X.env)::starEach es X.env:=by rfl)(hpl:(backTo pos (starEach es X.env)).any (·.1)=false:=by rfl):QE .F X E (.Call (.Name x p) (e::es) [] pos) (dCB rD wr):=⟨QlN hc hd hg hm hv ha.h hn hdb he hpl⟩
theorem QeO{e:QX}{we:DE}{p pos pos2:Pos}{x:Str}(tn:Tn)(hg:Gl X "isinstance")(hm:X.mg "isinstance" = none)(he:QE .P X E e we)(hg2:Gl X x)(hm2:X.mg x=none)(hv:bootBuiltins x=some (.type tn.s))(hn:x ≠ "__name__" := by decide)(hd:(x == ("__debug__" : Str))=false:=by decide)(h1:notStar e=true:=by rfl):QE .F X E (.Call (.Name "isinstance" p) [e,.Name x pos2] [] pos) (Qwk tn we):=⟨QsZ tn hg hm he.h (Qx8 tn hg2 hm2 hv hn hd) h1 rfl⟩
theorem Qls  : QO X E none dNo:=⟨Qor⟩
theorem Qlr{e:QX}{we:DE}(he:QE .P X E e we):QO X E (some e) (dSo we):=⟨Qoq he.h⟩
theorem Qlt{e:QX}{lo hi:Option QX}{we:DE}{wl wh:DO}{p2 pos:Pos}(he:QE .P X E e we)(hl:QO X E lo wl)(hh:QO X E hi wh):QE .F X E (.Subscript e (.Slice lo hi none p2) pos) (dSl we wl wh):=⟨Qov he.h hl.h hh.h⟩
theorem Yf  : QAs X E [] QxU:=⟨QsR⟩
theorem Qbe{e:QX}{es:List QX}{we:DE}{wr:DSl}(he:QE .D X E e we)(hr:QAs X E es wr)(hs:notStar e=true:=by rfl):QAs X E (e::es) (sV we wr):=⟨Qx3 he.h hr.h hs⟩
theorem QdQ(i:Nat){x:Str}{pos:Pos}{es:List QX}{wr:DSl}(hr:QAs X E es wr)(hN:X.N[i]? = some x:=by rfl)(hv:Vis X.env.scope x:=by first | exact QF rfl | exact QK (QF rfl) | exact QK (QK rfl))(hd:(x == ("__debug__" : Str))=false:=by decide)(hcd:(x == ("__classdict__" : Str))=false:=by decide):QAs X E (.Name x pos::es) (QwT i wr):=⟨QsO (pv i hN hv hd hcd) hr.h rfl⟩
theorem Qbo{CX:CXT}{k:Nat}{f:Addr}{fd:Qq}{ps:List Str}{x:Str}{p pos:Pos}{e:QX}{es:List QX}{fD:DF}{wa:DSl}(G:FnOk X.prog X.w X.K X.mg X.base CX k f fd ps (ZE false fD))(hr:Room k X.A)(hg:Gl X x)(hm:X.mg x=some (.ref f))(hk:PySem.W.keepIn X.K (.ref f)=true)(hb:Binds X.K fd ps [])(hx:QaT CX X E)(ha:QAs X E (e::es) wa)(hdb:(x == ("__debug__" : Str))=false:=by decide)(he:starEach (e::es) X.env=(false,eval e X.env)::starEach es X.env:=by rfl)(hpl:(backTo pos (starEach es X.env)).any (·.1)=false:=by rfl):QE .D X E (.Call (.Name x p) (e::es) [] pos) (QjT fD wa):=⟨Qs1 G hr hg hm hk hb hx ha.h hdb he hpl⟩
theorem Qan{CX:CXT}{k:Nat}{f:Addr}{fd:Qq}{ps:List Str}{x:Str}{p pos:Pos}{e:QX}{es:List QX}{fD:DF}{wa:DSl}(G:FnOk X.prog X.w X.K X.mg X.base CX k f fd ps (ZE true fD))(hr:Room k X.A)(hg:Gl X x)(hm:X.mg x=some (.ref f))(hk:PySem.W.keepIn X.K (.ref f)=true)(hb:Binds X.K fd ps [])(hx:QaT CX X E)(ha:QAs X E (e::es) wa)(hdb:(x == ("__debug__" : Str))=false:=by decide)(he:starEach (e::es) X.env=(false,eval e X.env)::starEach es X.env:=by rfl)(hpl:(backTo pos (starEach es X.env)).any (·.1)=false:=by rfl):QE .F X E (.Call (.Name x p) (e::es) [] pos) (QjT fD wa):=⟨Qow G hr hg hm hk hb hx ha.h hdb he hpl⟩
theorem Qam(i:Nat){x:Str}{pos:Pos}(hN:X.N.Nodup)(hi:X.N[i]? = some x)(hx:Loc X.env.scope x)(hf:X.fn x=true∨X.env.scope.names.lookup x=some .local:=by first | exact .inl rfl | exact .inr rfl | assumption):QG [i] X (.Name x pos) (gN i):=⟨Qou (Zo hN hi hx hf)⟩
structure QGs (X:Cx) (es:List QX) (is:List Nat):Prop where h:PGs X es (gNs is)
theorem Qbn  : QGs X [] []:=⟨Qb2⟩
theorem Zb(i:Nat){is:List Nat}{x:Str}{pos:Pos}{es:List QX}(h:QGs X es is)(hN:X.N.Nodup)(hi:X.N[i]? = some x)(hx:Loc X.env.scope x)(hf:X.fn x=true∨X.env.scope.names.lookup x=some .local:=by first | exact .inl rfl | exact .inr rfl | assumption)(hs:(assignEach (.Name x pos::es) X.env).map (·.2)=assign (.Name x pos) X.env::(assignEach es X.env).map (·.2):=by rfl):QGs X (.Name x pos::es) (i::is):=⟨ZI (Zo hN hi hx hf) h.h hs⟩
theorem Qbm{es:List QX}{k:Nat}{pos:Pos}{is:List Nat}(hc:X.calm=true)(h:QGs X es is)(hn:(assignEach es X.env).length=is.length:=by rfl)(hst:(assignEach es X.env).findIdx? (·.1)=none:=by rfl):QG is X (.Tuple es k pos) (gTN is):=⟨QsX (QdT hc h.h hn hst) rfl⟩
theorem Qso{m:Md}{tg e:QX}{w:DE}(h:QE m X E e w):QI m X E tg e (Qy9 w):=⟨Qot h.h⟩
theorem Qgv{m:Md}{tg e:QX}{w:DE}(h:QE m X E e w):QI m X E tg e (Qy8 w):=⟨QsW h.h⟩
theorem Qb0{m:Md}{tg e:QX}{w:DE}{p pos:Pos}(hg:Gl X "range")(hm:X.mg "range" = none)(h:QE .P X E e w)(hs:notStar e=true:=by rfl):QI m X E tg (.Call (.Name "range" p) [e] [] pos) (Qwg w):=⟨Qos hg hm h.h hs⟩
theorem Qij{m:Md}{e:QX}{w:DE}{p pos tpos:Pos}{elts:List QX}{x1}(hg:Gl X "enumerate")(hm:X.mg "enumerate" = none)(h:QE m X E e w)(hs:notStar e=true:=by rfl):QI m X E (.Tuple elts x1 tpos) (.Call (.Name "enumerate" p) [e] [] pos) (Qza w):=⟨QlK hg hm h.h hs⟩
theorem QdO  : QTs X E [] Qw5:=⟨Qoi⟩
theorem QbZ{c:QX}{t:DT}(h:QT X E c t):QTs X E [c] t:=⟨Qoh h.h⟩
theorem QbR(M:List Str)(cap:List (Option Nat)){elt tg iter:QX}{ifs:List QX}{scope:Y4}{pos:Pos}{ix:List Nat}{wi:DI}{wg:DG}{wt:DT}{we:DE}(hi:QI .P X E tg iter wi)(hb:∀cl ex s3 H3 C,QG ix (blk X M scope cl ex s3 H3 C) tg wg/\QTs (blk X M scope cl ex s3 H3 C) E0 ifs wt/\QE .D (blk X M scope cl ex s3 H3 C) E0 elt we)(hc:X.calm=true:=by rfl)(ok:QhO X.N X.env.scope M scope cap=true:=by rfl)(hf:Qc1 cap ix=true:=by rfl)(hs:∀x,foldedSetIterable iter X.env x=pure x:=by intro _;rfl):QE .F X E (.ListComp elt [⟨tg,iter,ifs,0⟩] scope pos) (dComp cap wi wg wt we):=⟨Qs0 hc ok hf hi.h (λcl ex s3 H3 C=>⟨(hb cl ex s3 H3 C).1.h,(hb cl ex s3 H3 C).2.1.h,(hb cl ex s3 H3 C).2.2.h⟩) hs⟩
theorem ZJ  : QSs X E [] QgO:=⟨Qoj⟩
theorem Jo{st:ZM}{w:DS}(h:QS X E st w):QSs X E [st] w:=⟨QsQ h.h⟩
theorem Jf{st:ZM}{rest:List ZM}{w w':DS}(h:QS X E st w)(h':QSs X E rest w'):QSs X E (st::rest) (Qpm w w'):=⟨Qoo h.h h'.h⟩
theorem Qdf(i:Nat){x:Str}{e:QX}{pos pos':Pos}{we:DE}(he:QE .D X E e we)(hN:X.N.Nodup)(hi:X.N[i]? = some x:=by rfl)(hx:Loc X.env.scope x:=by first | exact QF rfl | exact QK rfl)(hs:swapsWith e (some (.Name x pos')) pos.line X.env=pure false:=by rfl)(hf:X.fn x=true∨X.env.scope.names.lookup x=some .local:=by first | exact .inl rfl | exact .inr rfl | assumption):QS X E (.Assign [.Name x pos'] e pos) (Qyv i we):=⟨QlH (ZQ hN hi hx he.h hs hf)⟩
theorem QdP(i:Nat){x:Str}{e:QX}{pos pos':Pos}{we:DE}(he:QE .F X E e we)(hN:X.N.Nodup)(hi:X.N[i]? = some x:=by rfl)(hx:Loc X.env.scope x:=by first | exact QF rfl | exact QK rfl)(hs:swapsWith e (some (.Name x pos')) pos.line X.env=pure false:=by rfl)(hf:X.fn x=true∨X.env.scope.names.lookup x=some .local:=by first | exact .inl rfl | exact .inr rfl | assumption):QS X E (.Assign [.Name x pos'] e pos) (Qpl i we):=⟨Qok (ZQ hN hi hx he.h hs hf)⟩
theorem QeN{tg e:QX}{pos:Pos}{ix:List Nat}{we:DE}{wg:DG}(he:QE .D X E e we)(hg:QG ix X tg wg)(hs:swapsWithSole [tg] e pos.line X.env=pure false:=by rfl)(hw:swappedStores [tg] e X.env=pure none:=by rfl)(h1:(assignEach [tg] X.env).map (·.2)=[assign tg X.env]:=by rfl):QS X E (.Assign [tg] e pos) (Qzb we wg):=⟨QsV (Qdi he.h hg.h hs hw h1)⟩
theorem Qu6(i j:Nat){x y:Str}{a b:QX}{n:Nat}{wa:DAr}{pos px py pt:Pos}{kt k2 pt2}(ha:QA n .D X E [a,b] wa)(hN:X.N.Nodup)(hc:X.calm=true:=by rfl)(hi:X.N[i]? = some x:=by rfl)(hj:X.N[j]? = some y:=by rfl)(hij:i≠j:=by decide)(hx:X.env.scope.names.lookup x=some .local:=by rfl)(hy:X.env.scope.names.lookup y=some .local:=by rfl)(hw:swappedStores [.Tuple [.Name x px,.Name y py] kt pt] (.Tuple [a,b] k2 pt2) X.env=pure (some [x,y]):=by rfl)(hs:swapsWithSole [.Tuple [.Name x px,.Name y py] kt pt] (.Tuple [a,b] k2 pt2) pos.line X.env=pure false:=by rfl):QS X E (.Assign [.Tuple [.Name x px,.Name y py] kt pt] (.Tuple [a,b] k2 pt2) pos) (Qy6 i j wa):=⟨QsP (Qvg hc hN hi hj hij hx hy ha.h hw hs)⟩
theorem Qbl{e:QX}{pos:Pos}{we:DE}(h:QE .D X E e we):QS X E (.Return (some e) pos) (Qy5 we):=⟨QsM h.h⟩
theorem YJ{e:QX}{pos:Pos}{we:DE}(h:QE .F X E e we):QS X E (.Return (some e) pos) (QtV we):=⟨Qom h.h⟩
theorem Qlq(i:Nat){x:Str}{pos pos2:Pos}(hN:X.N[i]? = some x:=by rfl)(hv:Vis X.env.scope x:=by first | exact QF rfl | exact QK (QF rfl) | exact QK (QK rfl))(hd:(x == ("__debug__" : Str))=false:=by decide)(hcd:(x == ("__classdict__" : Str))=false:=by decide):QS X E (.Return (some (.Name x pos)) pos2) (QtU i):=⟨Qol (pv i hN hv hd hcd)⟩
theorem QaN{c:QX}{a b:List ZM}{pos:Pos}{t:DT}{w w':DS}(hc:QT X E c t)(ha:QSs X E a w)(hb:QSs X E b w'):QS X E (.If c a b pos) (dIf t w w'):=⟨Qvj hc.h ha.h hb.h⟩
theorem Qu8{y:Str}{e:QX}{we:DE}{apos cpos pos npos:Pos}(i:Nat)(he:QE .P X E e we)(hN:X.N[i]? = some y:=by rfl)(hv:Vis X.env.scope y:=by first | exact QF rfl | exact QK (QF rfl) | exact QK (QK rfl))(hd:(y == ("__debug__" : Str))=false:=by decide)(hcd:(y == ("__classdict__" : Str))=false:=by decide)(hst:notStar e=true:=by rfl)(hbase:attributeBase (.Name y npos) "extend" X.env (eval (.Name y npos) X.env)=eval (.Name y npos) X.env:=by rfl)(hfew:((backTo cpos (starEach [e] X.env)).all (λx => !x.1)&&(backToKw cpos (keywordEach [] X.env)).all (λx=>x.1.isSome)&&decide ([e].length+([]:List Qer).length+(if([]:List Qer).isEmpty then 0 else 1)<30))=true:=by rfl)(hline:(apos.endLine == cpos.line)=true:=by rfl)(hsw:swapsWith (.Call (.Attribute (.Name y npos) "extend" apos) [e] [] cpos) none pos.line X.env=pure false:=by rfl):QS X E (.Expr (.Call (.Attribute (.Name y npos) "extend" apos) [e] [] cpos) pos) (Qyx i we):=⟨QsU (Z8 (Qjn PySem.F.plainAttrs_list PySem.F.slot_list_extend PySem.F.type_list_extend Qmf (pv i hN hv hd hcd) (pa_c he.h pa_nil hst) hbase hfew hline (Qa2 hst) rfl) hsw)⟩
theorem Qp4{y:Str}{e k:QX}{we wk:DE}{pos spos npos:Pos}(i:Nat)(he:QE .D X E e we)(hk:QE .P X E k wk)(hN:X.N[i]? = some y:=by rfl)(hv:Vis X.env.scope y:=by first | exact QF rfl | exact QK (QF rfl) | exact QK (QK rfl))(hd:(y == ("__debug__" : Str))=false:=by decide)(hcd:(y == ("__classdict__" : Str))=false:=by decide) (ha:∀v,assign (.Subscript (.Name y npos) k spos) X.env v=(do
   let ov <- holding [v] (eval (.Name y npos) X.env)
   let iv <- holding [v,ov] (eval k X.env)
   standAt spos
   holding [v,ov,iv] (setItem ov iv v)
   release [v,ov,iv] []):=by intro _;rfl) (hs:swapsWithSole [.Subscript (.Name y npos) k spos] e pos.line X.env=pure false:=by rfl) (hw:swappedStores [.Subscript (.Name y npos) k spos] e X.env=pure none:=by rfl) (h1:(assignEach [.Subscript (.Name y npos) k spos] X.env).map (·.2)=[assign (.Subscript (.Name y npos) k spos) X.env]:=by rfl):QS X E (.Assign [.Subscript (.Name y npos) k spos] e pos) (Qwh i wk we):=⟨QsN (Qdi he.h (QlE (pv i hN hv hd hcd) hk.h QdC ha) hs hw h1)⟩
theorem Qsn{y:Str}{e k:QX}{we wk:DE}{op:Qff}{ti:TIp}{rD:Qc->Qc->(Qc->Prop)->Prop}{pos tpos npos:Pos}(i:Nat)(ho:PIp X op ti)(hd:Qui ti rD)(hk:QE .P X E k wk)(he:QE .P X E e we)(hN:X.N[i]? = some y:=by rfl)(hv:Vis X.env.scope y:=by first | exact QF rfl | exact QK (QF rfl) | exact QK (QK rfl))(hdd:(y == ("__debug__" : Str))=false:=by decide)(hcd:(y == ("__classdict__" : Str))=false:=by decide)(ha:∀ov iv new,augStore k ov iv new=(do holding [new,ov,iv] (setItem ov iv new);release [new,ov,iv] [];pure .next):=by intros;rfl):QS X E (.AugAssign (.Subscript (.Name y npos) k tpos) op e pos) (QtW i rD wk we):=⟨Qop hd (Qsx (pv i hN hv hdd hcd) hk.h Qo8 he.h (PIp.len ho) QdC ha)⟩
theorem Qii{tg iter:QX}{body:List ZM}{pos:Pos}{ix:List Nat}{wi:DI}{wg:DG}{wb:DS}(hp:PassesOwn (model X.prog X.w) X.A X.env X.xe)(hc:X.calm=true)(hi:QI .D X E tg iter wi)(hg:QG ix X tg wg)(hb:QSs X E body wb)(hs:∀x,foldedSetIterable iter X.env x=pure x:=by intro _;rfl):QS X E (.For tg iter body [] pos) (dFor wi wg wb):=⟨QsT hp hc hi.h hg.h hb.h hs⟩
theorem QdE{x:Str}{C:Addr}{e0:QX}{we:DE}{np cpos pos:Pos}(hxe:∀e s1,wpAny (model X.prog X.w) X.A (leaving X.env e) (λ_ s2=>Rx.CXE X.prog X.w X.outer X.H₀ X.s₀ E e s2) (λe' s2=>Rx.CXE X.prog X.w X.outer X.H₀ X.s₀ E e' s2) s1->X.xe e s1)(hm:X.mg x=some (.ref C))(q:PySem.W.excIn X.K C Rx.mroV "ValueError.__new__" = true)(ha:QE .P X E e0 we)(hstk:X.stack=X.env::X.outer:=by rfl)(hfr:X.env.frame=some X.env.locals:=by rfl)(hex:X.ex=[]:=by rfl)(hc:X.calm=true:=by rfl)(hg:Gl X x:=by rfl)(he:starEach [e0] X.env=[(false,eval e0 X.env)]:=by rfl)(hd:(x == ("__debug__" : Str))=false:=by decide):QS X E (.Raise (some (.Call (.Name x np) [e0] [] cpos)) none pos) (Qrt C we):=⟨QlJ (Rx.QfI hxe hstk hfr hex hc hg hm q ha.h he hd)⟩
theorem Qsm{e:QX}{we:DE}{pos:Pos}(he:QE .P X E e we)(hs:swapsWith e none pos.line X.env=pure false:=by rfl):QS X E (.Expr e pos) (Qwl we):=⟨Qon (Z8 he.h hs)⟩
end
section
variable{P:Qw}{w:Ja}{K:PySem.W.Frag}{mg:Str->Option Value}{base:JR}
theorem okQ{x qual:Str}{st:ZM}{f:Addr}{fd:Qq}{N ps:List Str}{k:Nat}{fD:DF}(fr:Bool)(F:Fun K x qual st f fd)(S:Jc N ps (Qm st))(len:∀args R EX,fD args R EX->args.length=ps.length)
  (hbody:∀(cdv:Value)(A:Q9)(outer:List Env)(s:Shared)(H:Hp)(E:XK),Room k (A.deeper (envOfC qual (Qm st) s.heap.objs.size f cdv)) ->
   ∃wd,QSs (cxOf CX0 P w K mg base N qual (Qm st) f cdv A outer s H E).nox E0 (Q7 st) wd/\∀args R EX,fD args R EX->wd (QjR fr R XF) (stD N args)):FnOk P w K mg base CX0 (k+1) f fd ps (ZE fr fD):=
 okD fr F S len λcdv A outer s H E hr=>let ⟨wd,h,q⟩:=hbody cdv A outer s H E hr;⟨wd,h.h,q⟩
theorem Qw1{x qual:Str}{st:ZM}{f:Addr}{fd:Qq}{N ps:List Str}{k:Nat}{fD:DF}(fr:Bool)(F:Fun K x qual st f fd)(S:Jc N ps (Qm st))(len:∀args R EX,fD args R EX->args.length=ps.length)
  (hbody:∀(cdv:Value)(A:Q9)(outer:List Env)(s:Shared)(H:Hp)(E:XK),Room k (A.deeper (envOfC qual (Qm st) s.heap.objs.size f cdv)) ->
   ∃wd,QSs (cxOf (Rx.CXE P w) P w K mg base N qual (Qm st) f cdv A outer s H E) E (Q7 st) wd/\∀args R EX,fD args R EX->wd (QjR fr R EX) (stD N args)):FnOk P w K mg base (Rx.CXE P w) (k+1) f fd ps (ZE fr fD):=
 Qzy fr F S len λcdv A outer s H E hr=>let ⟨wd,h,q⟩:=hbody cdv A outer s H E hr;⟨wd,h.h,q⟩
end
end Dl
namespace Rk
open L2 _root_.Rd Dl
def inW(d:Qc)(a b:Int):Bool:=match d with
 |.int i=>decide (a<=i)&&decide (i<=b)
 |_=>false
theorem QvY{i a b:Int}(h1:a<=i)(h2:i<=b):inW (.int i) a b=true:=by
 show(decide (a<=i)&&decide (i<=b))=true;rw[decide_eq_true h1,decide_eq_true h2];rfl
theorem QvZ{d:Qc}{a b:Int}(h:inW d a b=true):∃i,d=.int i/\a<=i/\i<=b:=by
 cases d<;>first | (cases h;done) | skip
 rename_i i
 have h:=Q4.mp (show(decide (a<=i)&&decide (i<=b))=true from h);exact⟨i,rfl,of_decide_eq_true h.1,of_decide_eq_true h.2⟩
def Qfl:DF:=λargs R _=>∃d a b,args=[.v d,.v (.int a),.v (.int b)]/\R (.bool (inW d a b))
theorem Qpo(xs:List Qc)(k:Int)(h:0<=k):Dl.cutD xs none (some k)=xs.take k.toNat:=by
 unfold Dl.cutD;obtain⟨j,rfl⟩:∃j:Nat,k=j:=⟨k.toNat,by omega⟩
 rw[HT.Qib,HT.Qsa,Qg9,Qkv,Qy];by_cases z:j<=xs.length
 ·rw[QuB z]
 ·rw[Nat.min_eq_right (by omega),Zm,List.take_of_length_le (by omega)]
end Rk
namespace Rx
open PySem.Calls L2
section
variable{X:Cx}{e:QX}{st:ZM}{rest:List ZM}{pos:Pos}{te:TX}{t u:TSX}
theorem Qb1(he:PEX X e te):PSX X (.Return (some e) pos) (λD σ H Ex=>te σ H D.rt Ex):=by
 intro pins s σ H D Ex I h;exact Qge (thn (he pins s σ H _ _ I h) λv s1 ⟨x,H1,I1,r1,q1⟩=>⟨x,σ,H1,I1,r1,q1⟩)
theorem QbD:Quh X [] (λD σ H _=>D.nx σ H):=λpins s σ H D Ex I h=>Qaa ⟨σ,H,I,h⟩
theorem QaO(h1:PSX X st t)(h2:Quh X rest u):Quh X (st::rest) (λD σ H Ex=>t { D with nx:=λσ' H'=>σ'=σ/\u D σ H' Ex } σ H Ex):=by
 intro pins s σ H D Ex I h;refine QaI (thn (h1 pins s σ H _ Ex I h) λf s1 q=>?_);cases f with
 |next=>
  obtain⟨σ1,H1,I1,rfl,q1⟩:=q;exact h2 pins s1 σ1 H1 D Ex I1 q1
 |ret v=>exact q
 |brk=>exact q
 |cont=>exact q
end
end Rx
namespace L2
open Dl
end L2
namespace Dl
open L2 _root_.Rd Rk
section
variable{X:Cx}
variable{k:Nat}{f:Addr}{fd:Qq}{ps:List Str}{x:Str}{p pos:Pos}{e:QX}{es:List QX}{fD:DF}{wa:DSl}
end
end Dl
namespace Rx
open PySem.Calls L2
def QpS(C:Addr)(m:Str)(sp:Sp)(ta:TE)(t:TA):TX:=λσ H Q Ex=>ta σ H λx H1=>∃a dx fs,x=.ref a/\H1 a=some (.ins C dx fs)/\fs.lookup m=none /\
 t σ H1 λvs H2=>sp (x::vs) H2 Q λcv _ H3=>∃D,cv=.ref D/\Ex D H3
section
variable{X:Cx}{k:Nat}{f C:Addr}{fd:Qq}{ps:List Str}{sp:Sp}{m:Str}{apos pos:Pos}{o e:QX}{es:List QX}{ta:TE}{t:TA}
theorem QuX{pins:List (Addr×Obj)}{σ:L2.St}{H1:Hp}{s1:Shared}{Q:VK}{Ex:Addr->Hp->Prop}{us:List Value}{vs:List V}(F:FnOk X.prog X.w X.K X.mg X.base (CXE X.prog X.w) k f fd ps sp)(hr:Room k X.A)(hb:Binds X.K fd ps [])(hex:X.ex=[])
  (I1:Inv X pins σ H1 s1)(r:Vals vs us)(q:sp vs H1 Q λcv _ H2=>∃C,cv=.ref C/\Ex C H2) :
  wpAny (model X.prog X.w) X.A (call (.ref f) us) (EP X pins σ Q) (XP X pins λσ1 C H1=>σ1=σ/\Ex C H1) s1:=by
 have hl:us.length=ps.length:=by rw[<- r.length];exact F.len _ _ _ _ q
 have hbb:Qeu s1 fd ⟨us,[]⟩ (ps.zip us):=by
  have z:=hb s1 us I1.kIn (by rw[ZV];exact hl);rw[ZV] at z;exact z
 refine Qdv (QaB (F.run X.A X.stack s1 H1 ⟨us,[]⟩ us vs Q _ hr I1.env0 hbb r q) λr s2 hq=>?_);cases r with
 |error e=>
  obtain⟨C0,H2,⟨a,t',B,rfl,os,bare,fl,fa,fH,land⟩,C,eC,ex⟩:=hq;cases eC;refine⟨σ,C0,H2,a,t',B,rfl,fl,fH,?_,λp hp z=>?_,λh2 tk st up=>?_,rfl,ex⟩
  ·cases z:X.s₀.heap.get? a with
   |none=>rfl
   |some o=>
    obtain⟨o',e'⟩:=I1.base.there a o z (by rw[hex];simp);rw[fa] at e';cases e'
  ·have e':=(I1.pin p hp).1;rw[z,fa] at e';cases e'
  ·obtain⟨un,hok⟩:=land h2 st up;exact I1.call' (s':={ s2 with heap:=h2,toks:=tk }) (ch:=[]) os un hok bare (λb z=>absurd z (by simp))
 |ok fl=>
  cases fl with
  |ret u=>exact I1.after hq
  |next=>exact Jj hq
  |brk=>exact Jj hq
  |cont=>exact Jj hq
theorem Qin{pl:Sem Bool}(he:PE X.nox o ta)(c:Cls X.K C)(hm:Meth X.K C m f)(F:FnOk X.prog X.w X.K X.mg X.base (CXE X.prog X.w) k f fd ps sp)(hr:Room k X.A)(hb:Binds X.K fd ps [])(hex:X.ex=[])(ha:PA X.nox (e::es) t)
  (hst:starEach (e::es) X.env=(false,eval e X.env)::starEach es X.env:=by rfl)(hpl:(backTo pos (starEach es X.env)).any (·.1)=false:=by rfl)
  (ht:eval (.Call (.Attribute o m apos) (e::es) [] pos) X.env=(do
   let ov <- eval o X.env
   standAt apos.atName
   let (f,first) <- holding [ov] (getMethod ov m pl)
   callWith pos f first (backTo pos (starEach (e::es) X.env)) (backToKw pos (keywordEach [] X.env))):=by rfl) :
  PEX X (.Call (.Attribute o m apos) (e::es) [] pos) (QpS C m sp ta t):=by
 intro pins s σ H Q Ex I h;refine PySem.W.methodCall_KW (pl:=pl) (wpAny_mono (he pins s σ H _ (I.wish _) h) (λu s1 ⟨x,H1,J1,rx,a,dx,fs,ex,ea,l,q⟩=>?_) λ_ _ z=>Jj z) ht;subst ex;obtain rfl:u=QQ a:=rx;have I1:Inv X pins σ H1 s1:=J1.unwish;refine QbG I1 ea c hm l ?_
 refine PySem.W.callWith_K (first:=[.ref a]) (h₀:=X.base) I.ok.mod.kin hm.kp (wpAny_mono (ha pos pins s1 σ H1 _ (I1.wish _) q) (λus s2 ⟨vs,H2,J2,r,q2⟩=>?_) λ_ _ z=>Jj z) hst hpl;have I2:Inv X pins σ H2 s2:=J2.unwish;exact⟨I2.kIn,QuX (us:=.ref a::us) (vs:=.ref a::vs) F hr hb hex I2 (.cons rfl r) q2⟩
theorem Qbq{pl:Sem Bool}(he:PE X.nox o ta)(c:Cls X.K C)(hm:Meth X.K C m f)(F:FnOk X.prog X.w X.K X.mg X.base (CXE X.prog X.w) k f fd ps sp)(hr:Room k X.A)(hb:Binds X.K fd ps [])(hex:X.ex=[])
  (ht:eval (.Call (.Attribute o m apos) [] [] pos) X.env=(do
   let ov <- eval o X.env
   standAt apos.atName
   let (f,first) <- holding [ov] (getMethod ov m pl)
   callWith pos f first (backTo pos (starEach [] X.env)) (backToKw pos (keywordEach [] X.env))):=by rfl) :
  PEX X (.Call (.Attribute o m apos) [] [] pos) (QpS C m sp ta QbO):=by
 intro pins s σ H Q Ex I h;refine PySem.W.methodCall_KW (pl:=pl) (wpAny_mono (he pins s σ H _ (I.wish _) h) (λu s1 ⟨x,H1,J1,rx,a,dx,fs,ex,ea,l,q⟩=>?_) λ_ _ z=>Jj z) ht;subst ex;obtain rfl:u=QQ a:=rx;have I1:Inv X pins σ H1 s1:=J1.unwish;refine QbG I1 ea c hm l ?_
 exact PySem.W.callWith_K0 (first:=[.ref a]) I1.kIn hm.kp (QuX (us:=[.ref a]) (vs:=[.ref a]) F hr hb hex I1 (.cons rfl .nil) q)
end
end Rx
namespace L2
section
variable{κ:Type}[DecidableEq κ]
def Qh1(kvs:List (κ×V))(k:κ):Option V:=(kvs.find? λkv=>decide (kv.1=k)).map (·.2)
def QfG(kvs:List (κ×V))(k:κ)(v:V):List (κ×V):=
 if(kvs.any λkv=>decide (kv.1=k))=true then kvs.map (λkv=>if kv.1=k then(kv.1,v) else kv) else kvs++[(k,v)]
theorem QbA{p:κ×V}{r:List (κ×V)}{k:κ}(e:p.1=k):Qh1 (p::r) k=some p.2:=by simp[Qh1,YX,e]
theorem Qcl{p:κ×V}{r:List (κ×V)}{k:κ}(e:¬p.1=k):Qh1 (p::r) k=Qh1 r k:=by simp[Qh1,YX,e]
theorem Qh0(k:κ):∀kvs:List (κ×V),(kvs.any λkv=>decide (kv.1=k))=(Qh1 kvs k).isSome
 |[]=>rfl
 |p::r=>by
  rw[Yq];by_cases e:p.1=k
  ·simp only[QbA e,decide_eq_true e,Bool.true_or,Option.isSome_some]
  ·rw[Qcl e,decide_eq_false e,QwR];exact Qh0 k r
theorem Qb4(kvs:List (κ×V))(k:κ)(v:V):(QfG kvs k v).length<=kvs.length+1:=by
 unfold QfG;split
 ·rw[Qg];omega
 ·rw[Qv,QV,Quq];omega
theorem RelO.isSome_eq{o:Option V}{u:Option Value}(r:RelO o u):o.isSome=u.isSome:=by
 cases o with
 |none=>cases u with
  |none=>rfl
  |some _=>exact(show False from r).elim
 |some _=>cases u with
  |none=>exact(show False from r).elim
  |some _=>rfl
theorem RelO.getD{o:Option V}{u:Option Value}{d:V}{d':Value}(r:RelO o u)(rd:RelV d d'):RelV (o.getD d) (u.getD d'):=by
 cases o with
 |none=>cases u with
  |none=>exact rd
  |some _=>exact(show False from r).elim
 |some _=>cases u with
  |none=>exact(show False from r).elim
  |some _=>exact r
theorem KV.val{kvs:List (κ×V)}{vs:List (κ×Value)}(r:KV kvs vs)(k:κ):RelO (Qh1 kvs k) (valueAt vs k):=by
 unfold KV at r;induction r with
 |nil=>exact Ju
 |@cons p q ps qs h t ih=>
  obtain⟨h1,h2⟩:=h;by_cases e:p.1=k
  ·have e':q.1=k:=h1.symm.trans e;have b:valueAt (q::qs) k=some q.2:=by simp[valueAt,YX,e']
   rw[QbA e,b];exact h2
  ·have e':¬q.1=k:=λz=>e (h1.trans z)
   have b:valueAt (q::qs) k=valueAt qs k:=by simp[valueAt,YX,e']
   rw[Qcl e,b];exact ih
theorem KV.any{kvs:List (κ×V)}{vs:List (κ×Value)}(r:KV kvs vs)(k:κ):(kvs.any λkv=>decide (kv.1=k))=vs.any λkv=>decide (kv.1=k):=by
 unfold KV at r;induction r with
 |nil=>rfl
 |cons h t ih=>rw[Yq,Yq,ih,h.1]
theorem KV.repl{kvs:List (κ×V)}{vs:List (κ×Value)}(r:KV kvs vs)(k:κ){y:V}{u:Value}(ry:RelV y u) :
  KV (kvs.map λkv=>if kv.1=k then(kv.1,y) else kv) (vs.map λkv=>if kv.1=k then(kv.1,u) else kv):=by
 unfold KV at r ⊢;induction r with
 |nil=>exact .nil
 |@cons p q ps qs h t ih=>
  rw[JQ,JQ];refine .cons ?_ ih
  obtain⟨h1,h2⟩:=h;by_cases e:p.1=k
  ·rw[if_pos e,if_pos (h1.symm.trans e)];exact⟨h1,ry⟩
  ·rw[if_neg e,if_neg (λz=>e (h1.trans z))];exact⟨h1,h2⟩
theorem KV.put{kvs:List (κ×V)}{vs:List (κ×Value)}(r:KV kvs vs)(k:κ){y:V}{u:Value}(ry:RelV y u):KV (QfG kvs k y) (stored vs k u):=by
 unfold QfG stored;rw[r.any k];by_cases e:(vs.any λkv=>decide (kv.1=k))=true
 ·rw[if_pos e,if_pos e];exact r.repl k ry
 ·rw[if_neg e,if_neg e];exact QwJ r ⟨rfl,ry⟩
theorem KV.length{kvs:List (κ×V)}{vs:List (κ×Value)}(r:KV kvs vs):kvs.length=vs.length:=Qc7 r
end
theorem Qmp{P:Qw}{w:Ja}{k:Key}{u:Value}(r:RelV (kV k) u):(mixKind P w).is k u=true:=by
 cases k with
 |inl i=>obtain⟨t,e⟩:=(show ∃t,u=QbT i t from r);subst e;exact QhC P w i t
 |inr x=>obtain⟨t,e⟩:=(show ∃t,u=Qdq x t from r);subst e;exact QhB P w x t
theorem QgG{P:Qw}{w:Ja}:∀{ks:List Key}{us:List Value},Vals (ks.map kV) us->ItemsAre (mixKind P w) ks us
 |[],_,r=>by rw[Qep] at r;cases r;exact .nil
 |k::ks,_,r=>by
  rw[JQ] at r;cases r with
  |cons h t=>exact .cons (Qmp h) (QgG t)
abbrev KT (H:Hp):List (List Key×V)->List (List Key×Addr×Value)->Prop:=Zf λp q=>p.1=q.1/\H q.2.1=some (.tup (p.1.map kV))/\RelV p.2 q.2.2
theorem KT.val{H:Hp}{kvs:List (List Key×V)}{xs:List (List Key×Addr×Value)}(r:KT H kvs xs)(k:List Key):RelO (Qh1 kvs k) ((atKey xs k).map (·.2)):=by
 induction r with
 |nil=>exact Ju
 |@cons p q ps qs h t ih=>
  obtain⟨h1,_,h2⟩:=h;by_cases e:p.1=k
  ·have e':q.1=k:=h1.symm.trans e;have b:atKey (q::qs) k=some q.2:=by simp[atKey,YX,e']
   rw[QbA e,b];exact h2
  ·have e':¬q.1=k:=λz=>e (h1.trans z)
   have b:atKey (q::qs) k=atKey qs k:=by simp[atKey,YX,e']
   rw[Qcl e,b];exact ih
theorem KT.repl{H:Hp}{kvs:List (List Key×V)}{xs:List (List Key×Addr×Value)}(r:KT H kvs xs)(k:List Key){y:V}{u:Value}(ry:RelV y u) :
  KT H (kvs.map λkv=>if kv.1=k then(kv.1,y) else kv) (xs.map (putAt k u)):=by
 induction r with
 |nil=>exact .nil
 |@cons p q ps qs h t ih=>
  rw[JQ,JQ];refine .cons ?_ ih
  obtain⟨h1,h2,h3⟩:=h;unfold putAt;by_cases e:p.1=k
  ·rw[if_pos e,if_pos (h1.symm.trans e)];exact⟨h1,h2,ry⟩
  ·rw[if_neg e,if_neg (λz=>e (h1.trans z))];exact⟨h1,h2,h3⟩
theorem KT.put{H:Hp}{kvs:List (List Key×V)}{xs:List (List Key×Addr×Value)}(r:KT H kvs xs)(k:List Key){b:Addr}{y:V}{u:Value}(hb:H b=some (.tup (k.map kV)))(ry:RelV y u) :
  KT H (QfG kvs k y) (storedH xs k b u):=by
 have e:(kvs.any λkv=>decide (kv.1=k))=(atKey xs k).isSome:=by
  rw[Qh0,(r.val k).isSome_eq,Option.isSome_map]
 unfold QfG storedH;rw[e];by_cases q:(atKey xs k).isSome=true
 ·rw[if_pos q,if_pos q];exact r.repl k ry
 ·rw[if_neg q,if_neg q];exact QwJ r ⟨rfl,hb,ry⟩
theorem KT.keeps{H H':Hp}{kvs:List (List Key×V)}{xs:List (List Key×Addr×Value)}(r:KT H kvs xs)(ht:∀b ys,H b=some (.tup ys)->H' b=some (.tup ys)):KT H' kvs xs:=
 Zf.mapP r λ_ _ z=>⟨z.1,ht _ _ z.2.1,z.2.2⟩
section
variable{P:Qw}{w:Ja}{H:Hp}{h:JR}{a:Addr}
theorem QuY{u:HO}(ok:HOk P w H h)(e:Rd H a u):ObjOk P w H h a u:=e.ok ok
theorem QmI{kvs:List (Key×V)}(ok:HOk P w H h)(e:Rd H a (.dK kvs)):kvs.length<=sizeLine/\(a == sysModules)=false/\∃vs,KV kvs vs/\h.DictOf (mixKind P w) a vs:=
 show ObjOk P w H h a (.dK kvs) from QuY ok e
theorem Qv8{kvs:List (Key×V)}(ok:HOk P w H h)(e:H a=some (.dK kvs)):kvs.length<=sizeLine/\(a == sysModules)=false/\∃vs,KV kvs vs/\h.DictOf (mixKind P w) a vs:=QmI ok (.inl e)
theorem Qd8{ks:List Key}(ok:HOk P w H h)(e:H a=some (.tup (ks.map kV))):(tupleKind (mixKind P w)).is h ks a:=by
 obtain⟨_,its,r,o,h1,h2,_,n,h3⟩:=(show ObjOk P w H h a (.tup (ks.map kV)) from ok a _ e);exact⟨o,its.toArray,n,h1,h2,h3,by simpa using QgG r⟩
theorem QmH{kvs:List (List Key×V)}(ok:HOk P w H h)(e:Rd H a (.dT kvs)):kvs.length<=sizeLine/\(a == sysModules)=false /\
  ∃xs,KT H kvs xs/\h.DictOfH (tupleKind (mixKind P w)) a xs:=by
 obtain⟨z,y,xs,r,o,es,ep,h1,h2,h3,h4,h5⟩:=(show ObjOk P w H h a (.dT kvs) from QuY ok e);refine⟨z,y,xs,r,o,es,ep,h1,h2,h3,h4,λx hx=>?_,h5⟩;have all:∀{l:List (List Key×V)}{m:List (List Key×Addr×Value)},KT H l m->∀x∈m,(tupleKind (mixKind P w)).is h x.1 x.2.1:=by
  intro l m q;induction q with
  |nil=>intro x hx;exact nomatch hx
  |@cons p q ps qs hq t ih=>
   intro x hx;rcases Qz.mp hx with e | hx
   ·subst e;exact Qd8 ok (by rw[<- hq.1];exact hq.2.1)
   ·exact ih x hx
 exact all r x hx
theorem Qv7{kvs:List (List Key×V)}(ok:HOk P w H h)(e:H a=some (.dT kvs)):kvs.length<=sizeLine/\(a == sysModules)=false /\
  ∃xs,KT H kvs xs/\h.DictOfH (tupleKind (mixKind P w)) a xs:=QmH ok (.inl e)
end
def DGet(H:Hp)(a:Addr)(y:V)(r:Option V):Prop:=
 (∃kvs k,Rd H a (.dK kvs)/\y=kV k/\r=Qh1 kvs k)∨∃kvs k b,Rd H a (.dT kvs)/\y=.ref b/\H b=some (.tup (k.map kV))/\r=Qh1 kvs k
def DPut(H:Hp)(a:Addr)(y v:V)(H':Hp):Prop:=
 (∃kvs k,H a=some (.dK kvs)/\y=kV k/\kvs.length<sizeLine/\H'=upd H a (.dK (QfG kvs k v))) ∨
 ∃kvs k b,H a=some (.dT kvs)/\y=.ref b/\H b=some (.tup (k.map kV))/\kvs.length<sizeLine/\H'=upd H a (.dT (QfG kvs k v))
theorem DGet.k{H:Hp}{a:Addr}{kvs:List (Key×V)}{k:Key}(e:H a=some (.dK kvs)):DGet H a (kV k) (Qh1 kvs k):=.inl ⟨kvs,k,.inl e,rfl,rfl⟩
theorem DGet.t{H:Hp}{a b:Addr}{kvs:List (List Key×V)}{k:List Key}(e:H a=some (.dT kvs))(eb:H b=some (.tup (k.map kV))):DGet H a (.ref b) (Qh1 kvs k):=.inr ⟨kvs,k,b,.inl e,rfl,eb,rfl⟩
theorem DPut.t{H:Hp}{a b:Addr}{kvs:List (List Key×V)}{k:List Key}{v:V}(e:H a=some (.dT kvs))(eb:H b=some (.tup (k.map kV)))(hl:kvs.length<sizeLine) :
  DPut H a (.ref b) v (upd H a (.dT (QfG kvs k v))):=.inr ⟨kvs,k,b,e,rfl,eb,hl,rfl⟩
section
variable{X:Cx}{pins:List (Addr×Obj)}{σ:St}{H:Hp}{s:Shared}{a:Addr}{y v:V}{u r:Value}{o:Option V}{A:Q9}{E:Value->Shared->Prop}
theorem Inv.big(I:Inv X pins σ H s):sysModules<s.heap.objs.size:=by
 have h:mainGlobals<s.heap.objs.size:=(I.mod.glob.keeps I.bk).lt;exact Nat.lt_trans (by decide) h
theorem QmR{Q:Value->Shared->Prop}(hu:A.units+1<cLine)(I:Inv X pins σ H s)(g:DGet H a y (some v))(ry:RelV y u)(h:∀w' s',Inv X pins σ H s'->RelV v w'->Q w' s') :
  wpAny (model X.prog X.w) A (getItem (.ref a) u) Q E s:=by
 rcases g with⟨kvs,k,e,ey,l⟩ | ⟨kvs,k,b,e,ey,eb,l⟩
 ·subst ey;obtain⟨z,hd,vs,rel,dd⟩:=QmI I.hok e;obtain⟨w',hw,rw'⟩:=RelO.some_of (v:=v) (o:=valueAt vs k) (by rw[l];exact rel.val k);exact wpAny_getItem_of (Qmp ry) dd.mapOf hw (h w' _ (I.tok _) rw')
 ·subst ey;cases(show u=QQ b from ry);obtain⟨z,hd,xs,rel,dd⟩:=QmH I.hok e;obtain⟨w',hw,rw'⟩:=RelO.some_of (v:=v) (o:=(atKey xs k).map (·.2)) (by rw[l];exact rel.val k);obtain⟨p,hp,hp2⟩:=JH.mp hw;refine wpAny_getItem_heap (Qfc hu) (Qd8 I.hok eb) dd hp ?_
  rw[hp2];exact h w' _ (I.tok _) rw'
theorem Qf1{h':JR}{t':Nat}{ob:HO}(I:Inv X pins σ H s)(mu:Mut (H a))(hs:ZH a s.heap h')(he:∃q,h'.get? a=some q)(new:ObjOk X.prog X.w (upd H a ob) h' a ob) :
  Inv X pins σ (upd H a ob) { s with heap:=h',toks:=t' }:=
 I.write (x:=a) (e:=a) mu (.inl rfl) (λb q hb z=>(hs.2 b hb).trans z) he new
theorem Qrq{P:Qw}{w:Ja}{H':Hp}{h':JR}{kvs:List (Key×V)}{vs:List (Key×Value)}(z:kvs.length<=sizeLine)(hd:(a == sysModules)=false)(rel:KV kvs vs)(dd:h'.DictOf (mixKind P w) a vs) :
  ObjOk P w H' h' a (.dK kvs):=⟨z,hd,vs,rel,dd⟩
theorem QmQ{H':Hp}{Q:Unit->Shared->Prop}(hu:A.units+1<cLine)(I:Inv X pins σ H s)(g:DPut H a y v H')(ry:RelV y u)(rv:RelV v r)(h:∀s',Inv X pins σ H' s'->Q () s') :
  wpAny (model X.prog X.w) A (setItem (.ref a) u r) Q E s:=by
 rcases g with⟨kvs,k,e,ey,l,eH⟩ | ⟨kvs,k,b,e,ey,eb,l,eH⟩
 ·subst ey eH;obtain⟨z,hd,vs,rel,dd⟩:=Qv8 I.hok e;have hz:vs.length<=sizeLine:=by rw[<- rel.length];exact z
  have hl:(QfG kvs k v).length<=sizeLine:=by have:=Qb4 kvs k v;omega
  refine wpAny_setItem_pairs (hsz:=hz) (Qmp ry) dd λh' dd' hs=>h _ ?_
  have he:∃q,h'.get? a=some q:=let ⟨q,_,_,hq,_⟩:=dd';⟨q,hq⟩
  exact Qf1 I (by rw[e];exact Ju) hs he (Qrq hl hd (rel.put k rv) dd')
 ·subst ey eH;cases(show u=QQ b from ry);obtain⟨z,hd,xs,rel,dd⟩:=Qv7 I.hok e;have hz:xs.length<=sizeLine:=by rw[<- Qc7 rel];exact z
  have hl:(QfG kvs k v).length<=sizeLine:=by have:=Qb4 kvs k v;omega
  refine wpAny_setItem_heap (hsz:=hz) (Qfc hu) (Qd8 I.hok eb) dd λh' dd' hs=>h _ ?_
  obtain⟨q,es,ep,hq,h2,h3,h4,_,h5⟩:=dd';refine Qf1 I (by rw[e];exact Ju) hs ⟨q,hq⟩ ⟨hl,hd,_,(rel.put k eb rv).keeps λc ys ec=>?_,q,es,ep,hq,h2,h3,h4,h5⟩;rw[QU (YB ec e (λz=>nomatch z))];exact ec
end
section
variable{X:Cx}{pins:List (Addr×Obj)}{σ:St}{H:Hp}{s:Shared}{a:Addr}{kvs:List (Key×V)}{k:Key}{u:Value}{A:Q9}{E:Value->Shared->Prop}
end
def Qzh(i:QX):Prop:=∀ov iv,subscripted i false ov iv=operate [ov,iv] (getItem ov iv)
theorem QrY{prog:Qw}{w:Ja}{A:Q9}{E:Value->Shared->Prop}{s:Shared}{env:Env}{value slice:QX}{pos:Pos}{T id:String}{Q:Value->Shared->Prop}
  (hl:typeLookup (.type T) "__getitem__" = pure (some (.builtin id)))(hs:Qzh slice)
  (h:wpAny (model prog w) A (eval value env) (λo s₁=>wpAny (model prog w) A (eval slice env) (λi s₂=>s₂.TypeIs o T/\wpAny (model prog w) A (getItem o i) Q E s₂) E s₁) E s) :
  wpAny (model prog w) A (eval (.Subscript value slice pos) env) Q E s:=by
 refine Qxj (wpAny_mono h (λo s₁ h₁=>wpAny_mono h₁ (λi s₂ h₂=>?_) λ_ _ x=>x) λ_ _ x=>x);obtain⟨hT,h₂⟩:=h₂;unfold subscriptTail;refine wpAny_bind ?_
 rw[getitemInPython_of_ne hT.not_modules];refine wpAny_bind (Qdo hT hl ?_);have fin:wpAny (model prog w) A (subscripted slice false o i) (λr s₃=>wpAny (model prog w) A (letTemporaryGo value o r >>= λ_=>pure r) Q E s₃) E s₂:=by
  rw[hs o i];exact wpAny_operating (wpAny_mono h₂ (λr s₃ h₃=>wpAny_bind (wpAny_letTemporaryGo (Qf h₃))) λ_ _ x=>x)
 first
  |exact Qf (wpAny_bind fin)
  |exact wpAny_bind (Qf (wpAny_bind fin))
  |exact wpAny_bind fin
theorem QhK{X:Cx}{pins:List (Addr×Obj)}{σ:St}{H:Hp}{s:Shared}{a:Addr}{y:V}{o:Option V}(I:Inv X pins σ H s)(g:DGet H a y o):s.TypeIs (.ref a) "dict" := by
 rcases g with⟨kvs,k,e,_,_⟩ | ⟨kvs,k,b,e,_,_,_⟩
 ·obtain⟨_,_,vs,_,dd⟩:=QmI I.hok e;exact dd.typeIs
 ·obtain⟨_,_,xs,_,dd⟩:=QmH I.hok e;exact dd.typeIs
def Qja(td ty:TE):TE:=λσ H Q=>td σ H λx H1=>ty σ H1 λy H2=>∃a v,x=.ref a/\DGet H2 a y (some v)/\Q v H2
def Qsb(td ty tv:TE):TS:=λD σ H=>tv σ H λv H1=>td σ H1 λx H2=>ty σ H2 λy H3=>∃a H4,x=.ref a/\DPut H3 a y v H4/\D.nx σ H4
section
variable{X:Cx}{o i e value:QX}{pos pos' tpos:Pos}{td ty tv:TE}
theorem Qhx(hu:X.A.units+1<cLine)(ho:PE X o td)(hi:PE X i ty)(hs:Qzh i):PE X (.Subscript o i pos) (Qja td ty):=by
 intro pins s σ H Q I h;refine QrY PySem.F.slot_dict_getitem.lookup hs (thn (ho pins s σ H _ I h) λu s1 ⟨x,H1,I1,rx,q1⟩=>thn (hi pins s1 σ H1 _ I1 q1) λiv s2 ⟨y,H2,I2,ry,a,v,ex,g,q2⟩=>?_);subst ex;obtain rfl:u=QQ a:=rx;exact⟨QhK I2 g,QmR hu I2 g ry λw' s3 I3 rw'=>⟨v,H2,I3,rw',q2⟩⟩
theorem Qsw(hu:X.A.units+1<cLine)(ho:PE X o td)(hi:PE X i ty)(hv:PE X value tv)(hs:swapsWith value (some (.Subscript o i pos')) pos.line X.env=pure false) :
  PS X (.Assign [.Subscript o i pos'] value pos) (Qsb td ty tv):=by
 intro pins s σ H D I h;refine wpAny_Assign_Subscript (thn (hv pins s σ H _ I h) λr s1 ⟨v,H1,I1,rv,q1⟩=>thn (ho pins s1 σ H1 _ I1 q1) λu s2 ⟨x,H2,I2,rx,q2⟩=>thn (hi pins s2 σ H2 _ I2 q2) λiv s3 ⟨y,H3,I3,ry,a,H4,ex,g,q3⟩=>?_) hs;subst ex;obtain rfl:u=QQ a:=rx;exact QmQ hu I3 g ry rv λs4 I4=>⟨σ,H4,I4,q3⟩
end
theorem Qph{P:Qw}{w:Ja}{H:Hp}(h:JR)(hb:sysModules<h.objs.size):ObjOk P w H (h.push { cls:=.type "dict",data:=.dict #[] }) h.objs.size (.dK []):=
 ⟨Je _,beq_eq_false_iff_ne.mpr (Y2 (Qx hb)),[],.nil,Qi2 h⟩
theorem Qpg{P:Qw}{w:Ja}{H:Hp}(h:JR)(hb:sysModules<h.objs.size):ObjOk P w H (h.push { cls:=.type "dict",data:=.dict #[] }) h.objs.size (.dT []):=
 ⟨Je _,beq_eq_false_iff_ne.mpr (Y2 (Qx hb)),[],.nil,_,#[],0,Qs _ rfl,⟨rfl,rfl,rfl⟩,rfl,rfl,Qa7⟩
section
variable{X:Cx}{pos:Pos}
end
def Qh4:List (TE×TE)->St->Hp->(List (V×V)->Hp->Prop)->Prop
 |[],_,H,Q=>Q [] H
 |(tk,tv)::r,σ,H,Q=>tk σ H λx H1=>tv σ H1 λy H2=>Qh4 r σ H2 λps H3=>Q ((x,y)::ps) H3
abbrev VV:List (V×V)->List (Value×Value)->Prop:=Zf λp q=>RelV p.1 q.1/\RelV p.2 q.2
def PPs(X:Cx)(pos:Pos)(keys:List (Option QX))(values:List QX)(trs:List (TE×TE)):Prop:=
 ∀(pins:List (Addr×Obj))(s:Shared)(σ:St)(H:Hp)(Q:List (V×V)->Hp->Prop),Inv X pins σ H s->Qh4 trs σ H Q ->
  wpAny (model X.prog X.w) X.A (evalPairs (pairTrees keys values X.env pos)) (λvs s'=>∃ps H',Inv X pins σ H' s'/\VV ps vs/\Q ps H') X.xe s
theorem QlA{X:Cx}{pos:Pos}:PPs X pos [] [] []:=λpins s σ H Q I h=>pairTrees_nil_walk ⟨[],H,I,.nil,h⟩
theorem QfJ{X:Cx}{pos:Pos}{k v:QX}{ks:List (Option QX)}{vs:List QX}{tk tv:TE}{trs:List (TE×TE)}(hk:PE X k tk)(hv:PE X v tv)(hr:PPs X pos ks vs trs) :
  PPs X pos (some k::ks) (v::vs) ((tk,tv)::trs):=λpins s σ H Q I h=>
 pairTrees_cons_walk (thn (hk pins s σ H _ I h) λu s1 ⟨x,H1,I1,rx,q1⟩=>thn (hv pins s1 σ H1 _ I1 q1) λw2 s2 ⟨y,H2,I2,ry,q2⟩=>
  thn (hr pins s2 σ H2 _ I2 q2) λws s3 ⟨ps,H3,I3,rel,q3⟩=>⟨(x,y)::ps,H3,I3,.cons ⟨rx,ry⟩ rel,q3⟩)
def QeX(kvs more:List (Key×V)):List (Key×V):=more.foldl (λacc kv=>QfG acc kv.1 kv.2) kvs
theorem KV.merge:∀{more:List (Key×V)}{rs:List (Key×Value)}{kvs:List (Key×V)}{vs:List (Key×Value)},KV more rs->KV kvs vs->KV (QeX kvs more) (merged vs rs):=by
 intro more rs kvs vs r;unfold KV at r;induction r generalizing kvs vs with
 |nil=>intro q;exact q
 |@cons p q ps qs h t ih=>
  intro r0;have e:KV (QfG kvs p.1 p.2) (stored vs q.1 q.2):=by
   have:=r0.put p.1 h.2;rw[<- h.1];exact this
  exact ih e
theorem Qct:∀(more kvs:List (Key×V)),(QeX kvs more).length<=kvs.length+more.length
 |[],kvs=>by show kvs.length<=kvs.length+0;omega
 |p::r,kvs=>by
  have h1:=Qct r (QfG kvs p.1 p.2);have h2:=Qb4 kvs p.1 p.2;show(QeX (QfG kvs p.1 p.2) r).length<=_;rw[QV];omega
theorem Qe7{P:Qw}{w:Ja}:∀{kvs:List (Key×V)}{ws:List (Value×Value)},VV (kvs.map λkv=>(kV kv.1,kv.2)) ws->∃rs,Carries (mixKind P w) ws rs/\KV kvs rs
 |[],_,r=>by rw[Qep] at r;cases r;exact⟨[],Ju,.nil⟩
 |p::kvs,_,r=>by
  rw[JQ] at r;cases r with
  |@cons a b as bs h t=>
   obtain⟨rs,c,q⟩:=Qe7 (P:=P) (w:=w) t;obtain⟨b1,b2⟩:=b;exact⟨(p.1,b2)::rs,⟨Qmp h.1,rfl,c⟩,.cons ⟨rfl,h.2⟩ q⟩
def QuM(trs:List (TE×TE)):TE:=λσ H Q=>∀p,H p=none->Qh4 trs σ (upd H p (.dK [])) λps H2=>H2 p=some (.dK [])/\∃kvs:List (Key×V),ps=kvs.map (λkv=>(kV kv.1,kv.2))/\kvs.length<=15/\Q (.ref p) (upd H2 p (.dK (QeX [] kvs)))
theorem QsF{X:Cx}{pos:Pos}{keys:List (Option QX)}{values:List QX}{trs:List (TE×TE)}(h:PPs X pos keys values trs)(hall:keys.all (·.isSome)=true)(hl:keys.length=values.length)(h0:keys≠[])
  (h15:keys.length<=15):PE X (.Dict keys values pos) (QuM trs):=by
 intro pins s σ H Q I q;have hn:=I.hok.fresh (Qh s.heap.objs.size);have I1:=I.laid (a:=s.heap.objs.size) (o:=.dK []) (h':=s.heap.push { cls:=.type "dict",data:=.dict #[] }) (t':=s.toks) (λ_ _ q=>Qd _ q) (Qh _) (Qph s.heap I.big);refine wpAny_Dict_walk (knd:=mixKind X.prog X.w) hall hl h0 h15 (thn (h pins _ σ _ _ I1 (q _ hn)) λws s2 ⟨ps,H2,I2,rel,e,kvs,ep,lk,q2⟩=>?_);subst ep;obtain⟨rs,c,rk⟩:=Qe7 (P:=X.prog) (w:=X.w) rel;obtain⟨z,hd,vs0,r0,dd⟩:=Qv8 I2.hok e;cases r0;refine⟨rs,c,dd,λh' dd' hs=>⟨.ref s.heap.objs.size,_,?_,rfl,q2⟩⟩;have hz:(QeX [] kvs).length<=sizeLine:=by
  have h1:=Qct kvs [];rw[Quq] at h1;rw[ZW];omega
 have he:∃q,h'.get? s.heap.objs.size=some q:=let ⟨q,_,_,hq,_⟩:=dd';⟨q,hq⟩
 exact Qf1 I2 (by rw[e];exact Ju) hs he (Qrq hz hd (rk.merge .nil) dd')
structure M2 (X:Cx) (o:QX) (m:Str) (apos:Pos) (e f:QX) (cpos:Pos):Prop where
 base:attributeBase o m X.env (eval o X.env)=eval o X.env
 few:((backTo cpos (starEach [e,f] X.env)).all (λx => !x.1)&&(backToKw cpos (keywordEach [] X.env)).all (λx=>x.1.isSome)
  && decide (([e,f]:List QX).length+([]:List Qer).length+(if([]:List Qer).isEmpty then 0 else 1)<30))=true
 line:(apos.endLine == cpos.line)=true
 trees:backTo cpos (starEach [e,f] X.env)=[(false,eval e X.env),(false,eval f X.env)]
def IsD(H:Hp)(a:Addr):Prop:=(∃kvs,Rd H a (.dK kvs))∨∃kvs,Rd H a (.dT kvs)
theorem QvW{X:Cx}{pins:List (Addr×Obj)}{σ:St}{H:Hp}{s:Shared}{a:Addr}(I:Inv X pins σ H s)(d:IsD H a) :
  s.TypeIs (.ref a) "dict" /\ (∀b,QQ a=.ref b->∃ob,s.heap.get? b=some ob/\ob.dict=none)/\(a == sysModules)=false:=by
 rcases d with⟨kvs,e⟩ | ⟨kvs,e⟩
 ·obtain⟨_,hd,vs,_,dd⟩:=QmI I.hok e;refine⟨dd.typeIs,λb q=>?_,hd⟩;cases q;obtain⟨ob,_,_,h1,h2,_⟩:=dd;exact⟨ob,h1,h2.2.1⟩
 ·obtain⟨_,hd,xs,_,dd⟩:=QmH I.hok e;refine⟨dd.typeIs,λb q=>?_,hd⟩;cases q;obtain⟨ob,_,_,h1,h2,_⟩:=dd;exact⟨ob,h1,h2.2.1⟩
section
variable{X:Cx}{pins:List (Addr×Obj)}{σ:St}{H:Hp}{s:Shared}{a:Addr}{y d:V}{u r:Value}{o:Option V}{A:Q9}{E:Value->Shared->Prop}
theorem Qwf{Q:Value->Shared->Prop}(hu:A.units+1<cLine)(I:Inv X pins σ H s)(g:DGet H a y o)(ry:RelV y u)(rd:RelV d r)(h:∀w' s',Inv X pins σ H s'->RelV (o.getD d) w'->Q w' s') :
  wpAny (model X.prog X.w) A (call (.builtin "dict.get") [.ref a,u,r]) Q E s:=by
 rcases g with⟨kvs,k,e,ey,l⟩ | ⟨kvs,k,b,e,ey,eb,l⟩
 ·subst ey;obtain⟨z,hd,vs,rel,dd⟩:=QmI I.hok e;refine call_meetsIn PySem.F.slot_dict_get dd.typeIs PySem.F.entry_dict_get (PySem.F.args_dict_get_3 _ _ _) (meets_dict_get_default (mixKind X.prog X.w) a (Qmp ry) hd r) ⟨_,dd.mapOf,h _ _ (I.tok _) ?_⟩;rw[l];exact(rel.val k).getD rd
 ·subst ey;cases(show u=QQ b from ry);obtain⟨z,hd,xs,rel,dd⟩:=QmH I.hok e;refine call_meetsIn PySem.F.slot_dict_get dd.typeIs PySem.F.entry_dict_get (PySem.F.args_dict_get_3 _ _ _) (meetsH_dict_get_default (tupleKind (mixKind X.prog X.w)) a b hd r) ⟨Qfc hu,k,xs,Qd8 I.hok eb,dd,h _ _ (I.tok _) ?_⟩;rw[l];exact(rel.val k).getD rd
end
def QkQ(td ty tx:TE):TE:=λσ H Q=>td σ H λx H1=>∃a,x=.ref a/\IsD H1 a/\ty σ H1 λy H2=>tx σ H2 λz H3=>∃o,DGet H3 a y o/\Q (o.getD z) H3
section
variable{X:Cx}{o e f:QX}{apos cpos:Pos}{td ty tx:TE}
theorem Qod(hu:X.A.units+1<cLine)(ho:PE X o td)(he:PE X e ty)(hf:PE X f tx)(m:M2 X o "get" apos e f cpos):PE X (.Call (.Attribute o "get" apos) [e,f] [] cpos) (QkQ td ty tx):=by
 intro pins s σ H Q I h;refine wpAny_Call_method m.base m.few m.line PySem.F.plainAttrs_dict PySem.F.slot_dict_get PySem.F.type_dict_get (thn (ho pins s σ H _ I h) λu s1 ⟨x,H1,I1,rx,a,ex,d,q1⟩=>?_);subst ex;obtain rfl:u=QQ a:=rx;obtain⟨t1,t2,_⟩:=QvW I1 d;refine⟨t1,t2,?_⟩;rw[m.trees];refine QbK rfl (Qcj (QaV (thn (he pins s1 σ H1 _ I1 q1) λiv s2 ⟨y,H2,I2,ry,q2⟩=>
  QaV (thn (hf pins s2 σ H2 _ I2 q2) λfv s3 ⟨z,H3,I3,rz,ov,g,q3⟩=>QdI ?_))))
 exact Qwf hu I3 g ry rz λw' s4 I4 rw'=>⟨_,H3,I4,rw',q3⟩
end
section
variable{X:Cx}{pins:List (Addr×Obj)}{σ:St}{H:Hp}{s:Shared}{a:Addr}{kvs:List (Key×V)}{A:Q9}{E:Value->Shared->Prop}
end
section
variable{X:Cx}{pins:List (Addr×Obj)}{σ:St}{H:Hp}{s:Shared}{a:Addr}{y:V}{u:Value}{A:Q9}{E:Value->Shared->Prop}
end
end L2
namespace Dz
section
variable{prog:Qw}{w:Ja}{A:Q9}{E:Value->Shared->Prop}{s:Shared}
structure Raw (h:JR) (d:Addr) (es:Array DictEntry) (ep:Nat):Prop where
 at_:∃o,h.get? d=some o/\o.ExactDict/\o.data=.dict es ep
theorem Raw.ty{d:Addr}{es:Array DictEntry}{ep:Nat}(x:Raw s.heap d es ep):s.TypeIs (.ref d) "dict" := by
 obtain⟨o,e,c,_⟩:=x.at_;exact⟨o,e,c.1⟩
theorem Raw.keep{h h':JR}{d:Addr}{es:Array DictEntry}{ep:Nat}(x:Raw h d es ep)(k:∀o,h.get? d=some o->h'.get? d=some o):Raw h' d es ep:=by
 obtain⟨o,e,r⟩:=x.at_;exact⟨o,k o e,r⟩
theorem QoY{d:Addr}{es:Array DictEntry}{ep:Nat}{Q:Value->Shared->Prop}(hS:(d == sysModules)=false)(x:Raw s.heap d es ep)
  (q:Q (.ref s.heap.objs.size) { s with heap:=s.heap.push { cls:=.type "dict_keyiterator",data:=.fields #[.ref d,.int 0 0,.int es.size 0,.int ep 0] } }) :
  wpAny (model prog w) A (pyIter (.ref d)) Q E s:=by
 have ty:=x.ty;obtain⟨o,e,c,dt⟩:=x.at_;refine wpAny_pyIter_slot ty Qgh (J8 Qgh ty F.entry_dict_iter ?_ (F.args_dict_iter_1 _));have first:∀{Q':Value->Shared->Prop}{A':Q9}{E':Value->Shared->Prop},Q' (.ref d) s->wpAny (model prog w) A' (Qdz "__iter__" ⟨[.ref d],[]⟩) Q' E' s:=λq'=>by
  unfold Qdz;exact wpAny_bind (Qrz ty (Qf q'))
 unfold QbM.«dict.__iter__»;refine wpAny_bind (first ?_);show wpAny _ _ (Qa9 d >>= _) _ _ s;unfold Qa9;rw[if_neg (by rw[hS];exact Qp)];refine wpAny_bind (Qf (wpAny_bind (YE e dt (wpAny_bind (QiR e dt ?_)))));refine wpAny_bind (Jy (Qf ⟨_,rfl, "dict_keyiterator",_,⟨_,Qs _ rfl,rfl⟩,Zz.lookup,?_⟩))
 simpa [rawInt] using q
theorem QoM{it d:Addr}{i ep:Nat}{es:Array DictEntry}{en:DictEntry}{Q:Option Value->Shared->Prop}(hi:s.heap.IsKeyIter it d i es.size ep)(x:Raw s.heap d es ep)(he:es[i]? = some en)
  (q:∀h',h'.IsKeyIter it d (i+1) es.size ep->ZH it s.heap h'->Q (some en.key) { s with heap:=h' }):wpAny (model prog w) A (pyNext (.ref it)) Q E s:=by
 have ty:=hi.typeIs;obtain⟨o,e,c,dt⟩:=id hi;obtain⟨od,eo,co,dd⟩:=x.at_;have own:QbL "dict_keyiterator" = false:=by decide
 have lt:i<es.size:=by
  rcases Nat.lt_or_ge i es.size with z | z
  ·exact z
  ·rw[QbN z] at he;cases he
 have ek:es[i]=en:=by rw[JZ lt] at he;exact QB he
 unfold pyNext;refine wpAny_bind (QaW (JU (name:=YO "__next__") ty Zz (J8 Zz ty Qgi ?_ (Qgc _))));refine wpAny_bind (Qf (wpAny_bind (wpAny_bind ?_)))
 first | refine wpAny_bind (Yg ty (Qf (wpAny_bind (Qeh e dt ?_)))) | refine wpAny_bind (YZ ty (Qf (wpAny_bind (Qeh e dt ?_))))
 simp only[own,Yc,if_false];show wpAny _ _ (if(QQ d == Q6)=true then _ else _) _ _ s;rw[if_neg (λz:(QQ d == Q6)=true=>Qp z)];refine wpAny_bind (Qf (wpAny_bind (YE eo dd ?_)));rw[if_neg (by simp)];refine wpAny_bind (Qf (wpAny_bind (QiR eo dd ?_)));rw[if_neg (by simp)];refine Qf ?_
 simp only[show ¬((i:Int)<0) by omega,if_false,Qy,JZ lt];refine wpAny_bind ?_
 first | refine wpAny_bind (Yg ty (Qf (wpAny_bind (Qdp ty ?_)))) | refine wpAny_bind (YZ ty (Qf (wpAny_bind (Qdp ty ?_))))
 show wpAny _ _ (setField (.ref it) 1 (rawInt ((i:Int)+1)) >>= _) _ _ s;refine wpAny_bind (Qeg e dt (by simp) ?_);have hi':(s.heap.update it (Qxu (·.setIfInBounds 1 (rawInt ((i:Int)+1))))).IsKeyIter it d (i+1) es.size ep:=⟨_,Qag _ e (Qku (Qa6 dt _)),(QrE ..).trans c,by rw[Qa6 dt];simp[rawInt]⟩;refine wpAny_bind (Zk (wpAny_bind (Qdp (s:={ s with heap:=s.heap.update it (Qxu (·.setIfInBounds 1 (rawInt ((i:Int)+1)))) }) hi'.typeIs ?_)));show wpAny _ _ (pure es[i].key) _ _ _;rw[ek];exact Qf (Qf ⟨_,rfl,Qf (q _ hi' (Yk ..))⟩)
theorem QnH{it d:Addr}{i ep:Nat}{es:Array DictEntry}{Q:Option Value->Shared->Prop}(hh:A.handled=none)(hi:s.heap.IsKeyIter it d i es.size ep)(x:Raw s.heap d es ep)(ge:es.size<=i)
  (q:∀h',Heap.ExtBut it s.heap h'->Q none { s with heap:=h' }):wpAny (model prog w) A (pyNext (.ref it)) Q E s:=by
 have ty:=hi.typeIs;obtain⟨o,e,c,dt⟩:=id hi;obtain⟨od,eo,co,dd⟩:=x.at_;have own:QbL "dict_keyiterator" = false:=by decide
 unfold pyNext;refine wpAny_bind (QaW (JU (name:=YO "__next__") ty Zz (J8 Zz ty Qgi ?_ (Qgc _))));refine wpAny_bind (Qf (wpAny_bind (wpAny_bind ?_)))
 first | refine wpAny_bind (Yg ty (Qf (wpAny_bind (Qeh e dt ?_)))) | refine wpAny_bind (YZ ty (Qf (wpAny_bind (Qeh e dt ?_))))
 simp only[own,Yc,if_false];show wpAny _ _ (if(QQ d == Q6)=true then _ else _) _ _ s;rw[if_neg (λz:(QQ d == Q6)=true=>Qp z)];refine wpAny_bind (Qf (wpAny_bind (YE eo dd ?_)));rw[if_neg (by simp)];refine wpAny_bind (Qf (wpAny_bind (QiR eo dd ?_)));rw[if_neg (by simp)];refine Qf ?_
 simp only[show ¬((i:Int)<0) by omega,if_false,Qy,QbN ge];refine wpAny_bind ?_
 first | refine wpAny_bind (Yg ty (Qf ?_)) | refine wpAny_bind (YZ ty (Qf ?_))
 show wpAny _ _ (setField (.ref it) 0 .none >>= _) _ _ s;refine wpAny_bind (Qeg e dt (by simp) ?_);show wpAny _ _ (newExc (.type "StopIteration") [] >>= _) _ _ _;refine wpAny_bind ?_
 simp only[newExc,newTuple];refine wpAny_bind (Jy ?_ (by size_fits));refine wpAny_bind (m:=firstArgMember _ _) (Ya (a:=Q6) (by first | rfl | (simp only[firstArgMember];rfl)) (Jy ?_ (by size_fits)));simp only[raiseNew];refine wpAny_bind (wpAny_handled ?_);rw[show A.in1.handled=none from hh];refine wpAny_bind (Qf (wpAny_throw ?_));refine wpAny_bind (Qhe (b:=true) (T := "StopIteration") ⟨_,Qs _ rfl,rfl⟩ isSubtype_stop ?_);exact Qf (q _ (((Yk ..).extBut.push _).push _))
end
end Dz
namespace L2
open Dz
section
variable{X:Cx}
def Itd(d:Addr)(o:Obj)(kvs:List (List Key×V)):It:=
 ⟨λi H=>H d=some (.frz o (.dT kvs))/\i<kvs.length,λi H x H'=>H'=H/\∃p b,kvs[i]? = some p/\x=.ref b/\H b=some (.tup (p.1.map kV)),λi H=>H d=some (.frz o (.dT kvs))/\kvs.length<=i⟩
theorem paired_get{α β:Type}{F:α->β->Prop}:∀{l:List α}{m:List β},Zf F l m->∀(i:Nat)(b:β),m[i]? = some b->∃a,l[i]? = some a/\F a b
 |_,_,.nil,i,b,h=>by simp at h
 |_,_,.cons (a:=a) r t,0,b,h=>by simp at h;subst h;exact⟨_,rfl,r⟩
 |_,_,.cons r t,i+1,b,h=>by
  simp only[Z4] at h;obtain⟨a,e,q⟩:=paired_get t i b h;exact⟨a,by simpa using e,q⟩
theorem QaQ{α β:Type}{F:α->β->Prop}:∀{l:List α}{m:List β},Zf F l m->l.length=m.length
 |_,_,.nil=>rfl
 |_,_,.cons r t=>by rw[QV,QV,QaQ t]
theorem QkI{P:Qw}{w:Ja}{K:PySem.W.Frag}{tg:QX}{d it:Addr}{o:Obj}{kvs:List (List Key×V)}{es:Array DictEntry}{ep:Nat}(hd:o.ExactDict/\o.data=.dict es ep):Turn P w K tg (Itd d o kvs) [it] it (λi h=>h.IsKeyIter it d i es.size ep) where
 mem:=by simp
 obj:=λi h st b hb=>by
  have e:b=it:=by simpa using hb
  subst e;obtain⟨q,e,c,dt⟩:=st;exact⟨q,e,λv z=>by rw[dt] at z;cases z⟩
 keep:=λi h h' st k=>st.at λq e=>k it (by simp) q e
 item:=by
  intro X hP hw hK hc i pins s σ H E I hf st hg;subst hP hw hK;obtain⟨hg,hlt⟩:=hg;obtain⟨ho,z,y,xs,r,o',es',ep',e1,e2,e3,e4,e5⟩:=I.hok d _ hg;rw[ho] at e1;cases e1;rw[hd.2] at e3;cases e3;have hl:es.size=kvs.length:=by rw[<- Jg,e4,Qg,QaQ r]
  have hlx:i<xs.length:=by rw[<- QaQ r];exact hlt
  obtain⟨p,ep1,h1,h2,h3⟩:=paired_get r i xs[i] (Qi hlx);obtain⟨f0,f1,f2,f3,f4,f5⟩:=hf it (by simp);have hen:es[i]? = some (entryOfKey (tupleKind (mixKind X.prog X.w)) xs[i]):=by
   rw[<- Qi3,e4,QC,Qi hlx];rfl
  refine QoM st ⟨o,ho,e2,hd.2⟩ hen λh' st' sb=>?_
  have I1:Inv X pins σ H { s with heap:=h' }:=I.turned (t':=s.toks) (λb q hb e=>(sb.2 b hb).trans e) f0 f1 f3 f4 f5;obtain⟨q,e,c,dt⟩:=id st';exact⟨_,rfl,QmD (s:={ s with heap:=h' }) e c dt (by decide) ⟨.ref (xs[i]).2.1,H,I1,rfl,⟨rfl,p,_,ep1,rfl,h2⟩,st',λb hb=>(hf b hb).1⟩⟩
 done:=by
  intro X hP hw hK hc i pins s σ H E I hf st hg;subst hP hw hK;obtain⟨hg,hlt⟩:=hg;obtain⟨ho,z,y,xs,r,o',es',ep',e1,e2,e3,e4,e5⟩:=I.hok d _ hg;rw[ho] at e1;cases e1;rw[hd.2] at e3;cases e3;have hl:es.size=kvs.length:=by rw[<- Jg,e4,Qg,QaQ r]
  obtain⟨f0,f1,f2,f3,f4,f5⟩:=hf it (by simp);refine QnH (I.ok.hd hc) st ⟨o,ho,e2,hd.2⟩ (by omega) λh' sb=>⟨rfl,?_⟩
  exact I.turned (t':=s.toks) (λb q hb e=>sb b q hb e) f0 f1 f3 f4 f5
 self:=λA i s Q E st q=>wpAny_pyIter_keyiter st q
def Qmz(td:TE):TI:=λσ H R=>td σ H λv H1=>∃d kvs,v=.ref d/\H1 d=some (.dT kvs)/\∀o,R (Itd d o kvs) (upd H1 d (.frz o (.dT kvs)))
theorem QlD{tg l:QX}{td:TE}(hl:PE X l td):PI X tg l (Qmz td):=by
 intro pins s σ H R I h;refine thn (hl pins s σ H _ I h) λv s1 ⟨x,H1,I1,r1,q1⟩=>?_
 obtain⟨d,kvs,e,hq,q⟩:=q1;subst e;cases r1;obtain⟨z,y,xs,r,o,es,ep,e1,e2,e3,e4,e5⟩:=(show ObjOk X.prog X.w H1 s1.heap d (.dT kvs) from I1.hok d _ hq);refine QoY y ⟨o,e1,e2,e3⟩ ?_
 have I2:Inv X pins σ (upd H1 d (.frz o (.dT kvs))) { s1 with heap:=s1.heap,toks:=s1.toks }:=by
  refine I1.write (x:=d) (e:=d) (by rw[hq];exact Ju) (.inl rfl) (λb q hb z=>z) ⟨o,e1⟩ ⟨e1,z,y,xs,KT.keeps r λc ys ec=>?_,o,es,ep,e1,e2,e3,e4,e5⟩;rw[QU (YB ec hq (λz=>nomatch z))];exact ec
 refine⟨s1.heap.objs.size,[s1.heap.objs.size],_,_,_,rfl,I2.kept (t':=s1.toks) λb q e=>Qd _ e,QkI ⟨e2,e3⟩,⟨_,Qs _ rfl,rfl,rfl⟩,λb hb=>?_,q o⟩;have e:b=s1.heap.objs.size:=by simpa using hb
 subst e;exact I2.fpOk (Qh _) (I2.hok.fresh (Qh _))
end
end L2
namespace Dz
section
variable{prog:Qw}{w:Ja}{A:Q9}{E:Value->Shared->Prop}{s:Shared}
theorem Qlo{b:Addr}{Q:Bool->Shared->Prop}(ty:s.TypeIs (.ref b) "tuple")(q:Q false s):wpAny (model prog w) A (Qfk (.ref b)) Q E s:=by
 unfold Qfk;refine wpAny_bind (Qdo ty F.slot_tuple_eq.lookup (Qf ?_));exact q
theorem QhJ{id:String}{d:Addr}{es:Array DictEntry}{ep:Nat}{Q:Array DictEntry->Shared->Prop}(x:Raw s.heap d es ep)(hk:∀e∈es.toList,∃b,e.key=.ref b/\s.TypeIs (.ref b) "tuple")(hu:∀e∈es.toList,(es.filter (·.hash == e.hash)).size<=1)(q:Q es s) :
  wpAny (model prog w) A (QcL id d) Q E s:=by
 obtain⟨o,eo,co,dd⟩:=x.at_;unfold QcL;refine wpAny_bind (YE eo dd (wpAny_bind ?_));rw[<- Array.forIn_toList];refine wpAny_forIn_list _ (λrest _ s'=>s'=s/\∀e∈rest,e∈es.toList) _ ?_ ?_ _ _ ⟨rfl,λe h=>h⟩
 ·rintro e rest r s' ⟨rfl,hr⟩;obtain⟨b,eb,ty⟩:=hk e (hr e (.head _));rw[eb];refine wpAny_bind (Qlo ty ?_);simp only[Qhc,if_true];rw[if_neg (by have:=hu e (hr e (.head _));omega)];exact Qf ⟨rfl,λy hy=>hr y (.tail _ hy)⟩
 ·rintro r s' ⟨rfl,_⟩;exact Qf q
theorem Qmg{id:String}{d o:Addr}{es:Array DictEntry}{ep ep0:Nat}{Q:Unit->Shared->Prop}(ne:d≠o)(hS:(o == sysModules)=false)(x0:Raw s.heap d #[] ep0)(x:Raw s.heap o es ep)(h0:0<es.size)(hz:es.size<=sizeLine)
  (hk:∀e∈es.toList,∃b,e.key=.ref b/\s.TypeIs (.ref b) "tuple")(hu:∀e∈es.toList,(es.filter (·.hash == e.hash)).size<=1)(q:∀h' ep',Raw h' d es ep'->ZH d s.heap h'->Q () { s with heap:=h' }) :
  wpAny (model prog w) A (Qet id d o) Q E s:=by
 obtain⟨oo,eo,co,dd⟩:=x.at_;obtain⟨od,eo0,co0,dd0⟩:=x0.at_;have few:(decide (es.size<=8)&&es.all λe=>(keyPart e.key).isSome)=false:=by
  have:(es.all λe=>(keyPart e.key).isSome)=false:=by
   rw[Yr];intro z;have z:=Array.all_eq_true.mp z 0 h0;obtain⟨b,eb,_⟩:=hk es[0] (Qck.mpr (Array.getElem_mem h0));rw[eb] at z;cases z
  rw[this,Qhd]
 unfold Qet;rw[if_neg (by simpa using ne)];unfold Qa9;rw[if_neg (by rw[hS];exact Qp)];refine wpAny_bind (Qf (wpAny_bind (YE eo dd ?_)));simp only[few,Qhc,if_true];refine wpAny_bind (YE eo0 dd0 ?_);rw[if_pos (by rfl)];refine wpAny_bind (QhJ x hk hu ?_);have hem:es.isEmpty=false:=by
  rw[Yr];intro z;rw[Array.isEmpty_iff] at z;subst z;exact absurd h0 (Zv _)
 simp only[hem,Qhc,if_true];refine wpAny_bind (wpAny_updateDictKeysTo eo0 dd0 ?_ (by omega));refine Qf (q _ (ep0+1) ⟨_,Qag _ eo0 (Obj.isFreed_of_dict (Qnm dd0 _)),co0.mapDictKeys _,Qnm dd0 _⟩ (Yk ..))
theorem Qf6{o:Addr}{es:Array DictEntry}{ep:Nat}{Q:Value->Shared->Prop}(hS:(o == sysModules)=false)(x:Raw s.heap o es ep)(h0:0<es.size)(hz:es.size<=sizeLine)
  (hk:∀e∈es.toList,∃b,e.key=.ref b/\s.TypeIs (.ref b) "tuple")(hu:∀e∈es.toList,(es.filter (·.hash == e.hash)).size<=1)
  (q:∀h' ep',Raw h' s.heap.objs.size es ep'->ZH s.heap.objs.size (s.heap.push { cls:=.type "dict",data:=.dict #[] }) h'->Q (.ref s.heap.objs.size) { s with heap:=h' }) :
  wpAny (model prog w) A (call (.type "dict") [.ref o]) Q E s:=by
 obtain⟨oo,eo,co,dd⟩:=x.at_;have ne:s.heap.objs.size≠o:=λz=>absurd (Qo eo) (by rw[z];exact Zv _)
 have kp:∀b u,s.heap.get? b=some u->(s.heap.push { cls:=.type "dict",data:=.dict #[] }).get? b=some u:=λb u e=>Qd _ e
 refine callType_codes (Q₁:=λobj s₁=>obj=.ref s.heap.objs.size/\s₁={ s with heap:=s.heap.push { cls:=.type "dict",data:=.dict #[] } }) F.kt_called_dict (F.kt_typeCall_dict_1 _) F.entry_dict_init (kt_code_dict_new _ ⟨rfl,rfl⟩) ?_
 rintro obj s₁ ⟨rfl,rfl⟩;have x0:Raw (s.heap.push { cls:=.type "dict",data:=.dict #[] }) s.heap.objs.size #[] 0:=⟨_,Qs _ rfl,⟨rfl,rfl,rfl⟩,rfl⟩;have x1:Raw (s.heap.push { cls:=.type "dict",data:=.dict #[] }) o es ep:=x.keep λu e=>kp _ _ e
 have t0:=Raw.ty (s:={ s with heap:=s.heap.push { cls:=.type "dict",data:=.dict #[] } }) x0;have t1:=Raw.ty (s:={ s with heap:=s.heap.push { cls:=.type "dict",data:=.dict #[] } }) x1;refine⟨t0,F.args_dict_init_2 _ _,?_⟩;unfold QbM.«dict.__init__»;refine wpAny_bind ?_
 unfold Builtin.Dict.selfAndRest;refine wpAny_bind (Qrz t0 ?_);show wpAny _ _ (pure (s.heap.objs.size,[QQ o])) _ _ _;refine Qf ?_
 show wpAny _ _ (Qej "dict.__init__" s.heap.objs.size (.ref o) [] .none) _ _ _;unfold Qej;refine wpAny_bind (Qg6 t1 ?_);rw[if_neg (by decide)];refine wpAny_bind ?_
 unfold Builtin.Dict.merge;refine wpAny_bind ?_;unfold Builtin.Dict.readDirectly
 refine wpAny_bind (Qhe t1 isSubtype_dict_dict ?_);simp only[Bool.not_true,Yc,if_false];refine wpAny_bind (Qdo t1 Qgh.lookup (Qf ?_));simp only[beq_self_eq_true,if_true];refine wpAny_bind (Qf (Qmg (s:={ s with heap:=s.heap.push { cls:=.type "dict",data:=.dict #[] } }) ne hS x0 x1 h0 hz (λe he=>?_) hu λh' ep' x' sb=>?_))
 ·obtain⟨b,eb,ob,e1,e2⟩:=hk e he;exact⟨b,eb,ob,kp _ _ e1,e2⟩
 ·show wpAny _ _ (Builtin.Dict.addKeywords s.heap.objs.size [] >>= _) _ _ _;exact wpAny_bind (Qf (Qf ⟨rfl,q h' ep' x' sb⟩))
end
end Dz
namespace L2
open Dz
section
variable{X:Cx}
def hashU(kvs:List (List Key×V))(P:Qw)(w:Ja):Prop:=(kvs.map λp=>tupleKeyHash (mixKind P w) p.1).Nodup
def Qlm(P:Qw)(w:Ja):List V->Hp->VK->Prop:=λxs H Q=>∃a kvs,xs=[.ref a]/\Rd H a (.dT kvs)/\0<kvs.length/\hashU kvs P w/\∀p,H p=none->Q (.ref p) (upd H p (.dT kvs))
theorem Qe2{α:Type}(f:α->Int):∀(l:List α),(l.map f).Nodup->∀e∈l,(l.filter λy=>f y == f e).length<=1
 |[],_,e,h=>nomatch h
 |x::l,nd,e,h=>by
  have nd:=JE.mp nd;rw[QrI];by_cases z:f x=f e
  ·rw[if_pos (beq_iff_eq.mpr z)];have:(l.filter λy=>f y == f e)=[]:=QiZ.mpr λy hy q=>nd.1 (by rw[z,<- beq_iff_eq.mp q];exact QH.mpr ⟨y,hy,rfl⟩)
   rw[this];exact Qh _
  ·rw[if_neg (λq=>z (beq_iff_eq.mp q))];rcases Qz.mp h with q | q
   ·subst q;exact absurd rfl z
   ·exact Qe2 f l nd.2 e q
theorem QeR{α β γ:Type}{F:α->β->Prop}{f:α->γ}{g:β->γ}:∀{l:List α}{m:List β},Zf F l m->(∀a b,F a b->f a=g b)->m.map g=l.map f
 |_,_,.nil,_=>rfl
 |_,_,.cons r t,h=>by rw[JQ,JQ,QeR t h,h _ _ r]
theorem QjZ:CallR X (.type "dict") (Qlm X.prog X.w):=by
 intro pins s σ H xs us Q I r h;obtain⟨a,kvs,rfl,hR,h0,hu,q⟩:=h;obtain⟨u,rfl,ru⟩:=vals1 r;cases ru;obtain⟨z,y,xs,r,o,es,ep,e1,e2,e3,e4,e5⟩:=(show ObjOk X.prog X.w H s.heap a (.dT kvs) from hR.ok I.hok);have hl:=QaQ r;have hes:es.size=xs.length:=by rw[<- Jg,e4,Qg]
 have hh:(xs.map λp=>tupleKeyHash (mixKind X.prog X.w) p.1)=kvs.map λp=>tupleKeyHash (mixKind X.prog X.w) p.1:=by
  exact QeR r λp q h=>by rw[h.1]
 refine Qf6 y ⟨o,e1,e2,e3⟩ (by omega) (by omega) (λe he=>?_) (λe he=>?_) λh' ep' x' sb=>?_
 ·rw[e4] at he;obtain⟨p,hp,rfl⟩:=QH.mp he;obtain⟨i,hi⟩:=J7.mp hp;obtain⟨kv,_,h1,h2,h3⟩:=paired_get r i p hi;obtain⟨_,its,_,ob,e6,e7,_⟩:=(show ObjOk X.prog X.w H s.heap _ (.tup _) from I.hok _ _ h2);exact⟨p.2.1,rfl,ob,e6,e7⟩
 ·rw[<- Jg,Array.toList_filter,e4];rw[e4] at he;refine Qe2 (λy:DictEntry=>y.hash) _ ?_ e he
  rw[Q1];show(xs.map λp=>tupleKeyHash (mixKind X.prog X.w) p.1).Nodup;rw[hh];exact hu
 ·obtain⟨o',f1,f2,f3⟩:=x'.at_;have hf:H s.heap.objs.size=none:=I.hok.fresh (Qh _);refine⟨.ref s.heap.objs.size,_,I.laid (t':=s.toks) (a:=s.heap.objs.size) (o:=.dT kvs) (λb u hb=>(sb.2 b (Qx (Qo hb))).trans (Qd _ hb)) (Qh _) ⟨z,beq_eq_false_iff_ne.mpr (Y2 (Qx I.big)),xs,KT.keeps r λc ys ec=>?_,o',es,ep',f1,f2,f3,e4,e5⟩,rfl,q _ hf⟩;rw[QU (QP ec hf)];exact ec
end
section
variable{X:Cx}
def QkP(tk tv:TE):TE:=λσ H Q=>∀p,H p=none->Qh4 [(tk,tv)] σ (upd H p (.dT [])) λps H2=>∃b k y,ps=[(.ref b,y)]/\H2 p=some (.dT [])/\H2 b=some (.tup (k.map kV))/\Q (.ref p) (upd H2 p (.dT [(k,y)]))
theorem Qoc{k v:QX}{pos:Pos}{tk tv:TE}(hu:X.A.units+1<cLine)(hk:PE X k tk)(hv:PE X v tv):PE X (.Dict [some k] [v] pos) (QkP tk tv):=by
 intro pins s σ H Q I q;have hn:=I.hok.fresh (Qh s.heap.objs.size);have I1:=I.laid (a:=s.heap.objs.size) (o:=.dT []) (h':=s.heap.push { cls:=.type "dict",data:=.dict #[] }) (t':=s.toks) (λ_ _ q=>Qd _ q) (Qh _) (Qpg s.heap I.big);have pp:PPs X pos [some k] [v] [(tk,tv)]:=QfJ hk hv QlA;refine wpAny_Dict_any rfl rfl (by simp) (by show 1<=15;decide) (thn (pp pins _ σ _ _ I1 (q _ hn)) λws s2 ⟨ps,H2,I2,rel,b,ks,y,e,e1,e2,q2⟩=>?_);subst e;cases rel with
 |@cons _ c _ _ r1 r2=>
  cases r2;obtain⟨u1,u2⟩:=c;obtain⟨ru,rv⟩:=r1;cases(show u1=QQ b from ru);obtain⟨z,hd,xs,rl,dd⟩:=Qv7 I2.hok e1;cases rl;unfold storeAll;rw[Qcc];refine wpAny_bind (wpAny_bind (wpAny_dictSet_heap (knd:=tupleKind (mixKind X.prog X.w)) ?_ (Qd8 I2.hok e2) dd (λh' dd' hs=>?_) (Je _)))
  ·show X.A.units<cLine;omega
  ·refine Qf (Qf ⟨.ref s.heap.objs.size,_,?_,rfl,q2⟩);obtain⟨o,es,ep,h1,h2,h3,h4,_,h5⟩:=dd';refine Qf1 I2 (by rw[e1];exact Ju) hs ⟨o,h1⟩ ⟨by show 1<=sizeLine;decide,hd,_,.cons ⟨rfl,?_,rv⟩ .nil,o,es,ep,h1,h2,h3,h4,h5⟩;show upd H2 s.heap.objs.size (.dT [(ks,y)]) b=_;rw[QU (YB e2 e1 (λz=>nomatch z))];exact e2
end
end L2
namespace Rk
theorem Qt8:bootBuiltins "dict" = some (.type "dict"):=by decide +kernel
end Rk
namespace Rt
abbrev le (c:YI->YI->Bool) (x y:YI):Prop:=c y x=false
section
variable{c:YI->YI->Bool}
end
def kx(xs:Array YI)(i:Nat):YI:=(xs[i]?).getD (Q6,Q6)
structure SB (κ:QaX) (a₀:Array YI) (st:SortSt):Prop where
 perm:(arrOf st).Perm a₀
 kind:kindOf st=κ
 failed:failedOf st=none
theorem SB.size{κ:QaX}{a₀:Array YI}{st:SortSt}(h:SB κ a₀ st):(arrOf st).size=a₀.size:=h.perm.size_eq
theorem SB.mem{κ:QaX}{a₀:Array YI}{st:SortSt}(h:SB κ a₀ st){p:YI}(e:p∈(arrOf st).toList):p∈a₀.toList:=(QaL.mp h.perm).mem_iff.mp e
section
variable{prog:Qw}{w:Ja}{A:Q9}{E:Value->Shared->Prop}{s:Shared}{a₀:Array YI}{κ:QaX}{c:YI->YI->Bool}
end
section
variable{c:YI->YI->Bool}
variable{a b r:Array YI}{i j k:Nat}
end
section
variable{prog:Qw}{w:Ja}{A:Q9}{E:Value->Shared->Prop}{s:Shared}{a₀:Array YI}{κ:QaX}{c:YI->YI->Bool}
end
section
variable{c:YI->YI->Bool}
theorem QiB(xs:Array YI)(i:Nat):(xs.extract 0 i).toList=xs.toList.take i:=by
 rw[Array.toList_extract,List.extract_eq_take_drop,Qkv,Qg9]
variable{a b r:Array YI}{i j t:Nat}
theorem QwY(x y r:Array YI)(i j:Nat):(x.extract 0 i++y.extract 0 j++r.reverse).toList=(x.toList.take i++y.toList.take j)++r.toList.reverse:=by
 rw[Qkz,Qkz,QiB,QiB,Array.toList_reverse]
end
section
variable{prog:Qw}{w:Ja}{A:Q9}{E:Value->Shared->Prop}{s:Shared}{a₀:Array YI}{κ:QaX}{c:YI->YI->Bool}
end
section
variable{c:YI->YI->Bool}
end
section
variable{prog:Qw}{w:Ja}{A:Q9}{E:Value->Shared->Prop}{s:Shared}{a₀:Array YI}{κ:QaX}{c:YI->YI->Bool}
end
def RunsOk:List (Nat×Nat)->Nat->Nat->Prop
 |[],s,e=>s=e
 |(s',n)::r,s,e=>s'=s/\1<=n/\RunsOk r (s+n) e
theorem RunsOk.le:∀{l:List (Nat×Nat)}{s e:Nat},RunsOk l s e->s+l.length<=e
 |[],s,e,h=>by cases(show s=e from h);exact Qh _
 |(s',n)::l,s,e,⟨_,h2,h3⟩=>by
  have:=RunsOk.le h3;rw[QV];omega
theorem RunsOk.mem:∀{l:List (Nat×Nat)}{s e:Nat},RunsOk l s e->∀p∈l,s<=p.1/\p.1+p.2<=e
 |(s',n)::l,s,e,⟨h1,h2,h3⟩,p,hp=>by
  have hl:=RunsOk.le h3;rcases Qz.mp hp with z | z
  ·subst z;show s<=s'/\s'+n<=e;omega
  ·have:=RunsOk.mem h3 p z;omega
section
variable{prog:Qw}{w:Ja}{A:Q9}{E:Value->Shared->Prop}{s:Shared}{a₀:Array YI}{κ:QaX}{c:YI->YI->Bool}
end
end Rt
namespace Dl
open L2 _root_.Rd Rk
structure GOk (wg:DG):Prop where h:∀d δ Q,wg d δ Q->wg d δ λδ'=>(∀(j:Nat) x,δ'[j]? = some x->(∃e,x=.v e)∨δ[j]? = some x)/\Q δ'
theorem Qo6(i:Nat):GOk (gN i):=⟨λd δ Q h=>⟨λj x e=>by
 by_cases z:j=i
 ·subst z;exact .inl ⟨d,set_eq e⟩
 ·rw[Y8 z] at e;exact .inr e,h⟩⟩
theorem QmF{cap:List (Option Nat)}{ix:List Nat}(hf:Qc1 cap ix=true){i:Nat}(hi:i∈ix):cap[i]? = some none:=by
 have:=J4.mp hf i hi;split at this
 ·assumption
 ·cases this
theorem QdF{cap:List (Option Nat)}{ix:List Nat}(hf:Qc1 cap ix=true){δ:Sts}{i:Nat}{x:Sl}(h:(QdG cap δ)[i]? = some x)(hx:x≠.no):i∉ix:=λz=>by
 rcases Qf4 h with⟨_,e⟩ | ⟨j,hj,_⟩
 ·exact hx e
 ·rw[QmF hf z] at hj;cases hj
section
variable{K:PySem.W.Frag}{σ σ4:L2.St}{δ δ4:Sts}{cap:List (Option Nat)}{ix:List Nat}{A1:Addr->Prop}{H3 H5 H6:Hp}
theorem Qrj(hP:∀a,Z9 σ δ a->A1 a)(hf:Qc1 cap ix=true)(j4:∀j,j∉ix->σ4[j]? = (Qc2 cap σ)[j]?)(gk:∀(j:Nat) x,δ4[j]? = some x->(∃e,x=.v e)∨(QdG cap δ)[j]? = some x){a:Addr}(h:Av (inF A1 cap σ δ H3) σ4 δ4 a):A1 a:=by
 rcases h with z | ⟨i,h1,h2⟩
 ·exact z
 ·refine(Qiw (cap:=cap) (H:=H3) hP).mp ?_
  rcases h2 with h2 | ⟨ds,h2⟩
  ·rcases gk i _ h2 with⟨e,z⟩ | z
   ·cases z
   ·exact .inr ⟨i,by rw[<- j4 i (QdF hf z (λz=>by cases z))];exact h1,.inl z⟩
  ·rcases gk i _ h2 with⟨e,z⟩ | z
   ·cases z
   ·exact .inr ⟨i,by rw[<- j4 i (QdF hf z (λz=>by cases z))];exact h1,.inr ⟨ds,z⟩⟩
theorem QtG(hP:∀a,Z9 σ δ a->A1 a)(hf:Qc1 cap ix=true)(j4:∀j,j∉ix->σ4[j]? = (Qc2 cap σ)[j]?)(gk:∀(j:Nat) x,δ4[j]? = some x->(∃e,x=.v e)∨(QdG cap δ)[j]? = some x)
  (ri:Rel K (inF A1 cap σ δ H6) (Qc2 cap σ) H6 (QdG cap δ))(r5:Rel K (inF A1 cap σ δ H3) σ4 H5 δ4)(kk:∀a o,¬A1 a->H5 a=some o->H6 a=some o):Rel K (inF A1 cap σ δ H6) σ4 H6 δ4 where
 len:=r5.len
 dom:=ri.dom
 dom0:=ri.dom0
 pt0:=ri.pt0
 kx:=ri.kx
 sl:=λi o x h1 h2=>by
  have iv:∀{a:Addr},Av (inF A1 cap σ δ H6) σ4 δ4 a->A1 a:=λ{a} z=>Qrj hP hf j4 gk z
  rcases gk i x h2 with⟨d,rfl⟩ | hx
  ·obtain⟨v,e,q⟩:=r5.sl i o _ h1 h2;exact⟨v,e,q.mv (λa o n e=>kk a o (λz=>n (.inl z)) e) λa z=>.inl (.inl (iv z))⟩
  ·by_cases hn:x=.no
   ·subst hn;trivial
   ·have h1':(Qc2 cap σ)[i]? = some o:=by rw[<- j4 i (QdF hf hx hn)];exact h1
    have h:=ri.sl i o x h1' hx;cases x with
    |no=>trivial
    |v d=>obtain⟨v',e,q'⟩:=h;exact⟨v',e,q'.mv (λ_ _ _ e=>e) λa z=>.inl (.inl (iv z))⟩
    |own ds=>obtain⟨l,xs,e,e2,q',f⟩:=h;exact⟨l,xs,e,e2,q'.mv (λ_ _ _ e=>e) λa z=>.inl (.inl (iv z)),f⟩
    |pk ds=>obtain⟨l,xs,e,e2,q',f⟩:=h;exact⟨l,xs,e,e2,q'.mv (λ_ _ _ e=>e) λa z=>.inl (.inl (iv z)),f⟩
    |pot=>exact h
    |scr=>exact h
 inj:=λi j a ds h1 h2 _=>by
  rcases gk i _ h1 with⟨e,z⟩ | z
  ·cases z
  ·rcases Qf4 z with⟨_,e⟩ | ⟨j,hj,e⟩
   ·cases e
   ·exfalso
    cases e2:δ[j]? with
    |none=>rw[e2] at e;cases e
    |some y=>rw[e2] at e;cases y<;>cases e
end
theorem QnE{K:PySem.W.Frag}{F:Fm}{σ:L2.St}{δ:Sts}{H1 H3:Hp}{cap:List (Option Nat)}{ix:List Nat}{wg:DG}{wt:DT}{A1:Addr->Prop}{x:V}{d:Qc}{inner:L2.St->Hp->(Hp->Prop)->Prop}{kk:Hp->Prop}{T:Sts->Prop}{N:Prop}(gok:GOk wg)
  (hf:Qc1 cap ix=true)(rel:Rel K F σ H1 δ)(hA:∀a,Av F σ δ a->A1 a)(hN:∀a,A1 a->Av F σ δ a∨H1 a=none)(dm:∀a,A1 a->∃xs,H3 a=some (.lst xs))(kp:Kp σ δ H1 H3)(dx:DA A1 H3 x d)
  (h:wg d (QdG cap δ) λδ4=>wt δ4 (λb=>if b=true then T δ4 else N) XF)
  (hT:∀σ4 δ4 H5,T δ4->Rel K (inF A1 cap σ δ H3) σ4 H5 δ4->Kp σ δ H3 H5->(∀j,j∉ix->σ4[j]? = (Qc2 cap σ)[j]?)->σ4.length=(Qc2 cap σ).length->(∀(j:Nat) x,δ4[j]? = some x->(∃e,x=.v e)∨(QdG cap δ)[j]? = some x)->inner σ4 H5 kk)(hF:N->∀H5,Kp σ δ H3 H5->kk H5) :
  bOf (Qc2 cap σ) (tG ix K wg) (tT K E0 wt) inner x H3 kk:=by
 have ri:=Qmx (cap:=cap) rel hA hN dm kp;have iv:∀{a:Addr},Av (inF A1 cap σ δ H3) (Qc2 cap σ) (QdG cap δ) a->A1 a:=λ{a}=>(Qiw λa z=>hA a (Y9 z)).mp
 refine⟨inF A1 cap σ δ H3,QdG cap δ,d,_,ri,dx.mv (λ_ _ _ e=>e) λa z=>.inl (iv z),gok.h _ _ _ h,λδ4 ⟨g4,h4⟩ σ4 r4 st4 l4 j4=>⟨Qrv hf l4 j4,inF A1 cap σ δ H3,δ4,_,XF,r4,h4,λb hb H5 r5 kp5=>?_,Qs4⟩⟩;have pots:∀{b:Addr},Z9 σ4 δ4 b->Z9 σ δ b:=λz=>QhG r4 (λb o _ e1 e2=>by rw[e2] at e1;cases e1) z
 have K5:Kp σ δ H3 H5:=by
  refine⟨λb o n e=>kp5.1 b o (λz=>n (pots z)) e,λb hb=>?_⟩;by_cases z:Z9 σ4 δ4 b
  ·exact kp5.2 b z
  ·obtain⟨n,e⟩:=kp.2 b hb;exact⟨n,kp5.1 _ _ z e⟩
 exact Qdm hb (λz=>hT σ4 δ4 H5 z r5 K5 j4 l4 g4) λz=>hF z H5 K5
theorem QtO{K:PySem.W.Frag}{σ σ4:L2.St}{δ δ4:Sts}{H1 H3 H5:Hp}{cap:List (Option Nat)}{we:DE}{A1:Addr->Prop}{p:Addr}{acc:List Qc}{kk:Hp->Prop}{G:Qc->Prop}
  (hpA:A1 p)(hP:∀a,Z9 σ δ a->A1 a)(hp1:H1 p=none)(hpn:¬Z9 σ δ p)(lp:Lp σ δ A1 p H1 H5 acc)(hl:acc.length<sizeLine)(r5:Rel K (inF A1 cap σ δ H3) σ4 H5 δ4)(pots:∀b,Z9 σ4 δ4 b->Z9 σ δ b)
  (h:we δ4 G XF)(hk:∀e,G e->∀H',Lp σ δ A1 p H1 H' (acc++[e])->(∀b o,¬A1 b->H5 b=some o->H' b=some o)->kk H'):Quu p (tX .D K E0 we) σ4 H5 kk:=by
 refine⟨inF A1 cap σ δ H3,δ4,G,XF,r5,h,λe he v H6 r6 kp6 dv=>?_,Qs4⟩;have k56:Kp σ δ H5 H6:=by
  refine⟨λb o n e=>kp6.1 b o (λz=>n (pots b z)) e,λb hb=>?_⟩;by_cases z:Z9 σ4 δ4 b
  ·exact kp6.2 b z
  ·obtain⟨n,e⟩:=lp.kp.2 b hb;exact⟨n,kp6.1 _ _ z e⟩
 obtain⟨k6,ys,e6,q6⟩:=lp.step hP hpn k56;have up:∀{b:Addr}{o:HO},¬A1 b->H6 b=some o->upd H6 p (.lst (ys++[v])) b=some o:=λ{b o} n e=>by rw[QU (λz=>n (by rw[z];exact hpA))];exact e
 refine⟨ys,e6,by rw[q6.length];exact hl,hk e he _ ⟨⟨λb o n e=>?_,λb hb=>?_⟩,ys++[v],upd_same,DAs.app (q6.mv (λ_ _=>up) λa z=>.inl z) (.cons (DA.mv dv (λa o n e=>up (λz=>n (.inl z)) e) λa z=>.inl (.inl z)) .nil)⟩ λb o n e=>up n (kp6.1 b o (λz=>n (hP b (pots b z))) e)⟩
 ·rw[QU (λz=>by rw[z,hp1] at e;cases e)];exact k6.1 b o n e
 ·rw[QU (λz=>hpn (by rw[<- z];exact hb))];exact k6.2 b hb
def Qty:Nat:=1000000
@[irreducible] def InR(items2:List Qc)(wg2:DG)(wt2:DT)(we:DE)(δ4:Sts)(acc:List Qc)(N:List Qc->Prop):Prop:=∃Jv:Nat->List Qc->Prop,Jv 0 acc /\
 (∀(j:Nat) acc2 d2,items2[j]? = some d2->Jv j acc2->acc2.length<Qty/\wg2 d2 δ4 λδ5=>wt2 δ5 (λb=>if b=true then we δ5 (λe=>Jv (j+1) (acc2++[e])) XF else Jv (j+1) acc2) XF)/\∀acc2,Jv items2.length acc2->N acc2
@[irreducible] def QiQ(items:List Qc)(wg:DG)(wt:DT)(wi2:DI)(wg2:DG)(wt2:DT)(we:DE)(δ:Sts)(Q:Qc->Prop):Prop:=∃Iv:Nat->List Qc->Prop,Iv 0 [] /\
 (∀(i:Nat) acc d,items[i]? = some d->Iv i acc->wg d δ λδ4=>wt δ4 (λb=>if b=true then wi2 δ4 (λitems2=>InR items2 wg2 wt2 we δ4 acc (Iv (i+1))) XF else Iv (i+1) acc) XF)/\∀acc,Iv items.length acc->Q (.list acc)
def Qru(cap:List (Option Nat))(wi:DI)(wg:DG)(wt:DT)(wi2:DI)(wg2:DG)(wt2:DT)(we:DE):DE:=λδ Q EX=>wi δ (λitems=>QiQ items wg wt wi2 wg2 wt2 we (QdG cap δ) Q) EX
section
variable{X:Cx}{E:XK}
theorem QoW:Qty<=sizeLine:=QL (by decide) QhE
end
section
variable{X:Cx}{E:XK}
end
theorem Qyk{items2:List Qc}{wg2:DG}{wt2:DT}{we:DE}{δ4:Sts}{acc:List Qc}{N:List Qc->Prop}(G:Qc->Option Qc)(hl:acc.length+items2.length<Qty)
  (h:∀d∈items2,∀(k1:Prop)(k2:Qc->Prop),(G d=none->k1)->(∀e,G d=some e->k2 e)->wg2 d δ4 λδ5=>wt2 δ5 (λb=>if b=true then we δ5 k2 XF else k1) XF)(q:N (acc++items2.filterMap G)) :
  InR items2 wg2 wt2 we δ4 acc N:=by
 unfold InR;refine⟨λi acc2=>acc2=acc++(items2.take i).filterMap G,by simp,λi acc2 d hd e=>?_,λacc2 e=>by rw[e,Zm];exact q⟩;have e:acc2=acc++(items2.take i).filterMap G:=e;have hs:(items2.take (i+1)).filterMap G=(items2.take i).filterMap G++(G d).toList:=by
  rw[Zx,hd,Qkg];cases e2:G d<;>simp[e2]
 refine⟨?_,h d (Q3 hd) _ _ (λe2=>?_) λe' e2=>?_⟩
 ·have:=List.length_filterMap_le G (items2.take i);have h2:(items2.take i).length<=items2.length:=by rw[Qas];exact Qfg _ _
  rw[e,Qv];omega
 ·show acc2=acc++(items2.take (i+1)).filterMap G;rw[hs,e2,e];simp
 ·show acc2++[e']=acc++(items2.take (i+1)).filterMap G;rw[hs,e2,e];simp
section
open Rs PySem.W PySem.Calls
variable{X:Cx}
end
theorem QfQ{A:Addr->Prop}{H:Hp}:∀ms:List Int,DAs A H (ms.map V.int) (ms.map .int)
 |[]=>.nil
 |m::ms=>.cons (.int m) (QfQ ms)
end Dl
namespace PySem
namespace AutoSeq1
open PyProof
end AutoSeq1
end PySem
namespace L2
end L2
namespace Dl
open L2 _root_.Rd Rk
section
variable{X:Cx}{E:XK}
end
theorem QzG{K:PySem.W.Frag}{E:XK}{w:DE}(σ:L2.St)(H:Hp)(Q:VK)(h:tX .D K E w σ H Q):tX .F K E w σ H Q:=by
 obtain⟨F,δ,R,EX,rel,hw,k,o⟩:=h;exact⟨F,δ,R,EX,rel,hw,λd hd v H' r kp vk=>k d hd v H' r kp vk.1,o⟩
section
variable{X:Cx}{E:XK}
end
theorem QjV{K:PySem.W.Frag}{E:XK}{cap:List (Option Nat)}{ix ix2:List Nat}{wi wi2:DI}{wg wg2:DG}{wt wt2:DT}{we:DE}(gok:GOk wg)(hf:Qc1 cap ix=true)(hf2:Qc1 cap ix2=true)(hd:ix2.all (λi => !ix.contains i)=true)(σ:L2.St)(H:Hp)(Q:VK)(h:tX .F K E (Qru cap wi wg wt wi2 wg2 wt2 we) σ H Q) :
  QpT cap (tI .P K E wi) (tG ix K wg) (tT K E0 wt) (tI .D K E0 wi2) (tG ix2 K wg2) (tT K E0 wt2) (tX .D K E0 we) σ H Q:=by
 obtain⟨F,δ,R,EX,rel,hw,k,o⟩:=h;refine⟨F,δ,_,EX,rel,hw,λitems hC J H1 rel1 kp1 ⟨ln,it⟩ p hp=>?_,o⟩;unfold QiQ at hC;obtain⟨Iv,i0,step,fin⟩:=hC;have hpn:¬Z9 σ δ p:=λz=>by obtain⟨xs,e⟩:=rel1.isl (Y9 (F:=F) z);rw[hp] at e;cases e
 let A1:Addr->Prop:=λa=>Av F σ δ a∨a=p
 have hP:∀a,Z9 σ δ a->A1 a:=λa z=>.inl (Y9 z)
 have hN:∀a,A1 a->Av F σ δ a∨H1 a=none:=λa z=>z.elim .inl λz=>.inr (by rw[z];exact hp)
 have dmK:∀{H2:Hp},Kp σ δ H1 H2->(∃ys,H2 p=some (.lst ys))->∀a,A1 a->∃xs,H2 a=some (.lst xs):=λ{H2} k2 e2 a z=>by
  rcases z with z | z
  ·exact(rel1.kp k2).isl z
  ·rw[z];exact e2
 refine QfP items.length (λi H2=>i<=items.length/\∃acc,Iv i acc/\Lp σ δ A1 p H1 H2 acc) ⟨Je _,[],i0,Kp.same rel1 (Jn hp),[],upd_same,.nil⟩ (λi H2 hi ⟨_,acc,iv,lp⟩=>?_) λH2 ⟨_,acc,iv,lp⟩=>?_
 ·obtain⟨k2,ys,e2,q2⟩:=lp;obtain⟨go,_⟩:=it H2 A1 (λb o n e=>k2.1 b o n e) hN (dmK k2 ⟨ys,e2⟩);have hd':items[i]? = some items[i]:=Qi hi;obtain⟨g1,g2⟩:=go i _ hd';refine⟨g1,λx H3 y kk hk=>?_⟩;obtain⟨s3,dx⟩:=g2 x H3 y;have k23:=Kp.same (rel1.kp k2) s3;have lp3:Lp σ δ A1 p H1 H3 acc:=Lp.step hP hpn ⟨k2,ys,e2,q2⟩ k23;refine QnE gok hf rel1 (λa z=>.inl z) hN (dmK lp3.kp ⟨ys,s3 _ _ e2⟩) lp3.kp dx (step i acc _ hd' iv) (λσ4 δ4 H5 h5 r5 k5 j4 l4 g4=>?_) λh5 H5 k5=>hk _ ⟨hi,acc,h5,lp3.step hP hpn k5⟩
  have av4:∀{H:Hp}{a:Addr},Av (inF A1 cap σ δ H) σ4 δ4 a->A1 a:=λ{H a} z=>Qrj hP hf j4 g4 z
  refine⟨inF A1 cap σ δ H3,δ4,_,XF,r5,h5,λitems2 hJ J2 H7 rel7 kp7 ⟨ln2,it2⟩=>?_,Qs4⟩;unfold InR at hJ;obtain⟨Jv,z0,step2,fin2⟩:=hJ;have pots4:∀{b:Addr},Z9 σ4 δ4 b->Z9 σ δ b:=λ{b} z=>by
   obtain⟨j,z1,z2⟩:=z;rcases g4 j _ z2 with⟨e,z⟩ | z
   ·cases z
   ·exact Qb8 ⟨j,by rw[<- j4 j (QdF hf z (λz=>by cases z))];exact z1,z⟩
  have k57:Kp σ δ H5 H7:=by
   refine⟨λb o n e=>kp7.1 b o (λz=>n (pots4 z)) e,λb hb=>?_⟩;by_cases z:Z9 σ4 δ4 b
   ·exact kp7.2 b z
   ·obtain⟨n,e⟩:=k5.2 b hb;exact⟨n,kp7.1 _ _ z e⟩
  refine QfP items2.length (λj H8=>j<=items2.length/\∃acc2,Jv j acc2/\Lp σ δ A1 p H1 H8 acc2/\∀b o,¬A1 b->H7 b=some o->H8 b=some o) ⟨Je _,acc,z0,(lp3.step hP hpn k5).step hP hpn k57,λ_ _ _ e=>e⟩ (λj H8 hj ⟨_,acc2,jv,lp8,s78⟩=>?_) λH8 ⟨_,acc2,jv,lp8,s78⟩=>?_
  ·obtain⟨ys8,e8,q8⟩:=lp8.at_;obtain⟨go2,_⟩:=it2 H8 A1 (λb o n e=>s78 b o (λz=>n (.inl z)) e) (λb z=>.inl (.inl z)) (dmK lp8.kp ⟨ys8,e8⟩);have hd2:items2[j]? = some items2[j]:=Qi hj;obtain⟨g3,g5⟩:=go2 j _ hd2;refine⟨g3,λx2 H9 y2 kk2 hk2=>?_⟩;obtain⟨s9,dx2⟩:=g5 x2 H9 y2;have k89:=Kp.same (rel1.kp lp8.kp) s9;have lp9:Lp σ δ A1 p H1 H9 acc2:=lp8.step hP hpn k89;have ri:=Qmx (cap:=cap) rel1 (λa z=>.inl z) hN (dmK lp9.kp ⟨ys8,s9 _ _ e8⟩) lp9.kp;have r9:=QtG hP hf j4 g4 ri r5 λa o n e=>s9 _ _ (s78 a o n (k57.1 a o (λz=>n (hP a z)) e))
   obtain⟨hl2,hw2⟩:=step2 j acc2 _ hd2 jv;refine⟨inF A1 cap σ δ H9,δ4,_,_,r9,dx2.mv (λ_ _ _ e=>e) λa z=>.inl (av4 z),hw2,λδ5 h6 σ5 r10 st5 l5 j5=>⟨QnB l5 λi v e=>?_,inF A1 cap σ δ H9,δ5,_,XF,r10,h6,λb hb H10 r11 kp11=>?_,Qs4⟩⟩
   ·by_cases z:i∈ix2
    ·have n1:i∉ix:=λz2=>by
      have:=J4.mp hd i z;simp[z2] at this
     rw[j4 i n1] at e;rcases Qf3 e with⟨_,e2⟩ | ⟨j,hj2,_⟩
     ·cases e2
     ·rw[QmF hf2 z] at hj2;cases hj2
    ·rw[j5 i z];exact e
   ·have pots:∀{b:Addr},Z9 σ5 δ5 b->Z9 σ δ b:=λz=>QhG r10 (λb o _ e1 e2=>by rw[e2] at e1;cases e1) z
    have K10:Kp σ δ H9 H10:=by
     refine⟨λb o n e=>kp11.1 b o (λz=>n (pots z)) e,λb hb=>?_⟩;by_cases z:Z9 σ5 δ5 b
     ·exact kp11.2 b z
     ·obtain⟨n,e⟩:=lp9.kp.2 b hb;exact⟨n,kp11.1 _ _ z e⟩
    have s710:∀b o,¬A1 b->H7 b=some o->H10 b=some o:=λb o n e=>K10.1 b o (λz=>n (hP b z)) (s9 _ _ (s78 b o n e))
    refine Qdm hb (λz=>?_) λz=>hk2 _ ⟨hj,acc2,z,lp9.step hP hpn K10,s710⟩
    exact QtO (.inr rfl) hP hp hpn (lp9.step hP hpn K10) (QN hl2 QoW) r11 (λb=>pots) z λe he H' lp' kk'=>hk2 _ ⟨hj,acc2++[e],he,lp',λb o n e=>kk' b o n (s710 b o n e)⟩
  ·obtain⟨ys8,e8,q8⟩:=lp8.at_;obtain⟨_,st2⟩:=it2 H8 A1 (λb o n e=>s78 b o (λz=>n (.inl z)) e) (λb z=>.inl (.inl z)) (dmK lp8.kp ⟨ys8,e8⟩);exact⟨st2,hk _ ⟨hi,acc2,fin2 acc2 jv,lp8⟩⟩
 ·obtain⟨k2,ys,e2,q2⟩:=lp;obtain⟨_,st⟩:=it H2 A1 (λb o n e=>k2.1 b o n e) hN (dmK k2 ⟨ys,e2⟩);refine⟨st,k _ (fin acc iv) (.ref p) H2 (rel1.kp k2) (kp1.trans k2) ⟨.lst (λz=>?_) e2 (q2.mv (λ_ _ _ e=>e) λa z=>.inl (.inl z)),λl e1 _=>?_⟩⟩
  ·obtain⟨xs,e⟩:=rel1.isl z;rw[hp] at e;cases e
  ·cases e1;exact QcY kp1 hp
section
variable{X:Cx}{E:XK}
theorem Qn7(M:List Str)(cap:List (Option Nat))(i:Nat){elt tg iter tg2 iter2:QX}{ifs ifs2:List QX}{scope:Y4}{pos py spos:Pos}{y:Str}{ix ix2:List Nat}{wi wi2:DI}{wg wg2:DG}{wt wt2:DT}{we:DE}(hN:X.N.Nodup)(gok:GOk wg)(hi:QI .P X E tg iter wi)(hb:∀cl ex s3 H3 C,QG ix (blk X M scope cl ex s3 H3 C) tg wg/\QTs (blk X M scope cl ex s3 H3 C) E0 ifs wt/\QI .D (blk X M scope cl ex s3 H3 C) E0 tg2 iter2 wi2/\QG ix2 (blk X M scope cl ex s3 H3 C) tg2 wg2/\QTs (blk X M scope cl ex s3 H3 C) E0 ifs2 wt2/\QE .D (blk X M scope cl ex s3 H3 C) E0 elt we)(hiy:X.N[i]? = some y:=by rfl)(hly:X.env.scope.names.lookup y=some .local:=by rfl)(hc:X.calm=true:=by rfl)(ok:QhO X.N X.env.scope M scope cap=true:=by rfl)(hf:Qc1 cap ix=true:=by rfl)(hf2:Qc1 cap ix2=true:=by rfl)(hd:ix2.all (λi => !ix.contains i)=true:=by rfl)(hs:∀x,foldedSetIterable iter X.env x=pure x:=by intro _;rfl)(hs2:∀env x,foldedSetIterable iter2 env x=pure x:=by intro _ _;rfl)(hsw:swapsWith (.ListComp elt [⟨tg,iter,ifs,0⟩,⟨tg2,iter2,ifs2,0⟩] scope pos) (some (.Name y py)) spos.line X.env=pure true:=by rfl):QS X E (.Assign [.Name y py] (.ListComp elt [⟨tg,iter,ifs,0⟩,⟨tg2,iter2,ifs2,0⟩] scope pos) spos) (Qyv i (Qru cap wi wg wt wi2 wg2 wt2 we)):=
 ⟨QlH (PS.imp (PS.imp (Qlz hN hiy hly hc ok hi.h (λcl ex s3 H3 C=>⟨(hb cl ex s3 H3 C).1.h,(hb cl ex s3 H3 C).2.1.h,(hb cl ex s3 H3 C).2.2.1.h,(hb cl ex s3 H3 C).2.2.2.1.h,(hb cl ex s3 H3 C).2.2.2.2.1.h,(hb cl ex s3 H3 C).2.2.2.2.2.h⟩) hs hs2 hsw) λD σ H q=>QjV (E:=E) gok hf hf2 hd σ H _ q) λD σ H q=>QzG σ H _ q)⟩
end
theorem Qgy{A:Addr->Prop}{H:Hp}(dm:∀a,A a->∃xs,H a=some (.lst xs)):∀(M:List (Int×Int))(ys:List V),Dats H ys (M.map Rk.pairD)->DAs A H ys (M.map Rk.pairD)
 |[],ys,h=>by cases h;exact .nil
 |m::M,ys,h=>by
  cases h with
  |@cons x xs _ _ h1 h2=>
   refine .cons ?_ (Qgy dm M xs h2)
   cases h1 with
   |@tup a zs _ e q=>
    refine .tup (λz=>?_) e ?_
    ·obtain⟨xs,e'⟩:=dm a z;rw[e] at e';cases e'
    ·cases q with
     |cons a b=>
      cases a;cases b with
      |cons a b=>cases a;cases b;exact .cons (.int _) (.cons (.int _) .nil)
theorem ZY(L:List (Int×Int)):nds (L.map Rk.pairD)=true:=Qmc.mpr λd hd=>by
 obtain⟨i,_,rfl⟩:=QH.mp hd;rfl
@[irreducible] def sortPD:List Qc->(Qc->Prop)->Prop
 |[.list ds],Q=>∃L:List (Int×Int),ds=L.map Rk.pairD/\L.Nodup/\L.length<64/\(∀ij∈L,0<=ij.2/\ij.2<64)/\∀M:List (Int×Int),M.Perm L->M.Pairwise (λa b=>Rs.code a<Rs.code b)->Q (.list (M.map Rk.pairD))
 |_,_=>False
theorem cd_sortP:QcC Qlh sortPD:=λA P H vs ds R Q ln dm q h k=>by
 unfold sortPD at h;split at h
 ·obtain⟨v,rfl,hv⟩:=pd1 q;obtain⟨L,rfl,nd',h64,hb,hR⟩:=h;obtain⟨l,xs,rfl,e,qq⟩:=hv.list;refine⟨l,xs,L,rfl,e,Qae _ _ (ZY L) qq,nd',h64,hb,λt ys M H2 s n e2 dts pm pw=>?_⟩;have dm2:∀a,A a->∃xs,H2 a=some (.lst xs):=λa z=>by obtain⟨xs,e⟩:=dm a z;exact⟨xs,s _ _ e⟩
  refine k _ (hR M pm pw) _ H2 s (.lst (λz=>?_) e2 (Qgy dm2 M ys dts)) (QaF n);obtain⟨xs,e⟩:=dm t z;rw[n] at e;cases e
 ·exact h.elim
theorem sortP_of{L:List (Int×Int)}{Q:Qc->Prop}(h1:L.Nodup)(h2:L.length<64)(h3:∀ij∈L,0<=ij.2/\ij.2<64)(k:∀M:List (Int×Int),M.Perm L->M.Pairwise (λa b=>Rs.code a<Rs.code b)->Q (.list (M.map Rk.pairD))):sortPD [.list (L.map Rk.pairD)] Q:=by
 unfold sortPD;exact⟨L,rfl,h1,h2,h3,k⟩
def rkD:Qc->Nat
 |.int _=>0
 |.tuple _=>1
 |_=>2
def QzK(i j:Int):Ordering:=if i<j then .lt else if i=j then .eq else .gt
def QzJ(i j:Nat):Ordering:=if i<j then .lt else if i=j then .eq else .gt
def thn(o:Ordering)(p:Ordering):Ordering:=match o with
 |.eq=>p
 |o=>o
mutual
def Qzc:Qc->Qc->Ordering
 |.int i,.int j=>QzK i j
 |.tuple a,.tuple b=>Qwp a b
 |x,y=>QzJ (rkD x) (rkD y)
def Qwp:List Qc->List Qc->Ordering
 |[],[]=>.eq
 |[],_::_=>.lt
 |_::_,[]=>.gt
 |x::xs,y::ys=>thn (Qzc x y) (Qwp xs ys)
end
def isL:Ordering->Bool
 |.lt=>true
 |_=>false
def ltD(x y:Qc):Bool:=isL (Qzc x y)
end Dl
namespace Rt
open PySem.Calls Dl
section
open PySem.SeqAt
open PySem.AutoSeq1 (wpAny_loadPart')
open PySem.MeetsSeq PySem.MeetsSeq2 PySem.MeetsSeq3
end
end Rt
namespace Rt
open PySem.Calls PySem.W Dl
section
variable{prog:Qw}{w:Ja}{A:Q9}{E:Value->Shared->Prop}{s:Shared}
end
section
variable{M:Qkw}{A:Q9}{E:Value->Shared->Prop}{s:Shared}
end
section
variable{prog:Qw}{w:Ja}{A:Q9}{E:Value->Shared->Prop}{s:Shared}
end
end Rt
namespace Rt
open PySem.Calls PySem.W Dl Rs
section
variable{prog:Qw}{w:Ja}{A:Q9}{E:Value->Shared->Prop}{s:Shared}
end
end Rt
namespace L2
open PySem.Calls _root_.Rd _root_.Rk _root_.Rs Rt Dl
section
variable{X:Cx}
end
end L2
namespace Dl
open L2 _root_.Rd Rk Rt
end Dl
namespace L2
open PySem.Calls _root_.Rd _root_.Rk Rt
section
variable{X:Cx}
end
end L2
namespace Dl
open L2 _root_.Rd Rk Rt
section
variable{X:Cx}{E:XK}
end
end Dl
namespace Rk
open L2 _root_.Rd Dl Rt
def QxV:List Qc->Bool
 |x::y::r=>ltD x y&&QxV (y::r)
 |_=>true
def ltP2:Qc->Bool
 |.tuple [a,b]=>ltD a b
 |_=>false
def Qiu(h w:Int):Qc->Bool
 |.tuple [a,b]=>inW a 0 (h - 1)&&inW b 0 (w - 1)
 |_=>false
theorem QvV{h w:Int}{d:Qc}(q:Qiu h w d=true):∃p:Int×Int,d=pairD p/\0<=p.1/\p.1<h/\0<=p.2/\p.2<w:=by
 cases d<;>first | (cases q;done) | skip
 rename_i ds
 match ds,q with
 |[a,b],q=>
  have q:=Q4.mp (show(inW a 0 (h - 1)&&inW b 0 (w - 1))=true from q);obtain⟨i,rfl,i1,i2⟩:=QvZ q.1;obtain⟨j,rfl,j1,j2⟩:=QvZ q.2;exact⟨(i,j),rfl,i1,by show i<h;omega,j1,by show j<w;omega⟩
 |[],q=>cases q
 |[_],q=>cases q
 |_::_::_::_,q=>cases q
theorem QvU{h w:Int}{p:Int×Int}(h1:0<=p.1)(h2:p.1<h)(h3:0<=p.2)(h4:p.2<w):Qiu h w (pairD p)=true:=by
 show(inW (.int p.1) 0 (h - 1)&&inW (.int p.2) 0 (w - 1))=true;rw[QvY h1 (by omega),QvY h3 (by omega)];rfl
def toP:Qc->Int×Int
 |.tuple [.int a,.int b]=>(a,b)
 |_=>(0,0)
theorem QtR(p:Int×Int):(pairD p).depth<=1:=by
 show Qez [.int p.1,.int p.2]+1<=1;simp[Qez,J6]
def plt(p q:Int×Int):Prop:=p.1<q.1∨(p.1=q.1/\p.2<q.2)
theorem Qcx(p q:Int×Int):Jd (pairD p) (pairD q)=decide (p=q):=by
 show((p.1 == q.1)&&((p.2 == q.2)&&true))=_;obtain⟨a,b⟩:=p;obtain⟨c,d⟩:=q;by_cases h1:a=c
 ·by_cases h2:b=d
  ·subst h1 h2;simp
  ·simp[h1,h2]
 ·simp[h1]
theorem QaS(cs:List (Int×Int))(p:Int×Int):((cs.map pairD).any λc=>Jd c (pairD p))=decide (p∈cs):=by
 rw[Qkh,ZC,QeD,decide_eq_true_iff];constructor
 ·rintro⟨c,hc,h⟩;have:c=p:=of_decide_eq_true (by rw[<- Qcx];exact h);rw[<- this];exact hc
 ·intro h;refine⟨p,h,?_⟩;show Jd (pairD p) (pairD p)=true;rw[Qcx];simp
def bdD(h w:Int)(cs:List (Int×Int)):Qc:=.tuple [.int h,.int w,.tuple (cs.map pairD)]
def QlC:DF:=λargs R _=>∃(h w:Int)(d:Qc),args=[.v (.int h),.v (.int w),.v d]/\R (.bool (Qiu h w d))
def inL(n:Int):Qc->Bool
 |.int i=>decide (0<=i)&&decide (i<n)
 |_=>false
theorem Qmy(n:Int)(d:Qc):inL n d=inW d 0 (n - 1):=by
 cases d<;>first | rfl | skip
 rename_i i
 show(decide (0<=i)&&decide (i<n))=(decide (0<=i)&&decide (i<=n - 1));rw[show decide (i<n)=decide (i<=n - 1) from decide_eq_decide.mpr (by omega)]
def QdN(r n:Nat)(f:Nat->Nat->Bool):List (Int×Int):=((QY n).filter (f r)).map λ(c:Nat)=>((r:Int),(c:Int))
def cellsF(h w:Nat)(f:Nat->Nat->Bool):List (Int×Int):=(QY h).flatMap λr=>QdN r w f
def Qur(f:Nat->Nat->Bool)(i j:Nat)(b:Bool):Nat->Nat->Bool:=λr c=>if r=i/\c=j then b else f r c
theorem YV(h w:Nat)(f:Nat->Nat->Bool):cellsF (h+1) w f=cellsF h w f++QdN h w f:=by
 unfold cellsF;rw[Qgb,Qc9];simp
theorem Qcs{r n:Nat}{f:Nat->Nat->Bool}{p:Int×Int}:p∈QdN r n f↔∃c:Nat,c<n/\f r c=true/\p=((r:Int),(c:Int)):=by
 unfold QdN;rw[QH];constructor
 ·rintro⟨c,hc,rfl⟩;have hc:=Zj.mp hc;exact⟨c,JI.mp hc.1,hc.2,rfl⟩
 ·rintro⟨c,hc,hf,rfl⟩;exact⟨c,Zj.mpr ⟨JI.mpr hc,hf⟩,rfl⟩
theorem JK{h w:Nat}{f:Nat->Nat->Bool}{p:Int×Int}:p∈cellsF h w f↔∃r c:Nat,r<h/\c<w/\f r c=true/\p=((r:Int),(c:Int)):=by
 unfold cellsF;rw[List.mem_flatMap];constructor
 ·rintro⟨r,hr,hp⟩;obtain⟨c,hc,hf,rfl⟩:=Qcs.mp hp;exact⟨r,c,JI.mp hr,hc,hf,rfl⟩
 ·rintro⟨r,c,hr,hc,hf,rfl⟩;exact⟨r,JI.mpr hr,Qcs.mpr ⟨c,hc,hf,rfl⟩⟩
theorem QaR{h w:Nat}{f:Nat->Nat->Bool}{p:Int×Int}(q:p∈cellsF h w f):0<=p.1/\p.1<h/\0<=p.2/\p.2<w:=by
 obtain⟨r,c,hr,hc,_,rfl⟩:=JK.mp q;exact⟨QpK _,by show(r:Int)<h;omega,QpK _,by show(c:Int)<w;omega⟩
theorem Qid(r n:Nat)(f:Nat->Nat->Bool):(QdN r n f).length<=n:=by
 unfold QdN;rw[Qg];exact QL (List.length_filter_le _ _) (by rw[Q8];exact Qh _)
theorem ZZ(w:Nat)(f:Nat->Nat->Bool):∀h,(cellsF h w f).length<=h*w
 |0=>Je _
 |h+1=>by
  have:=ZZ w f h;have:=Qid h w f;rw[YV,Qv,Nat.succ_mul];omega
theorem Qsr(r n:Nat)(f:Nat->Nat->Bool):(QdN r n f).Pairwise plt:=by
 unfold QdN;refine Qxx (R:=λa b=>a<b) _ (λa b hab=>.inr ⟨rfl,by show(a:Int)<b;omega⟩) ?_
 exact Qxy _ List.pairwise_lt_range
theorem pw_cellsF(w:Nat)(f:Nat->Nat->Bool):∀h,(cellsF h w f).Pairwise plt
 |0=>.nil
 |h+1=>by
  rw[YV];refine List.pairwise_append.mpr ⟨pw_cellsF w f h,Qsr h w f,λp hp q hq=>?_⟩;obtain⟨r,c,hr,_,_,rfl⟩:=JK.mp hp;obtain⟨c',_,_,rfl⟩:=Qcs.mp hq;exact .inl (by show(r:Int)<h;omega)
theorem QdS{p q:Int×Int}(h:plt p q):p≠q:=λe=>by subst e;rcases h with z | z<;>omega
def QhD:DF:=λargs R _=>∃(d:Qc)(h w:Int),args=[.v d,.v (.int h),.v (.int w)]/\R (.bool (Qiu h w d))
def Qsc(cs:List (Int×Int))(r:Int):List (Int×Int):=cs.filter λp=>decide (p.1=r)
def QzH(cells L:List (Int×Int)):List (List (Int×Int)):=(cells.filter λc => !decide (c.2∈L.map (·.2))).map λc=>L++[c]
def QxT(cs:List (Int×Int)):Nat->List (List (Int×Int))
 |0=>[[]]
 |i+1=>QxT cs i++(QxT cs i).flatMap (QzH (Qsc cs i))
def sH(ns:List Int):Nat:=(max (ns.getLastD 0) 1).toNat
theorem QhH{α β:Type}{g:α->Option β}{p:α->Bool}{k:α->β}:∀{xs:List α},(∀x∈xs,g x=if p x=true then some (k x) else none)->xs.filterMap g=(xs.filter p).map k
 |[],_=>rfl
 |x::xs,h=>by
  have ih:=QhH (xs:=xs) λy hy=>h y (.tail _ hy)
  by_cases z:p x=true
  ·rw[List.filterMap_cons_some (by rw[h x (.head _),if_pos z]),ih,QhW z];rfl
  ·rw[List.filterMap_cons_none (by rw[h x (.head _),if_neg z]),ih,QhX z]
@[irreducible] def QoU:List Qc->(Qc->Prop)->Prop:=Qtw
theorem Qps:QcC (λxs H Q=>∃i j,xs=[.int i,.int j]/\Q (.int (if j<i then j else i)) H) QoU:=by unfold QoU;exact Qt2
theorem Qtv{i j k:Int}{Q:Qc->Prop}(e:(if j<i then j else i)=k)(h:Q (.int k)):QoU [.int i,.int j] Q:=by
 unfold QoU;show Q (.int (if j<i then j else i));rw[e];exact h
theorem Qiz(g:Int×Int->Bool)(cs:List (Int×Int)):(cs.map pairD).filterMap (λd=>if g (toP d)=true then some d else none)=(cs.filter g).map pairD:=by
 rw[ZG];exact QhH (p:=g) (k:=pairD) λp _=>rfl
theorem QtZ{items:List Qc}{wg wg2:DG}{wt wt2:DT}{wi2:DI}{we:DE}{δ:Sts}{Q:Qc->Prop}(G:Qc->List Qc)(k:Nat)(hl:(items.flatMap G).length<=k)
  (h:∀d∈items,∀(acc:List Qc)(N:List Qc->Prop),acc.length+(G d).length<=k->N (acc++G d)->wg d δ λδ4=>wt δ4 (λb=>if b=true then wi2 δ4 (λitems2=>InR items2 wg2 wt2 we δ4 acc N) XF else N acc) XF)(q:Q (.list (items.flatMap G))) :
  QiQ items wg wt wi2 wg2 wt2 we δ Q:=by
 unfold QiQ;refine⟨λi acc=>acc=(items.take i).flatMap G,by simp,λi acc d hd e=>?_,λacc e=>by rw[e,Zm];exact q⟩;have e:acc=(items.take i).flatMap G:=e;have hs:(items.take (i+1)).flatMap G=(items.take i).flatMap G++G d:=by
  rw[Zx,hd,Qc9];simp
 refine h d (Q3 hd) acc _ ?_ (by show acc++G d=_;rw[hs,e])
 have h1:(items.flatMap G).length=((items.take (i+1)).flatMap G).length+((items.drop (i+1)).flatMap G).length:=by
  rw[<- Qv,<- Qc9,List.take_append_drop]
 rw[hs,<- e,Qv] at h1;omega
end Rk
namespace Rv
theorem QuO:isSubtype (.type "range_iterator") (.type "reversed")=pure false:=by rw[isSubtype_type];kernel_rfl
section
variable{prog:Qw}{w:Ja}{A:Q9}{E:Value->Shared->Prop}{s:Shared}
def Qgu(a b:Int):Obj:={ cls:=.type "range_iterator",data:=.fields #[rawInt (a+(Zi a b 1 - 1)*1),rawInt (Zi a b 1),rawInt (-1)] }
theorem Qj0{r:Addr}{j:Int}{t u v:Tok}{Q:Value->Shared->Prop}(hr:IsRange s.heap r 0 j 1 t u v)(h0 : -1000<=j)(h1:j<=1000)
  (h:Q (.ref s.heap.objs.size) { s with heap:=s.heap.push (Qgu 0 j) }):wpAny (model prog w) A (call (.builtin "range.__reversed__") [.ref r]) Q E s:=by
 refine J8 QcJ ⟨_,hr,rfl⟩ F.entry_range_reversed ?_ (F.args_range_reversed_1 _)
 unfold QbM.«range.__reversed__»;refine wpAny_bind (Ya (a:=QQ r) rfl ?_);refine wpAny_bind ?_
 unfold QxI;refine wpAny_bind (J3 hr rfl (x:=.int 0 t) rfl ?_);refine wpAny_bind (Ya (a:=some 0) rfl ?_);refine wpAny_bind (J3 hr rfl (x:=.int j u) rfl ?_);refine wpAny_bind (Ya (a:=some j) rfl ?_);refine wpAny_bind (J3 hr rfl (x:=.int 1 v) rfl ?_);refine wpAny_bind (Ya (a:=some 1) rfl ?_);refine Qf ?_
 dsimp only
 have hz:Zi 0 j 1=if 0<j then j else 0:=by rw[Qnp];split<;>omega
 have fit:∀x:Int,-2000<=x->x<=2000->Js x=true:=λx a b=>by
  unfold Js;simp only[JP,decide_eq_true_eq];omega
 have hs:(Js 0&&Js j&&Js 1&&Js (-1)&&Js (0 - 1)&&Js (Zi 0 j 1))=true:=by
  rw[fit 0 (by decide) (by decide),fit j (by omega) (by omega),fit 1 (by decide) (by decide),fit (-1) (by decide) (by decide),fit (0 - 1) (by decide) (by decide),fit _ (by rw[hz];split<;>omega) (by rw[hz];split<;>omega)];rfl
 rw[hs,if_neg (by decide),if_pos rfl];exact wpAny_bind (Jy (Qf ⟨_,rfl,h⟩))
theorem Qpw{r:Addr}{j:Int}{t u v:Tok}{Q:Value->Shared->Prop}(hr:IsRange s.heap r 0 j 1 t u v)(h0 : -1000<=j)(h1:j<=1000)
  (h:Q (.ref s.heap.objs.size) { s with heap:=s.heap.push (Qgu 0 j) }):codeAny (model prog w) A (.call (.builtin "reversed.__new__") ⟨[.type "reversed",.ref r],[]⟩) (wants Q E) s:=by
 have hT:s.TypeIs (.ref r) "range" := ⟨_,hr,rfl⟩;refine codeAny_of_tree ?_
 show wpAny _ A.in1 (do checkBuiltinCall "reversed.__new__" ⟨[.type "reversed",.ref r],[]⟩;again (.builtin "reversed.__new__" ⟨[.type "reversed",.ref r],[]⟩)) _ _ s;refine wpAny_bind (Ya (F.newCall_reversed_1 _) (Qf ⟨plainId_quiet QpM _,codeAny_builtin F.entry_reversed_new ?_⟩));rw[Around.under_plainId QpM _];unfold QbM.«reversed.__new__»;refine wpAny_bind (Ya (newClass_reversed _) ?_)
 dsimp only
 refine wpAny_bind (Ya (a:=()) (by first | rfl | kernel_rfl) ?_);refine wpAny_bind (Ya (a:=()) (by first | rfl | kernel_rfl) ?_)
 try dsimp only
 refine wpAny_bind (Qdo hT QcJ.lookup ?_)
 try dsimp only
 refine wpAny_bind (Ya (QcJ.bind _) ?_)
 try dsimp only
 first
 |rw[if_neg (show ¬((YR "range.__reversed__" == Q6)=true) from Qp)]
 |(show wpAny _ _ (if(YR "range.__reversed__" == Q6)=true then _ else _) _ _ _;rw[if_neg (show ¬((YR "range.__reversed__" == Q6)=true) from Qp)])
 refine wpAny_bind (wpAny_rule ?_);refine wpAny_bind (m:=runValue (.call (.builtin "range.__reversed__") ⟨[.ref r],[]⟩)) (show wpAny _ _ (call (.builtin "range.__reversed__") [.ref r]) _ _ _ from Qj0 hr h0 h1 ?_)
 first
 |exact Qf h
 |exact wpAny_bind (Qf (Qf h))
theorem Qm0{r:Addr}{j:Int}{t u v:Tok}{Q:Value->Shared->Prop}(hr:IsRange s.heap r 0 j 1 t u v)(h0 : -1000<=j)(h1:j<=1000)
  (h:Q (.ref s.heap.objs.size) { s with heap:=s.heap.push (Qgu 0 j) }):wpAny (model prog w) A (call (.type "reversed") [.ref r]) Q E s:=by
 refine callType_other (U := "range_iterator") (Q₁:=λobj s₁=>obj=.ref s.heap.objs.size/\s₁={ s with heap:=s.heap.push (Qgu 0 j) }) (by decide +kernel) F.create_reversed ⟨_,_,F.mro_reversed⟩ F.made_reversed QuO (F.typeCall_reversed_1 _) (Qpw hr h0 h1 ⟨rfl,rfl⟩) ?_
 rintro obj s₁ ⟨rfl,rfl⟩;exact⟨⟨_,Qs _ rfl,rfl⟩,h⟩
end
end Rv
namespace L2
def Itv(n:Nat):It:=⟨λi _=>i<n,λi H x H'=>H'=H/\x=.int ((n:Int) - 1 - i),λi _=>n<=i⟩
theorem QkJ{P:Qw}{w:Ja}{K:PySem.W.Frag}{tg:QX}(it:Addr)(n:Nat):Turn P w K tg (Itv n) [it] it (λi h=>Qi0 h it ((n:Int) - 1+(i:Nat)*(-1)) ((n:Int) - (i:Nat)) (-1)) where
 mem:=by simp
 obj:=λi h st b hb=>by
  have e:b=it:=by simpa using hb
  subst e;exact⟨_,st,λv z=>by
   have z':Data.fields _=Data.cell v:=z;cases z'⟩
 keep:=λi h h' st k=>k it (by simp) _ st
 item:=by
  intro X hP hw hK hc i pins s σ H E I hf st hg;subst hP hw hK;obtain⟨f0,f1,f2,f3,f4,f5⟩:=hf it (by simp);have W:=Qxf (prog:=X.prog) (w:=X.w) (I.ok.hd hc) it ((n:Int) - 1) (-1) n;refine W.item i s _ _ hg st λv h' tk hv st' kk=>?_
  obtain⟨t,rfl⟩:=hv;have I1:Inv X pins σ H { s with heap:=h',toks:=tk }:=I.turned (λb o hb e=>kk b o (by simpa using hb) e) f0 f1 f3 f4 f5;refine⟨_,rfl,QmD (s:={ s with heap:=h',toks:=tk }) (n := "range_iterator") st' rfl rfl (by decide) ⟨.int ((n:Int) - 1 - i),H,I1,⟨t,?_⟩,⟨rfl,rfl⟩,st',λb hb=>(hf b hb).1⟩⟩;rw[show(n:Int) - 1+(i:Int)*(-1)=(n:Int) - 1 - i by omega]
 done:=by
  intro X hP hw hK hc i pins s σ H E I hf st hg;subst hP hw hK;obtain⟨f0,f1,f2,f3,f4,f5⟩:=hf it (by simp);exact QpA (I.ok.hd hc) st (by have:n<=i:=hg;omega) λh' eb=>⟨rfl,I.turned (t':=s.toks) (λb o hb e=>eb b o hb e) f0 f1 f3 f4 f5⟩
 self:=λ_ _ _ _ _ st h=>QcG st h
def Qyp(ta:TA):TI:=λσ H R=>ta σ H λvs H1=>∃(r:Addr)(j:Int),vs=[.ref r]/\H1 r=some (.rng 0 j) /\ -1000<=j/\j<=1000/\R (Itv j.toNat) H1
section
variable{X:Cx}{tg:QX}
theorem QsD{a:QX}{ta:TA}{p pos:Pos}(hg:Gl X "reversed")(hm:X.mg "reversed" = none)(ha:PA X [a] ta)(hs:starEach [a] X.env=[(false,eval a X.env)]:=by rfl):PI X tg (.Call (.Name "reversed" p) [a] [] pos) (Qyp ta):=by
 intro pins s σ H R I h;refine Call_ (Qcu I hg hm boot_reversed (JJ (thn (ha pos pins s σ H _ I h) λus s1 ⟨vs,H1,I1,r1,q1⟩=>?_) hs rfl));obtain⟨r,j,e,hr,q1,q2,q⟩:=q1;subst e;obtain⟨u,rfl,ru⟩:=vals1 r1;cases(show u=QQ r from ru);obtain⟨t1,t2,t3,e⟩:=I1.hok r _ hr;refine Rv.Qm0 (show IsRange s1.heap r 0 j 1 t1 t2 t3 from e) q1 q2 ?_
 have hz:Zi 0 j 1=((j.toNat:Nat):Int):=by rw[Qnp];split<;>omega
 have it0:Qi0 (s1.heap.push (Rv.Qgu 0 j)) s1.heap.objs.size (((j.toNat:Nat):Int) - 1+((0:Nat):Int)*(-1)) (((j.toNat:Nat):Int) - ((0:Nat):Int)) (-1):=by
  have:=Qs (h:=s1.heap) (o:=Rv.Qgu 0 j) rfl;unfold Rv.Qgu at this;rw[hz,show(0:Int)+(((j.toNat:Nat):Int) - 1)*1=((j.toNat:Nat):Int) - 1+((0:Nat):Int)*(-1) by omega] at this;rw[show((j.toNat:Nat):Int) - ((0:Nat):Int)=((j.toNat:Nat):Int) by omega];unfold Rv.Qgu;rw[hz,show(0:Int)+(((j.toNat:Nat):Int) - 1)*1=((j.toNat:Nat):Int) - 1+((0:Nat):Int)*(-1) by omega];exact this
 refine QcG it0 ?_
 refine⟨s1.heap.objs.size,[s1.heap.objs.size],_,_,H1,rfl,I1.kept (t':=s1.toks) λb o e=>Qd _ e,QkJ _ j.toNat,it0,λb hb=>?_,q⟩;have e:b=s1.heap.objs.size:=by simpa using hb
 subst e;exact I1.fpOk (Qh _) (I1.hok.fresh (Qh _))
end
section
variable{X:Cx}
def Qif:V->List V->Hp->VK->Prop:=λx vs H Q=>∃l xs y,x=.ref l/\vs=[.int 0,y]/\H l=some (.lst xs)/\xs.length<sizeLine/\Q .non (upd H l (.lst (y::xs)))
theorem Qju:MtM X "list.insert" Qif:=by
 intro pins s σ H x vs v us Q I rx rv h;obtain⟨l,xs,y,rfl,rfl,hH,hz,q⟩:=h;cases rx;cases rv with
 |cons r0 rv=>
  obtain⟨u,rfl,ru⟩:=Vals.one rv;obtain⟨t,rfl⟩:=r0;obtain⟨z,its,n,r,hl,e⟩:=I.lstM hH;refine Qau F.slot_list_insert ⟨_,e,rfl⟩ F.entry_list_insert (F.args_list_insert_3 _ _ _) (AutoSeq1.list_insert_list_int_val_1 l its.toArray n 0 t u (by decide) (by rw[Qk];omega)) ⟨e,?_⟩;refine⟨.non,_,I.lset (its':=u::its) hH e (by simp) (.cons ru r) ?_,rfl,q⟩;rw[QV];omega
end
end L2
namespace Dl
open L2 _root_.Rd Rk
section
variable{X:Cx}{E:XK}{st:ZM}{i:Nat}{we:DE}
def Qsd(n:Nat):List Qc:=(QY n).map λ(i:Nat)=>.int ((n:Int) - 1 - i)
theorem QfD(n:Nat):(Qsd n).length=n:=by unfold Qsd;rw[Qg,Q8]
theorem Qie{n i:Nat}{d:Qc}(h:(Qsd n)[i]? = some d):i<n/\d=.int ((n:Int) - 1 - i):=by
 unfold Qsd at h;rw[QC] at h;by_cases z:i<n
 ·rw[JC z] at h;exact⟨z,(QB h).symm⟩
 ·rw[Jr (by rw[Q8];omega)] at h;cases h
def Qyy(w:DE):DI:=λδ Q EX=>w δ (λd=>match d with
 |.int j=>(-1000<=j/\j<=1000)/\Q (Qsd j.toNat)
 |_=>False) EX
theorem Qyj{A S:Addr->Prop}{n:Nat}{H1:Hp}(h:n<=sizeLine):ItD A S (Itv n) (Qsd n) H1:=by
 refine⟨by rw[QfD];exact h,λH2 A' _ _ _=>⟨λi d hd=>?_,?_⟩⟩
 ·obtain⟨hi,rfl⟩:=Qie hd;refine⟨hi,λx H3 hy=>?_⟩;obtain⟨rfl,rfl⟩:=hy;exact⟨Same.refl _,.int _⟩
 ·show n<=(Qsd n).length;rw[QfD];exact Qh _
theorem Qsp{m:Md}{tg e:QX}{w:DE}{p p2 pos pos2:Pos}(hg:Gl X "reversed")(hm:X.mg "reversed" = none)(hg2:Gl X "range")(hm2:X.mg "range" = none)(h:QE .P X E e w)(hs:notStar e=true:=by rfl):QI m X E tg (.Call (.Name "reversed" p) [.Call (.Name "range" p2) [e] [] pos2] [] pos) (Qyy w):=⟨by
 refine PI.imp (QsD hg hm (pa_c (Qob hg2 hm2 (pa_c h.h pa_nil hs) (by rw[Qa2 hs];rfl)) pa_nil)) λσ H R _ ⟨F,δ,R',EX,rel,hw,k,o⟩=>?_
 refine⟨F,δ,_,EX,rel,hw,λd hd v H' rel' kp vk=>?_,o⟩;cases d<;>first | exact(show False from hd).elim | skip
 obtain⟨⟨h1,h2⟩,hR⟩:=hd;rw[DP.int vk];exact⟨_,rfl,λr H2 s2 n2 e2=>⟨r,_,rfl,e2,h1,h2,k _ hR _ H2 (rel'.same s2) (kp.trans (Kp.same rel' s2)) (Qyj (Zw (Rk.Qaq (by omega))))⟩⟩⟩
def Qyw(i:Nat)(we:DE):DS:=λD δ=>match δ[i]? with
 |some (.own ds)=>we δ (λd=>ds.length<1000000/\D.nx (δ.set i (.own (d::ds)))) D.ex
 |_=>False
theorem QsS(h:PS X st (QnG (tBM X.K "list" Qif (Yy i) (Z1 (tX .D X.K E (dC (.int 0))) (Z1 (tX .D X.K E we) QbO))))):PS X st (tS X.K E (Qyw i we)):=by
 refine PS.imp h λD σ H ⟨F,δ,DD,rel,hw,en⟩=>?_
 unfold Qyw at hw;split at hw
 ·rename_i ds hd
  obtain⟨x,hx⟩:=rel.lt hd;obtain⟨l,xs,rfl,e,q,f⟩:=rel.sl i _ _ hx hd;have np:=rel.own_pot hd hx;refine⟨.ref l,hx,.inl ⟨rfl,_,SqL.of e⟩,F,δ,(λd=>d=.int 0),DD.ex,rel,rfl,λd hd0 v0 H0 rel0 kp0 vk0=>?_,en.ex⟩;subst hd0;cases vk0;refine⟨F,δ,_,DD.ex,rel0,hw,λd ⟨hl,hn⟩ v H' rel' kp vk=>?_,en.ex⟩;have kk:=kp0.trans kp;have q':=kk.das q;refine⟨l,xs,v,rfl,rfl,kk.1 _ _ np e,QN (by rw[q.length];exact hl) QhE,?_⟩;obtain⟨r2,st⟩:=rel'.mut hd hx (.cons vk q');exact en.nx.go _ hn _ _ r2 ((Stp.kp kk).trans st)
 ·exact hw.elim
theorem Qu7{y:Str}{e e0:QX}{we:DE}{apos cpos pos npos:Pos}(i:Nat)(h0:QE .D X E e0 (dC (.int 0)))(he:QE .D X E e we)(hN:X.N[i]? = some y:=by rfl)(hv:Vis X.env.scope y:=by first | exact QF rfl | exact QK (QF rfl) | exact QK (QK rfl))(hd:(y == ("__debug__" : Str))=false:=by decide)(hcd:(y == ("__classdict__" : Str))=false:=by decide)(hs0:notStar e0=true:=by rfl)(hst:notStar e=true:=by rfl)(hbase:attributeBase (.Name y npos) "insert" X.env (eval (.Name y npos) X.env)=eval (.Name y npos) X.env:=by rfl)(hfew:((backTo cpos (starEach [e0,e] X.env)).all (λx => !x.1)&&(backToKw cpos (keywordEach [] X.env)).all (λx=>x.1.isSome)&&decide ([e0,e].length+([]:List Qer).length+(if([]:List Qer).isEmpty then 0 else 1)<30))=true:=by rfl)(hline:(apos.endLine == cpos.line)=true:=by rfl)(hsw:swapsWith (.Call (.Attribute (.Name y npos) "insert" apos) [e0,e] [] cpos) none pos.line X.env=pure false:=by rfl):QS X E (.Expr (.Call (.Attribute (.Name y npos) "insert" apos) [e0,e] [] cpos) pos) (Qyw i we):=⟨QsS (Z8 (Qjn PySem.F.plainAttrs_list PySem.F.slot_list_insert PySem.F.type_list_insert Qju (pv i hN hv hd hcd) (pa_c h0.h (pa_c he.h pa_nil hst) hs0) hbase hfew hline (Qa2 hs0) (by rw[Qa2 hst];rfl)) hsw)⟩
end
end Dl
namespace Rk
open L2 _root_.Rd Dl Rt
def QpW(B:Nat->Nat->Int)(t:Nat):List Nat->Nat->Int
 |[],_=>0
 |c::cs,k=>(if t.testBit c=true then 0 else B (t ||| 2^c) k)+QpW B t cs k
theorem QdL(B:Nat->Nat->Int)(t c k:Nat):∀cs:List Nat,QpW B t (cs++[c]) k=QpW B t cs k+(if t.testBit c=true then 0 else B (t ||| 2^c) k)
 |[]=>by show _+0=0+_;omega
 |d::cs=>by
  show _+QpW B t (cs++[c]) k=_+QpW B t cs k+_;rw[QdL B t c k cs];omega
def QdD(h:Nat)(F:Nat->Int):List Qc:=(QY (h+1)).map λ(k:Nat)=>.int (F k)
def Qi7(h w:Nat)(B:Nat->Nat->Int):List Qc:=(QY (2^w)).map λ(t:Nat)=>.list (QdD h (B t))
def QdM(B:Nat->Nat->Int)(cols:List Nat)(t k:Nat):Int:=B t k+if k=0 then 0 else QpW B t cols (k - 1)
def Qpp(cs:List (Int×Int))(r:Nat):List Nat:=(Qsc cs r).map λp=>p.2.toNat
def Wc(cs:List (Int×Int))(h:Nat):Nat->Nat->Nat->Int
 |0,_,k=>if k=0 then 1 else 0
 |i+1,t,k=>QdM (Wc cs h i) (Qpp cs (h - 1 - i)) t k
def QpQ(cs:List (Int×Int))(h w:Nat):Nat->List Qc
 |0=>[.list (Qi7 h w (Wc cs h 0))]
 |i+1=>.list (Qi7 h w (Wc cs h (i+1)))::QpQ cs h w i
def QtE(ns:List Nat):List Qc:=ns.map λ(c:Nat)=>.int (c:Int)
def QiI(cs:List (Int×Int))(h w:Nat):List Qc:=(QY (min h w+1)).map λ(k:Nat)=>.int (Wc cs h h 0 k)
def Qtu:DF:=λargs R _=>∃(h w:Nat)(cs:List (Int×Int)),args=[.v (bdD h w cs)]/\R (.int ((min h w:Nat):Int))
def QrO:DF:=λargs R _=>∃(h w:Nat)(B:Nat->Nat->Int)(cols:List Nat)(t:Nat),args=[.v (.list (Qi7 h w B)),.v (.list (QtE cols)),.v (.int t)]/\t<2^w/\(∀c∈cols,c<w)/\h<=6/\w<=6/\R (.list (QdD h (QdM B cols t)))
def QrP:DF:=λargs R _=>∃(h w:Nat)(cs:List (Int×Int)),args=[.v (bdD h w cs)]/\h<=6/\w<=6/\(∀p∈cs,0<=p.2/\p.2<w)/\R (.list (QpQ cs h w h))
def Qf2:DF:=λargs R _=>∃(h w:Nat)(cs:List (Int×Int)),args=[.v (bdD h w cs)]/\h<=6/\w<=6/\(∀p∈cs,0<=p.2/\p.2<w)/\R (.list (QiI cs h w))
theorem QcR{h k:Nat}{F:Nat->Int}(hk:k<=h):(QdD h F)[k]? = some (.int (F k)):=by
 unfold QdD;rw[QC,JC (by omega)];rfl
theorem QbC(h:Nat)(F:Nat->Int):(QdD h F).length=h+1:=by unfold QdD;rw[Qg,Q8]
theorem Qho{h w t:Nat}{B:Nat->Nat->Int}(ht:t<2^w):(Qi7 h w B)[t]? = some (.list (QdD h (B t))):=by
 unfold Qi7;rw[QC,JC ht];rfl
theorem QaM{h:Nat}{F G:Nat->Int}(e:∀k,k<=h->F k=G k):QdD h F=QdD h G:=by
 unfold QdD;refine ZB λk hk=>?_
 rw[e k (by have:=JI.mp hk;omega)]
theorem Qn1{h j:Nat}{F:Nat->Int}{v:Int}(hj:j<=h):(QdD h F).set j (.int v)=QdD h (λk=>if k=j then v else F k):=by
 apply Qbg
 intro k;rw[Qei];by_cases z:j=k
 ·subst z;rw[if_pos rfl,if_pos (by rw[QbC];omega),QcR hj,if_pos rfl]
 ·rw[if_neg z];by_cases z2:k<=h
  ·rw[QcR z2,QcR z2,if_neg (λe=>z e.symm)]
  ·rw[Jr (by rw[QbC];omega),Jr (by rw[QbC];omega)]
theorem cut_last(xs:List Qc):Dl.cutD xs none (some (-1))=xs.take (xs.length - 1):=by
 unfold Dl.cutD;rw[HT.Qib,Qg9,Qkv]
 congr 1
 have e:HT.sIx xs.length xs.length (some (-1))=((-1:Int)+(xs.length:Int)).toNat:=by unfold HT.sIx;dsimp only;rw[if_pos (by decide)]
 rw[e];omega
theorem Qua:∀t:Fin 64,∀c:Fin 6,Qce ((t:Nat):Int) (1*2^((c:Nat):Int).toNat)=if(t:Nat).testBit c=true then 2^(c:Nat) else 0:=by decide +kernel
theorem Qwv:∀t:Fin 64,∀c:Fin 6,QcK ((t:Nat):Int) (1*2^((c:Nat):Int).toNat)=(((t:Nat) ||| 2^(c:Nat):Nat):Int):=by decide +kernel
theorem Qx9{t c w:Nat}(ht:t<2^w)(hc:c<w):t ||| 2^c<2^w:=Nat.or_lt_two_pow ht (Nat.pow_lt_pow_right (by decide) hc)
theorem Qn3(h:Nat)(F:Nat->Int):Dl.cutD (QdD h F) none (some (-1))=(QY h).map λ(k:Nat)=>QD (F k):=by
 rw[cut_last,QbC];unfold QdD;rw[<- QwM,QpF,Quo,QuB (Qnw h)]
theorem Que{t c w:Nat}(ht:t<2^w)(hc:c<w)(w6:w<=6):Qce (t:Int) (1*2^((c:Nat):Int).toNat)=if t.testBit c=true then 2^c else 0:=by
 have h64:2^w<=2^6:=QcH (by decide) w6;exact Qua ⟨t,by have e:2^6=64:=rfl;omega⟩ ⟨c,by omega⟩
theorem Qvz{t c w:Nat}(ht:t<2^w)(hc:c<w)(w6:w<=6):QcK (t:Int) (1*2^((c:Nat):Int).toNat)=((t ||| 2^c:Nat):Int):=by
 have h64:2^w<=2^6:=QcH (by decide) w6;exact Qwv ⟨t,by have e:2^6=64:=rfl;omega⟩ ⟨c,by omega⟩
theorem QfK(w:Nat):(1*2^((w:Nat):Int).toNat:Int)=((2^w:Nat):Int):=by
 rw[Int.one_mul,Qy];simp
theorem Qwn(cs:List (Int×Int))(r:Nat)(hb:∀p∈cs,0<=p.2):(cs.map pairD).filterMap (λd=>if(toP d).1=(r:Int) then some (.int (toP d).2) else none)=QtE (Qpp cs r):=by
 unfold QtE Qpp Qsc;rw[ZG,Q1];refine QhH (p:=λp:Int×Int=>decide (p.1=(r:Int))) λp hp=>?_
 show(if p.1=(r:Int) then some (QD p.2) else none)=if decide (p.1=(r:Int))=true then some (QD ((p.2.toNat:Nat):Int)) else none
 rw[show((p.2.toNat:Nat):Int)=p.2 by have:=hb p hp;omega];by_cases z:p.1=(r:Int)
 ·rw[if_pos z,if_pos (decide_eq_true z)]
 ·rw[if_neg z,if_neg (by simpa using z)]
theorem QtX{cs:List (Int×Int)}{w r c:Nat}(hb:∀p∈cs,0<=p.2/\p.2<w)(h:c∈Qpp cs r):c<w:=by
 unfold Qpp Qsc at h;obtain⟨p,hp,rfl⟩:=QH.mp h;have:=hb p (Zj.mp hp).1;omega
theorem Qh3(cs:List (Int×Int))(h w:Nat):∀i,(QpQ cs h w i).length=i+1
 |0=>rfl
 |i+1=>by show(QpQ cs h w i).length+1=_;rw[Qh3 cs h w i]
theorem QkM(cs:List (Int×Int))(h w:Nat):∀i,(QpQ cs h w i)[0]? = some (.list (Qi7 h w (Wc cs h i)))
 |0=>rfl
 |_+1=>rfl
theorem Qn2(cs:List (Int×Int))(h t:Nat):QdD h (Wc cs h 0 t)=QD 1::QZ h (.int 0):=by
 apply Qbg
 intro k;cases k with
 |zero=>rw[QcR (Je _)];rfl
 |succ k=>
  by_cases z:k+1<=h
  ·rw[QcR z,Z4,YW,if_pos (by omega)];rfl
  ·rw[Jr (by rw[QbC];omega),Z4,YW,if_neg (by omega)]
theorem Qsf(h:Nat):(QZ h [QD 0]).flatten=QZ h (.int 0):=by
 induction h with
 |zero=>rfl
 |succ h ih=>rw[Zg,ZU,ih];rfl
theorem Qp7{w:Nat}(h:w<=6) : -1000000<=(1*2^((w:Nat):Int).toNat:Int)/\(1*2^((w:Nat):Int).toNat:Int)<=1000000:=by
 have p64:2^w<=64:=QcH (n:=2) (by decide) h;rw[QfK];generalize 2^w=x at p64;omega
def sumZ{α:Type}(f:α->Int):List α->Int
 |[]=>0
 |x::xs=>f x+sumZ f xs
theorem Qa1{α:Type}(f:α->Int):∀a b:List α,sumZ f (a++b)=sumZ f a+sumZ f b
 |[],b=>by show _=0+_;rw[QeE];rfl
 |x::a,b=>by show _+sumZ f (a++b)=_+sumZ f a+_;rw[Qa1 f a b];omega
theorem QbV{α:Type}(f:α->Int)(p:α->Bool):∀a:List α,sumZ f (a.filter p)=sumZ (λx=>if p x=true then f x else 0) a
 |[]=>rfl
 |x::a=>by
  by_cases z:p x=true
  ·rw[QhW z];show f x+_=(if p x=true then f x else 0)+_;rw[if_pos z,QbV f p a]
  ·rw[QhX z];show _=(if p x=true then f x else 0)+_;rw[if_neg z,QbV f p a,QeE]
theorem Qh5{α β:Type}(f:β->Int)(g:α->β):∀a:List α,sumZ f (a.map g)=sumZ (λx=>f (g x)) a
 |[]=>rfl
 |x::a=>by show _+sumZ f (a.map g)=_+_;rw[Qh5 f g a]
theorem sumZ_zero{α:Type}:∀a:List α,sumZ (λ_=>0) a=0
 |[]=>rfl
 |x::a=>by show 0+sumZ _ a=0;rw[sumZ_zero a];rfl
theorem Qpr{cs:List (Int×Int)}{h w:Nat}{d:Qc}(hd:d∈QiI cs h w):∃i,d=.int i:=by
 unfold QiI at hd;obtain⟨k,_,rfl⟩:=QH.mp hd;exact⟨_,rfl⟩
theorem Qpq(cs:List (Int×Int))(h w:Nat):(QiI cs h w).length=min h w+1:=by unfold QiI;rw[Qg,Q8]
end Rk
namespace L2
section
variable{X:Cx}
def Qu2(K:PySem.W.Frag):List V->Hp->VK->Prop:=λxs H Q=>∃(p:Addr)(ns:List Int),xs=[.ref p]/\SqL K H p (ns.map V.int)/\0<ns.length/\∀m,m∈ns->(∀y∈ns,y<=m)->Q (.int m) H
theorem QgU(hc:X.calm=true):CallR X (.builtin "max") (Qu2 X.K):=by
 intro pins s σ H xs us Q I r h;obtain⟨p,ns,rfl,hp,hn,q⟩:=h;obtain⟨u,rfl,ru⟩:=vals1 r;cases ru;obtain⟨its,rv,pl,hz⟩:=I.list hp;have hi:Qes its ns:=intsAre_of rv;obtain⟨ys,hx⟩:=hi.allInts.items;have hl':s.heap.IsList p (intItems ys):=hx ▸ pl.isList;have hsz:ys.size=ns.length:=by
  have h1:its.toArray.size=(intItems ys).size:=by rw[hx]
  rw[Qk,hi.length] at h1;simp[intItems] at h1;omega
 have num:∀j m,ns[j]? = some m->numAt ys j=m:=λj m e=>by
  obtain⟨w,hw,rw'⟩:=rv.get (i:=j) (x:=V.int m) (by rw[QC,e];rfl);have h2:(intItems ys)[j]? = some w:=by rw[<- hx,Qkf];exact hw
  unfold intItems at h2;rw[Array.getElem?_map] at h2;obtain⟨y,hy,ey⟩:=JH.mp h2;unfold numAt;rw[hy];subst ey;obtain⟨t,et⟩:=rw';cases et;rfl
 refine max_intList (I.ok.hd hc) hl' (by omega) λv h' tk hv hk=>?_
 rw[<- hx] at hv;rw[Qkf] at hv;have ab:=argBest_gt (numAt ys) (ys.size - 1);generalize argBest (λi j=>decide (numAt ys i > numAt ys j)) (ys.size - 1)=b at *;obtain⟨x,hx2,rx⟩:∃x,(ns.map V.int)[b]? = some x/\RelV x v:=by
  have hlen:=rv.length;have hlt:=(Q2.mp hv).1;cases e:(ns.map V.int)[b]? with
  |none=>
   have:=List.getElem?_eq_none_iff.mp e
   omega
  |some x=>
   obtain⟨w,hw,rw'⟩:=rv.get e;rw[hw] at hv;cases hv;exact⟨x,rfl,rw'⟩
 rw[QC] at hx2;obtain⟨m,hm,rfl⟩:=JH.mp hx2;refine⟨.int m,H,I.kept hk,rx,q m (Q3 hm) λy hy=>?_⟩;obtain⟨j,hj⟩:=J7.mp hy;have hjl:=(Q2.mp hj).1;have:=ab.2 j (by omega);rw[num b m hm,num j y hj] at this;exact this
end
end L2
namespace Dl
open L2 _root_.Rd Rk
@[irreducible] def Qmj:List Qc->(Qc->Prop)->Prop
 |[.list ds],Q=>∃ns,Qee ds=some ns/\0<ns.length/\∀m,m∈ns->(∀y∈ns,y<=m)->Q (.int m)
 |_,_=>False
theorem QmW{K:PySem.W.Frag}:QcC (Qu2 K) Qmj:=λA P H vs ds R Q ln dm q h k=>by
 unfold Qmj at h;split at h
 ·obtain⟨v,rfl,hv⟩:=pd1 q;obtain⟨bs,hb,h0,hR⟩:=h;rw[Qmv hb] at hv;obtain⟨l,xs,rfl,e,qq⟩:=hv.list;rw[QiF qq] at e;exact⟨l,bs,rfl,SqL.of e,h0,λm h1 h2=>k _ (hR m h1 h2) _ H (Same.refl H) (.int _) Qar⟩
 ·exact h.elim
theorem Qmi{ns:List Int}{Q:Qc->Prop}(h:0<ns.length)(k:∀m,m∈ns->(∀y∈ns,y<=m)->Q (.int m)):Qmj [.list (ns.map QD)] Q:=by
 unfold Qmj;exact⟨ns,ints_map ns,h,k⟩
end Dl
namespace Rk
open L2 _root_.Rd Dl Rt
def Qf7(cs:List (Int×Int))(h w m:Nat):Prop:=m<=min h w/\0<Wc cs h h 0 m/\∀k,k<=min h w->0<Wc cs h h 0 k->k<=m
def Bds(h w:Nat)(cs:List (Int×Int)):Prop:=h<=6/\w<=6/\∀p∈cs,0<=p.1/\p.1<h/\0<=p.2/\p.2<w
def QmC:DF:=λargs R _=>∃(h w:Nat)(cs:List (Int×Int)),args=[.v (bdD h w cs)]/\Bds h w cs/\∀m,Qf7 cs h w m->R (.int (m:Int))
theorem Bds.col{h w:Nat}{cs:List (Int×Int)}(b:Bds h w cs):∀p∈cs,0<=p.2/\p.2<(w:Int):=λp hp=>(b.2.2 p hp).2.2
theorem Qnf(cs:List (Int×Int))(h:Nat):∀i t,Wc cs h i t 0=1
 |0,_=>rfl
 |i+1,t=>by
  show Wc cs h i t 0+(if 0=0 then 0 else _)=1;rw[if_pos rfl,Qnf cs h i t];rfl
end Rk
namespace Dl
open L2 _root_.Rd Rk
section
variable{X:Cx}{E:XK}{st:ZM}{we:DE}
end
end Dl
namespace Rk
open L2 _root_.Rd Dl Rt
structure GB (h w:Nat) (cs:List (Int×Int)):Prop where
 bds:Bds h w cs
 srt:cs.Pairwise plt
 few:(QxT cs h).length<=200000
theorem GB.r0{h w:Nat}{cs:List (Int×Int)}(g:GB h w cs):∀p∈cs,0<=p.1:=λp hp=>(g.bds.2.2 p hp).1
end Rk
namespace L2
section
variable{X:Cx}
end
end L2
namespace Dl
open L2 _root_.Rd Rk Rt
end Dl
namespace Rk
open L2 _root_.Rd Dl Rt
end Rk
namespace L2
open _root_.Rd
section
variable{X:Cx}
end
end L2
namespace Dl
open L2 _root_.Rd Rk Rt
section
variable{X:Cx}{E:XK}
end
end Dl
namespace Rk
open L2 _root_.Rd Dl Rt
def QgB(f:Nat->Nat->Bool):Nat->Nat->Bool:=λr c => !f r c
theorem Qp0(w:Nat)(f:Nat->Nat->Bool){r:Nat}:∀h,r<h->Qsc (cellsF h w f) r=QdN r w f
 |h+1,hr=>by
  unfold Qsc;rw[YV,List.filter_append];have no:∀(q:Nat)(L:List (Int×Int)),(∀p∈L,p.1≠(r:Int))->L.filter (λp=>decide (p.1=(r:Int)))=[]:=λq L hL=>by
   rw[QiZ];intro p hp;rw[decide_eq_false (hL p hp)];exact Qp
  by_cases z:r<h
  ·have ih:=Qp0 w f h z;unfold Qsc at ih;rw[ih,no 0 _ λp hp=>?_,ZV];obtain⟨c,_,_,rfl⟩:=Qcs.mp hp;show(h:Int)≠r;omega
  ·have e:r=h:=by omega
   subst e;rw[no 0 (cellsF r w f) λp hp=>?_,Qup,List.filter_eq_self.mpr λp hp=>?_]
   ·obtain⟨c,_,_,rfl⟩:=Qcs.mp hp;exact decide_eq_true rfl
   ·have:=(QaR hp).2.1;omega
theorem Qwo{h w r:Nat}(f:Nat->Nat->Bool)(hr:r<h):Qpp (cellsF h w f) r=(QY w).filter (f r):=by
 unfold Qpp;rw[Qp0 w f h hr];unfold QdN;rw[Q1]
 conv=>rhs;rw[<- Qnn ((QY w).filter (f r))]
 exact ZB λc _=>by show((c:Int)).toNat=c;omega
abbrev Tb:=List (List Int×Int)
def Qbw(L:Tb):List (List Key×V):=L.map λp=>(p.1.map JS,V.int p.2)
def getT(L:Tb)(ks:List Int):Option Int:=(L.find? λp=>decide (p.1=ks)).map (·.2)
def Qkk(L:Tb)(ks:List Int)(v:Int):Tb:=if(L.any λp=>decide (p.1=ks))=true then L.map (λp=>if p.1=ks then(p.1,v) else p) else L++[(ks,v)]
theorem QfS{a b:List Int}:a.map (JS:Int->Key)=b.map JS↔a=b:=List.map_inj_right λ_ _ e=>QiT e
theorem QdK(ks:List Int):∀L:Tb,Qh1 (Qbw L) (ks.map JS)=(getT L ks).map V.int
 |[]=>rfl
 |p::L=>by
  have ih:=QdK ks L;by_cases e:p.1=ks
  ·rw[show Qbw (p::L)=(p.1.map JS,V.int p.2)::Qbw L from rfl,QbA (by rw[e])];unfold getT;rw[QiX (by simpa using e)];rfl
  ·rw[show Qbw (p::L)=(p.1.map JS,V.int p.2)::Qbw L from rfl,Qcl (λz=>e (QfS.mp z)),ih];unfold getT;rw[QiY (by simpa using e)]
theorem Qst(L:Tb)(ks:List Int)(v:Int):QfG (Qbw L) (ks.map JS) (.int v)=Qbw (Qkk L ks v):=by
 have ea:((Qbw L).any λkv=>decide (kv.1=ks.map JS))=L.any λp=>decide (p.1=ks):=by
  unfold Qbw;rw[Qkh]
  congr 1
  funext p
  exact decide_eq_decide.mpr QfS
 unfold QfG Qkk;rw[ea];split
 ·unfold Qbw;rw[Q1,Q1];refine ZB λp _=>?_
  show(if p.1.map JS=ks.map JS then(p.1.map JS,V.int v) else(p.1.map JS,V.int p.2))=_;by_cases e:p.1=ks
  ·rw[if_pos (QfS.mpr e)];show _=((if p.1=ks then(p.1,v) else p).1.map JS,V.int (if p.1=ks then(p.1,v) else p).2);rw[if_pos e]
  ·rw[if_neg (λz=>e (QfS.mp z))];show _=((if p.1=ks then(p.1,v) else p).1.map JS,V.int (if p.1=ks then(p.1,v) else p).2);rw[if_neg e]
 ·unfold Qbw;rw[JF];rfl
def Tw(φ:List Int->Int)(L:Tb):Int:=sumZ (λp=>p.2*φ p.1) L
theorem Qcv{L:Tb}{p:List Int×Int}(nd:(L.map (·.1)).Nodup)(h:p∈L):getT L p.1=some p.2:=by
 induction L with
 |nil=>cases h
 |cons q L ih=>
  have nd:=JE.mp nd;unfold getT;by_cases e:q.1=p.1
  ·rw[QiX (by simpa using e)];rcases Qz.mp h with z | z
   ·rw[z];rfl
   ·exact absurd (by show q.1∈_;rw[e];exact QH.mpr ⟨p,z,rfl⟩) nd.1
  ·rw[QiY (by simpa using e)];rcases Qz.mp h with z | z
   ·exact absurd (by rw[z]) e
   ·exact ih nd.2 z
theorem QmE{L:Tb}{ks:List Int}(h:(L.any λp=>decide (p.1=ks))=false):getT L ks=none:=by
 unfold getT;rw[List.find?_eq_none.mpr λp hp z=>by
  rw[QpJ] at h;exact h p hp z]
 rfl
theorem Qn8(L:Tb)(ks:List Int)(v:Int):∀p∈Qkk L ks v,p.1=ks∨p.1∈L.map (·.1):=λp hp=>by
 unfold Qkk at hp;split at hp
 ·obtain⟨q,hq,rfl⟩:=QH.mp hp;right
  refine QH.mpr ⟨q,hq,?_⟩;split<;>rfl
 ·rcases ZA.mp hp with z | z
  ·exact .inr (QH.mpr ⟨p,z,rfl⟩)
  ·rw[JL.mp z];exact .inl rfl
theorem Qvf{L:Tb}(nd:(L.map (·.1)).Nodup)(ks:List Int)(v:Int):((Qkk L ks v).map (·.1)).Nodup:=by
 unfold Qkk;split
 ·rw[Q1];have:((λp:List Int×Int=>p.1)∘λp=>if p.1=ks then(p.1,v) else p)=λp=>p.1:=by
   funext p
   show(if p.1=ks then(p.1,v) else p).1=p.1;split<;>rfl
  rw[this];exact nd
 ·rename_i h
  rw[JF];refine QpH.mpr ⟨nd,JE.mpr ⟨Jb,Qa7⟩,λa ha b hb e=>h ?_⟩;rw[QeD];obtain⟨p,hp,rfl⟩:=QH.mp ha;refine⟨p,hp,?_⟩;have hb:b=ks:=JL.mp hb;rw[decide_eq_true_eq,<- hb];exact e
theorem Qss(φ:List Int->Int)(ks:List Int)(n:Int):∀{L:Tb},(L.map (·.1)).Nodup->Tw φ (Qkk L ks ((getT L ks).getD 0+n))=Tw φ L+n*φ ks:=by
 intro L nd;by_cases z:(L.any λp=>decide (p.1=ks))=true
 ·unfold Qkk;rw[if_pos z];generalize hv:(getT L ks).getD 0+n=v;have key:∀M:Tb,(M.map (·.1)).Nodup->(∀p∈M,p.1=ks->p.2+n=v)->(M.any λp=>decide (p.1=ks))=true->Tw φ (M.map λp=>if p.1=ks then(p.1,v) else p)=Tw φ M+n*φ ks:=λM=>by
   induction M with
   |nil=>intro _ _ h;cases h
   |cons p M ih=>
    intro nd hm h;have nd:=JE.mp nd;show(if p.1=ks then(p.1,v) else p).2*φ (if p.1=ks then(p.1,v) else p).1+Tw φ (M.map λp=>if p.1=ks then(p.1,v) else p)=p.2*φ p.1+Tw φ M+n*φ ks;by_cases e:p.1=ks
    ·rw[if_pos e];have:(M.map λp=>if p.1=ks then(p.1,v) else p)=M:=by
      conv=>rhs;rw[<- Qnn M]
      refine ZB λq hq=>if_neg λz=>nd.1 ?_
      show p.1∈_;rw[e,<- z];exact QH.mpr ⟨q,hq,rfl⟩
     rw[this,<- hm p (.head _) e];show(p.2+n)*φ p.1+_=_;rw[e,Int.add_mul];omega
    ·rw[if_neg e,ih nd.2 (λq hq=>hm q (.tail _ hq)) (by
      rw[Yq,decide_eq_false e,QwR] at h;exact h)]
     omega
  refine key L nd (λp hp e=>?_) z;have:=Qcv nd hp;rw[e] at this;rw[this] at hv;exact hv
 ·have z:(L.any λp=>decide (p.1=ks))=false:=Yr.mpr z;rw[QmE z];unfold Qkk;rw[if_neg (by rw[z];exact Qp)];show sumZ _ (L++[(ks,0+n)])=_;rw[Qa1];show _+((0+n)*φ ks+0)=_;unfold Tw;rw[QeE];omega
def QrX:List Int->List (List Int)
 |[]=>[[]]
 |x::xs=>(QrX xs).map (x::·)++QrX xs
def fam:List (List Int):=QrX [0,1,2,3,4,5]
def insI(c:Int):List Int->List Int
 |[]=>[c]
 |x::xs=>if c<=x then c::x::xs else x::insI c xs
def mkT(ks:List Int):Nat:=ks.foldr (λc t=>t ||| 2^c.toNat) 0
theorem insI_perm(c:Int):∀ks:List Int,(insI c ks).Perm (ks++[c])
 |[]=>Qeq _
 |x::xs=>by
  unfold insI;split
  ·exact(List.perm_append_singleton c (x::xs)).symm
  ·exact(insI_perm c xs).cons x
theorem Qpb:∀ks∈fam,ks.Pairwise (·<=·):=by decide +kernel
theorem QfT:∀ks∈fam,∀c∈([0,1,2,3,4,5]:List Int),c∉ks->insI c ks∈fam/\mkT (insI c ks)=mkT ks ||| 2^c.toNat/\(insI c ks).length=ks.length+1:=by decide +kernel
theorem QtM:∀ks∈fam,∀c∈([0,1,2,3,4,5]:List Int),(mkT ks).testBit c.toNat=decide (c∈ks):=by decide +kernel
theorem Qrl:∀ks∈fam,∀c∈ks,c∈([0,1,2,3,4,5]:List Int):=by decide +kernel
theorem QhI:∀w:Fin 7,∀ks∈fam,(∀c∈ks,c<(w:Nat))->ks.length<=w:=by decide +kernel
def QjM(ks:List Int):Int:=reduceHash (QxF (ks.map hashInt))
theorem Qpc:(fam.map QjM).Nodup:=by decide +kernel
theorem Qo5(P:Qw)(w:Ja)(ks:List Int):tupleKeyHash (mixKind P w) (ks.map JS)=QjM ks:=by
 unfold tupleKeyHash QjM;rw[Q1];rfl
theorem Qk0{c:Int}(h0:0<=c)(h6:c<6):c∈([0,1,2,3,4,5]:List Int):=by
 have:c=0∨c=1∨c=2∨c=3∨c=4∨c=5:=by omega
 rcases this with rfl | rfl | rfl | rfl | rfl | rfl<;>decide
theorem QnK{ks ms:List Int}{c:Int}(hk:ks∈fam)(hc:c∈([0,1,2,3,4,5]:List Int))(hn:c∉ks)(p:ms.Perm (ks++[c]))(s:ms.Pairwise (·<=·)):ms=insI c ks:=
 Yx (le:=λa b=>a<=b) (λa b _ _ h1 h2=>Int.le_antisymm h1 h2) s (Qpb _ (QfT ks hk c hc hn).1) (p.trans (insI_perm c ks).symm)
structure TbOk (r w:Nat) (L:Tb):Prop where
 nd:(L.map (·.1)).Nodup
 mem:∀p∈L,p.1∈fam/\p.1.length<=r/\∀c∈p.1,c<(w:Int)
theorem QgC{α β:Type}{f:α->β}{l:List α}(h:(l.map f).Nodup):∀{a b:α},a∈l->b∈l->f a=f b->a=b:=by
 induction l with
 |nil=>intro a b ha;cases ha
 |cons x l ih=>
  intro a b ha hb e;have h:=JE.mp h;rcases Qz.mp ha with z | z
  ·rcases Qz.mp hb with y | y
   ·rw[z,y]
   ·exact absurd (by rw[<- z,e];exact QH.mpr ⟨b,y,rfl⟩) h.1
  ·rcases Qz.mp hb with y | y
   ·exact absurd (by rw[<- y,<- e];exact QH.mpr ⟨a,z,rfl⟩) h.1
   ·exact ih h.2 z y e
theorem QgD{α β:Type}{f:α->β}:∀{l:List α},l.Nodup->(∀a∈l,∀b∈l,f a=f b->a=b)->(l.map f).Nodup
 |[],_,_=>Qa7
 |x::l,h,q=>by
  have h:=JE.mp h;refine JE.mpr ⟨λz=>h.1 ?_,QgD h.2 λa ha b hb=>q a (.tail _ ha) b (.tail _ hb)⟩;obtain⟨y,hy,e⟩:=QH.mp z;rw[q x (.head _) y (.tail _ hy) e.symm];exact hy
theorem TbOk.hashU{r w:Nat}{L:Tb}(t:TbOk r w L)(P:Qw)(W:Ja):L2.hashU (Qbw L) P W:=by
 unfold L2.hashU Qbw;rw[Q1];have e:((λp:List Key×V=>tupleKeyHash (mixKind P W) p.1)∘λp:List Int×Int=>(p.1.map JS,V.int p.2))=λp=>QjM p.1:=by
  funext p
  exact Qo5 P W p.1
 rw[e];have e2:(L.map λp=>QjM p.1)=(L.map (·.1)).map QjM:=by rw[Q1];rfl
 rw[e2];refine QgD t.nd λa ha b hb he=>?_
 obtain⟨p,hp,rfl⟩:=QH.mp ha;obtain⟨q,hq,rfl⟩:=QH.mp hb;exact QgC Qpc (t.mem p hp).1 (t.mem q hq).1 he
theorem QfW(L:Tb):(Qbw L).length=L.length:=Qg _
theorem TbOk.len{r w:Nat}{L:Tb}(t:TbOk r w L):L.length<=64:=by
 have key:∀(M N:List (List Int)),M.Nodup->(∀x∈M,x∈N)->M.length<=N.length:=λM=>by
  induction M with
  |nil=>intro N _ _;exact Je _
  |cons x M ih=>
   intro N nd h;have nd:=JE.mp nd;have:=ih (N.erase x) nd.2 λy hy=>(List.mem_erase_of_ne (λe:y=x=>nd.1 (by rw[<- e];exact hy))).mpr (h y (.tail _ hy))
   have a:=List.length_erase_of_mem (h x (.head _));have b:0<N.length:=QbP (h x (.head _));rw[QV];omega
 have:=key (L.map (·.1)) fam t.nd λx hx=>by
  obtain⟨p,hp,rfl⟩:=QH.mp hx;exact(t.mem p hp).1
 rw[Qg] at this;exact this
theorem TbOk.put{r w:Nat}{L:Tb}(t:TbOk r w L){ks:List Int}(hk:ks∈fam/\ks.length<=r/\∀c∈ks,c<(w:Int))(v:Int):TbOk r w (Qkk L ks v):=by
 refine⟨Qvf t.nd ks v,λp hp=>?_⟩;rcases Qn8 L ks v p hp with z | z
 ·rw[z];exact hk
 ·obtain⟨q,hq,e⟩:=QH.mp z;rw[<- e];exact t.mem q hq
theorem TbOk.mono{r w:Nat}{L:Tb}(t:TbOk r w L):TbOk (r+1) w L:=⟨t.nd,λp hp=>⟨(t.mem p hp).1,Qeo (t.mem p hp).2.1,(t.mem p hp).2.2⟩⟩
def Nx(f:Nat->Nat->Bool)(r:Nat)(φ:List Int->Int)(ks:List Int)(w:Nat):Int:=sumZ (λc:Nat=>if(f r c && !decide ((c:Int)∈ks))=true then φ (insI c ks) else 0) (QY w)
def Ph(f:Nat->Nat->Bool)(h w r k:Nat)(ks:List Int):Int:=if ks.length<=k then Wc (cellsF h w f) h (h - r) (mkT ks) (k - ks.length) else 0
theorem Qfp{α:Type}(F:α->Int)(p:α->Bool):∀l:List α,sumZ F (l.filter p)=sumZ (λx=>if p x=true then F x else 0) l
 |[]=>rfl
 |x::l=>by
  rw[QrI];by_cases z:p x=true
  ·rw[if_pos z];show F x+_=(if p x=true then F x else 0)+_;rw[if_pos z,Qfp F p l]
  ·rw[if_neg z];show _=(if p x=true then F x else 0)+_;rw[if_neg z,Qfp F p l];omega
theorem QpV(B:Nat->Nat->Int)(t k:Nat):∀cs:List Nat,QpW B t cs k=sumZ (λc=>if t.testBit c=true then 0 else B (t ||| 2^c) k) cs
 |[]=>rfl
 |c::cs=>by show _+QpW B t cs k=_+_;rw[QpV B t k cs]
theorem Qa0{α:Type}{F G:α->Int}:∀{l:List α},(∀x∈l,F x=G x)->sumZ F l=sumZ G l
 |[],_=>rfl
 |x::l,h=>by show F x+_=G x+_;rw[h x (.head _),Qa0 λy hy=>h y (.tail _ hy)]
theorem Qug{f:Nat->Nat->Bool}{h w r k:Nat}(w6:w<=6)(hr:r<h){ks:List Int}(hk:ks∈fam):Ph f h w r k ks=Ph f h w (r+1) k ks+Nx f r (Ph f h w (r+1) k) ks w:=by
 have eh:h - r=(h - (r+1))+1:=by omega
 have er:h - 1 - (h - (r+1))=r:=by omega
 have go:∀c∈QY w,(if(f r c && !decide ((c:Int)∈ks))=true then Ph f h w (r+1) k (insI c ks) else 0)=if f r c=true then(if(mkT ks).testBit c=true then 0 else if ks.length+1<=k then Wc (cellsF h w f) h (h - (r+1)) (mkT ks ||| 2^c) (k - (ks.length+1)) else 0) else 0:=λc hc=>by
  have hc:=JI.mp hc;have h6:=Qk0 (c:=(c:Int)) (by omega) (by omega);have hb:=QtM ks hk c h6;rw[Qy] at hb;rw[hb];by_cases z:f r c=true
  ·rw[z,Qay];by_cases y:(c:Int)∈ks
   ·rw[decide_eq_true y];rfl
   ·rw[decide_eq_false y];obtain⟨_,e1,e2⟩:=QfT ks hk c h6 y;rw[Qy] at e1;show Ph f h w (r+1) k (insI c ks)=_;unfold Ph;rw[e1,e2];rfl
  ·have z:f r c=false:=Yr.mpr z;rw[z];rfl
 unfold Nx;rw[Qa0 go];unfold Ph;by_cases l:ks.length<=k
 ·rw[if_pos l,if_pos l,eh];show QdM (Wc (cellsF h w f) h (h - (r+1))) (Qpp (cellsF h w f) (h - 1 - (h - (r+1)))) (mkT ks) (k - ks.length)=_;unfold QdM;rw[er,Qwo f hr,QpV,Qfp]
  congr 1
  by_cases l2:k - ks.length=0
  ·rw[if_pos l2];have l3:¬ks.length+1<=k:=by omega
   symm
   have:∀c∈QY w,(if f r c=true then(if(mkT ks).testBit c=true then 0 else if ks.length+1<=k then Wc (cellsF h w f) h (h - (r+1)) (mkT ks ||| 2^c) (k - (ks.length+1)) else 0) else 0)=(0:Int):=λc _=>by
    rw[if_neg l3];split
    ·split<;>rfl
    ·rfl
   rw[Qa0 this];generalize QY w=l;induction l with
   |nil=>rfl
   |cons x l ih=>show(0:Int)+_=0;rw[ih];rfl
  ·rw[if_neg l2];refine Qa0 λc _=>?_
   rw[if_pos (by omega:ks.length+1<=k),show k - ks.length - 1=k - (ks.length+1) by omega]
 ·rw[if_neg l,if_neg l];have l3:¬ks.length+1<=k:=by omega
  have:∀c∈QY w,(if f r c=true then(if(mkT ks).testBit c=true then 0 else if ks.length+1<=k then Wc (cellsF h w f) h (h - (r+1)) (mkT ks ||| 2^c) (k - (ks.length+1)) else 0) else 0)=(0:Int):=λc _=>by
   rw[if_neg l3];split
   ·split<;>rfl
   ·rfl
  rw[Qa0 this]
  symm
  rw[QeE];generalize QY w=l;induction l with
  |nil=>rfl
  |cons x l ih=>show(0:Int)+_=0;rw[ih];rfl
theorem QyF{φ ψ:List Int->Int}{L:Tb}(h:∀p∈L,φ p.1=ψ p.1):Tw φ L=Tw ψ L:=Qa0 λp hp=>by rw[h p hp]
theorem Qry(φ ψ:List Int->Int):∀L:Tb,Tw (λks=>φ ks+ψ ks) L=Tw φ L+Tw ψ L
 |[]=>rfl
 |p::L=>by
  show p.2*(φ p.1+ψ p.1)+Tw (λks=>φ ks+ψ ks) L=p.2*φ p.1+Tw φ L+(p.2*ψ p.1+Tw ψ L);rw[Qry φ ψ L,Int.mul_add];omega
section
variable(K:PySem.W.Frag)(P:Qw)(W:Ja)(u:Nat)
def cIx(i:Int):TE:=tOp (QxW K) (Yy 0) (tC (.int i))
def cB2:TS:=QxP (QxS (QkN (tOp (QwW u false) (Qi8 (Z1 (Yy 2) (Z1 (Yy 5) QbO))) (cIx K 2))) (QkN (tOp (rIn K true) (Yy 5) (Yy 4))))
 (Qhp (Qfo (tCB (QfE K) (Z1 (tCB (Qli K) (Z1 (tOp Qn6 (Yy 4) (Qi8 (Z1 (Yy 5) QbO))) QbO)) QbO)) (YN 6)) (Qsb (Yy 3) (Yy 6) (tOp (rI0 λi j=>V.int (i+j)) (QkQ (Yy 3) (Yy 6) (tC (V.int 0))) (Qja (Yy 1) (Yy 4))))) QrV
def cB1:TS:=tFor (Qo2 (Z1 (cIx K 1) QbO)) (YN 5) (cB2 K u)
def cRow:TS:=Qhp (Qfo (tCB (Qlm P W) (Z1 (Yy 1) QbO)) (YN 3)) (Qhp (tFor (Qmz (Yy 1)) (YN 4) (cB1 K u)) (Qfo (Yy 3) (YN 1)))
def Qw6:TE:=tCB (λxs H Q=>∃p ys,xs=[V.ref p]/\(SqL K H p ys∨SqT K H p ys)/\Q (V.int ys.length) H) (Z1 (Yy 4) QbO)
def cSum:TS:=Qfo (tOp (rI0 λi j=>V.int (i+j)) (tOp (Qp3 K) (Yy 7) (Qw6 K)) (Qja (Yy 1) (Yy 4))) (gSub (Yy 7) (Qw6 K) Qlj)
def cAll:TS:=Qhp (Qfo (QkP (Qi8 QbO) (tC (V.int 1))) (YN 1)) (Qhp (tFor (Qo2 (Z1 (cIx K 0) QbO)) (YN 2) (cRow K P W u))
 (Qhp (Qfo (tOp Qsh (QkO (Z1 (tC (V.int 0)) QbO)) (tOp (rI0 λi j=>V.int (i+j)) (tCB (λxs H Q=>∃i j,xs=[V.int i,V.int j]/\Q (V.int (if j<i then j else i)) H) (Z1 (cIx K 0) (Z1 (cIx K 1) QbO))) (tC (V.int 1)))) (YN 7))
  (Qhp (tFor (Qmz (Yy 1)) (YN 4) (cSum K)) (QxL (Yy 7)))))
end
def Kb(e:Addr)(H H':Hp):Prop:=∀a o,a≠e->H a=some o->H' a=some o
def stp(f:Nat->Nat->Bool)(r:Nat)(ks:List Int)(n:Int)(c:Nat)(L:Tb):Tb:=if(f r c && !decide ((c:Int)∈ks))=true then Qkk L (insI c ks) ((getT L (insI c ks)).getD 0+n) else L
structure Bf (H:Hp) (b:Addr) (h w:Nat) (f:Nat->Nat->Bool):Prop where
 at_:∃c ps,H b=some (.tup [.int h,.int w,.ref c])/\H c=some (.tup ps)/\Dats H ps ((cellsF h w f).map pairD)
theorem Bf.of{H:Hp}{b:Addr}{h w:Nat}{f:Nat->Nat->Bool}(q:Dat H (.ref b) (bdD h w (cellsF h w f))):Bf H b h w f:=by
 cases q with
 |tup e q=>cases q with
  |cons q1 q=>cases q with
   |cons q2 q=>cases q with
    |cons q3 q=>
     cases q;cases q1;cases q2;cases q3 with
     |tup e2 q2=>exact⟨_,_,e,e2,q2⟩
theorem Bf.same{H H':Hp}{b:Addr}{h w:Nat}{f:Nat->Nat->Bool}(x:Bf H b h w f)(s:Same H H'):Bf H' b h w f:=by
 obtain⟨c,ps,e1,e2,q⟩:=x.at_;exact⟨c,ps,s _ _ e1,s _ _ e2,q.same s⟩
theorem QuP{f:Nat->Nat->Bool}{r w c:Nat}{ks:List Int}{n:Int}{L L':Tb}(w6:w<=6)(hc:c<w)(t1:TbOk r w L)(hk:(ks,n)∈L)(t2:TbOk (r+1) w L'):TbOk (r+1) w (stp f r ks n c L'):=by
 unfold stp;split
 ·rename_i z
  have z:=Q4.mp z;have z2:(c:Int)∉ks:=by simpa using z.2
  obtain⟨hf,hl,hb⟩:=t1.mem _ hk;obtain⟨g1,g2,g3⟩:=QfT ks hf c (Qk0 (by omega) (by omega)) z2;refine t2.put ⟨g1,by rw[g3];exact Nat.succ_le_succ hl,λx hx=>?_⟩ _;rcases ZA.mp ((insI_perm c ks).mem_iff.mp hx) with y | y
  ·exact hb x y
  ·rw[JL.mp y];omega
 ·exact t2
theorem QrZ{f:Nat->Nat->Bool}{r w c:Nat}{ks:List Int}{n:Int}{L':Tb}(t2:TbOk (r+1) w L')(φ:List Int->Int):Tw φ (stp f r ks n c L')=Tw φ L'+n*(if(f r c && !decide ((c:Int)∈ks))=true then φ (insI c ks) else 0):=by
 unfold stp;split
 ·exact Qss φ (insI c ks) n t2.nd
 ·rw[QeF];omega
theorem Qr0(f:Nat->Nat->Bool)(r:Nat)(ks:List Int)(n:Int)(c:Nat)(L:Tb):L.length<=(stp f r ks n c L).length:=by
 unfold stp Qkk;split
 ·split
  ·rw[Qg];exact Qh _
  ·rw[Qv];exact Qfh _ _
 ·exact Qh _
theorem Kb.trans{e:Addr}{H H1 H2:Hp}(a:Kb e H H1)(b:Kb e H1 H2):Kb e H H2:=λx o n h=>b x o n (a x o n h)
theorem Kb.base{e:Addr}{H0 H H':Hp}(s:Same H0 H)(n:H0 e=none)(k:Kb e H H'):Same H0 H':=λb o h=>k b o (λz=>by rw[z,n] at h;cases h) (s b o h)
def colS(f:Nat->Nat->Bool)(r:Nat)(φ:List Int->Int)(ks:List Int)(j:Nat):Int:=sumZ (λc:Nat=>if(f r c && !decide ((c:Int)∈ks))=true then φ (insI c ks) else 0) (QY j)
theorem Qiy{d:Addr}{o:Obj}{kvs:List (List Key×V)}{g:TG}{tb:TS}{D:Ends}{σ:L2.St}{H:Hp}(Pv:Nat->L2.St->Hp->Prop)(h0:Pv 0 σ H)(hl:∀i σ H,Pv i σ H->H d=some (.frz o (.dT kvs)))
  (hs:∀i p b σ H,kvs[i]? = some p->H b=some (.tup (p.1.map kV))->Pv i σ H->g (.ref b) σ H λσ2 H2=>tb { D with nx:=Pv (i+1),ct:=Pv (i+1),bk:=D.nx } σ2 H2)(hd:∀σ H,Pv kvs.length σ H->D.nx σ H) :
  ∃W:Nat->Nat->L2.St->Hp->Prop,(∃m,W 0 m σ H)/\∀i m σ H,W i m σ H ->
   ((Itd d o kvs).stop i H/\D.nx σ H)∨((Itd d o kvs).go i H/\∃N:L2.St->Hp->Prop,(∀σ' H',N σ' H'->∃m',m'<m/\W (i+1) m' σ' H')/\∀x H',(Itd d o kvs).yld i H x H'->g x σ H' λσ2 H2=>tb { D with nx:=N,ct:=N,bk:=D.nx } σ2 H2):=by
 refine⟨λi m σ H=>m=kvs.length - i/\i<=kvs.length/\Pv i σ H,⟨kvs.length,by simp,Je _,h0⟩,?_⟩;rintro i m σ H ⟨rfl,hi,p⟩;have q:=hl i σ H p;by_cases lt:i<kvs.length
 ·refine .inr ⟨⟨q,lt⟩,Pv (i+1),λσ' H' p'=>⟨kvs.length - (i+1),by omega,rfl,lt,p'⟩,λx H' y=>?_⟩;obtain⟨rfl,kv,b,e1,rfl,e2⟩:=y;exact hs i kv b σ _ e1 e2 p
 ·obtain rfl:i=kvs.length:=by omega
  exact .inl ⟨⟨q,Qh _⟩,hd σ H p⟩
theorem Qro{L:Tb}{i:Nat}{p:List Key×V}(h:(Qbw L)[i]? = some p):∃ks n,L[i]? = some (ks,n)/\p=(ks.map JS,V.int n):=by
 unfold Qbw at h;rw[QC] at h;cases z:L[i]? with
 |none=>rw[z] at h;cases h
 |some q=>rw[z] at h;cases h;exact⟨q.1,q.2,rfl,rfl⟩
def cIw(f:Nat->Nat->Bool)(h w:Nat):List Int:=(QY (min h w+1)).map λk=>Wc (cellsF h w f) h h 0 k
def byL(L:Tb)(k:Nat):Int:=sumZ (λp=>if p.1.length=k then p.2 else 0) L
def Qgt(m:Nat)(L:Tb):List Int:=(QY (m+1)).map (byL L)
theorem QwD(f:Nat->Nat->Bool)(h w k:Nat)(ks:List Int):Ph f h w h k ks=if ks.length=k then 1 else 0:=by
 unfold Ph;rw[Nat.sub_self];by_cases z:ks.length<=k
 ·rw[if_pos z];show(if k - ks.length=0 then(1:Int) else 0)=_;by_cases y:ks.length=k
  ·rw[if_pos y,if_pos (by omega)]
  ·rw[if_neg y,if_neg (by omega)]
 ·rw[if_neg z,if_neg (by omega)]
theorem Qws(f:Nat->Nat->Bool)(h w k:Nat)(L:Tb):Tw (Ph f h w h k) L=byL L k:=by
 unfold Tw byL;refine Qa0 λp _=>?_
 rw[QwD];split
 ·rw[Int.mul_one]
 ·rw[QeF]
theorem QfA{m k:Nat}{L:Tb}(h:k<=m):(Qgt m L)[k]? = some (byL L k):=by
 unfold Qgt;rw[QC,JC (by omega)];rfl
theorem QbB(m:Nat)(L:Tb):(Qgt m L).length=m+1:=by unfold Qgt;rw[Qg,Q8]
theorem Qic{m:Nat}{L:Tb}{p:List Int×Int}:(Qgt m L).set p.1.length (byL L p.1.length+p.2)=Qgt m (L++[p]):=by
 refine List.ext_getElem (by rw[Zc,QbB,QbB]) λk h1 h2=>?_
 rw[Zc,QbB] at h1;have a:(Qgt m (L++[p]))[k]? = some (byL (L++[p]) k):=QfA (by omega);have b:(Qgt m L)[k]? = some (byL L k):=QfA (by omega);have ea:byL (L++[p]) k=byL L k+(if p.1.length=k then p.2 else 0):=by
  unfold byL;rw[Qa1];show _+(_+0)=_;rw[Ym]
 rw[Qi h2] at a;rw[QB a,ea,List.getElem_set];rw[Qi (by rw[QbB];omega)] at b;split
 ·rename_i z
  rw[<- z]
 ·rename_i z
  rw[QB b,Ym]
theorem cSum_ok{K:PySem.W.Frag}{b d t g:Addr}{m:Nat}{L M:Tb}{ks:List Int}{n:Int}{o:Obj}{x2 x3 x5 x6:Option V}{D:Ends}{H:Hp}(hd:H d=some (.frz o (.dT (Qbw L))))(hg:H g=some (.lst ((Qgt m M).map V.int)))(ht:H t=some (.tup (ks.map V.int)))(hk:(ks,n)∈L)(nd:(L.map (·.1)).Nodup)(hm:ks.length<=m)
  (hN:D.nx [some (.ref b),some (.ref d),x2,x3,some (.ref t),x5,x6,some (.ref g)] (upd H g (.lst ((Qgt m (M++[(ks,n)])).map V.int)))) :
  cSum K D [some (.ref b),some (.ref d),x2,x3,some (.ref t),x5,x6,some (.ref g)] H:=by
 have ek:(ks.map (JS:Int->Key)).map kV=ks.map V.int:=by rw[Q1];rfl
 have gd:DGet H d (.ref t) (some (.int n)):=.inr ⟨Qbw L,ks.map JS,t,.inr ⟨o,hd⟩,rfl,by rw[ek];exact ht,by rw[QdK,Qcv nd hk];rfl⟩;have lm:(ks.map V.int).length=ks.length:=Qg _;refine⟨_,rfl,_,rfl,t,_,rfl,.inr (SqT.of ht),g,_,_,_,rfl,rfl,SqL.of hg,by rw[lm];exact JB (j:=ks.length) (by rw[QC,QfA hm];rfl),_,rfl,_,rfl,d,_,rfl,gd,byL M ks.length,n,rfl,rfl,?_⟩;refine⟨_,rfl,_,rfl,t,_,rfl,.inr (SqT.of ht),g,_,_,ks.length,rfl,rfl,hg,by rw[lm];exact QhF (by rw[Qg,QbB];omega),?_⟩;rw[<- Qxv (f:=V.int),Qic (p:=(ks,n))];exact hN
theorem Qn0(m:Nat):(QZ (m+1) [V.int 0]).flatten=(Qgt m []).map V.int:=by
 unfold Qgt;rw[Q1];generalize m+1=n;induction n with
 |zero=>rfl
 |succ n ih=>rw[List.replicate_succ',List.flatten_append,ih,Qgb,JF];rfl
end Rk
namespace Dl
open L2 _root_.Rd Rk
section
variable{X:Cx}{E:XK}{we:DE}{i:Nat}
def Qe5(we:DE)(i:Nat):DS:=λD δ=>match δ[i]? with
 |some (.own ds)=>we δ (λd=>D.rt (.tuple [d,.list ds])) D.ex
 |_=>False
theorem QlI{e f:QX}{x1}{tpos pos:Pos}(he:PE X e (tX .D X.K E we))(hf:PE X f (Yy i))(h1:notStar e=true)(h2:notStar f=true):PS X (.Return (some (.Tuple [e,f] x1 tpos)) pos) (tS X.K E (Qe5 we i)):=by
 refine PS.imp (Zy (Qa4 (pa_c he (pa_c hf pa_nil h2) h1))) λD σ H ⟨F,δ,DD,rel,hw,en⟩=>?_
 unfold Qe5 at hw;split at hw
 ·rename_i ds hd
  obtain⟨x,hx⟩:=rel.lt hd;refine⟨F,δ,_,DD.ex,rel,hw,λd hd' v H1 rel1 kp vk=>?_,en.ex⟩;obtain⟨l,xs,rfl,e,q,f⟩:=rel1.sl i _ _ hx hd;refine⟨_,hx,by show 2<=1000;decide,λa H2 s2 n2 e2=>?_⟩;have rel2:=rel1.same s2;refine en.rt _ hd' _ H2 rel2.ke (.tup (λz=>?_) e2 (.cons (Qpk (DA.same vk s2)) (.cons (.lst (λz=>?_) (s2 _ _ e) ((q.same s2).mv (λ_ _ _ e=>e) λa z=>.inl (.inl z))) .nil)))
  ·obtain⟨ys,e'⟩:=rel1.dom a z;rw[n2] at e';cases e'
  ·obtain⟨ys,e'⟩:=rel.dom0 l z;rw[f] at e';cases e'
 ·exact hw.elim
theorem Qih(i:Nat){e:QX}{x:Str}{x1}{npos tpos pos:Pos}{we:DE}(he:QE .D X E e we)(hN:X.N[i]? = some x:=by rfl)(hv:Vis X.env.scope x:=by first | exact QF rfl | exact QK (QF rfl) | exact QK (QK rfl))(hd:(x == ("__debug__" : Str))=false:=by decide)(hcd:(x == ("__classdict__" : Str))=false:=by decide)(h1:notStar e=true:=by rfl) :
  QS X E (.Return (some (.Tuple [e,.Name x npos] x1 tpos)) pos) (Qe5 we i):=⟨QlI he.h (pv i hN hv hd hcd) h1 rfl⟩
def Qut(k1 k2:Str)(p q r s:Qc)(x:Str)(y:Bool):Option Qc:=if x=k1 then some (if y then q else p) else if x=k2 then some (if y then s else r) else none
def Qyu(k1 k2:Str)(p q r s:Qc)(i j:Nat):DE:=λδ Q _=>match δ[i]?,δ[j]? with
 |some (.v (.str x)),some (.v (.bool y))=>match Qut k1 k2 p q r s x y with
  |some d=>Q d
  |none=>False
 |_,_=>False
theorem Qvm{e:QX}{k1 k2:Str}{p q r s:V}{dp dq dr ds:Qc}{j:Nat}(hp:∀A H,DA A H p dp)(hq:∀A H,DA A H q dq)(hr:∀A H,DA A H r dr)(hs:∀A H,DA A H s ds)(hk:k1≠k2)
  (h:PE X e (tOp (Qp3 X.K) (Qja (QuM [(tC (.str k1),QkO (Z1 (tC p) (Z1 (tC q) QbO))),(tC (.str k2),QkO (Z1 (tC r) (Z1 (tC s) QbO)))]) (Yy i)) (tCB Qu4 (Z1 (Yy j) QbO)))):PE X e (tX .D X.K E (Qyu k1 k2 dp dq dr ds i j)):=by
 refine PE.imp h λσ H Q ⟨F,δ,R,EX,rel,hw,k,o⟩=>?_
 unfold Qyu at hw;split at hw
 ·rename_i x y hx hy
  split at hw
  ·rename_i d hd
   obtain⟨vx,hvx⟩:=rel.lt hx;obtain⟨vy,hvy⟩:=rel.lt hy;obtain⟨vx',rfl,qx⟩:=rel.sl i _ _ hvx hx;obtain⟨vy',rfl,qy⟩:=rel.sl j _ _ hvy hy;cases qx;cases qy;intro a na;refine⟨by show 2<=1000;decide,λl1 H1 s1 n1 e1=>⟨by show 2<=1000;decide,λl2 H2 s2 n2 e2=>?_⟩⟩;have s12:=s1.trans s2;have s0:Same H (upd H a (.dK [])):=λb u hb=>by rw[QU (QP hb na)];exact hb
   have ea:=s12 _ _ (show upd H a (.dK []) a=some (.dK []) from upd_same);have kx:∀u,Same H (upd H2 a u):=λu b v hb=>by rw[QU (QP hb na)];exact s12 _ _ (s0 _ _ hb)
   have a1:l1≠a:=YB (s2 _ _ e1) ea (λz=>nomatch z);have a2:l2≠a:=YB e2 ea (λz=>nomatch z);have em:QeX [] [(JV k1,.ref l1),(JV k2,.ref l2)]=[((JV k1:Key),V.ref l1),(JV k2,V.ref l2)]:=by
    show QfG (QfG [] (JV k1:Key) (V.ref l1)) (JV k2) (V.ref l2)=_;show(if([((JV k1:Key),V.ref l1)].any λkv=>decide (kv.1=JV k2))=true then _ else _)=_;rw[if_neg (by simp[hk])];rfl
   refine⟨ea,[(JV k1,.ref l1),(JV k2,.ref l2)],rfl,by show 2<=15;decide,_,hvx,a,?_⟩;rw[em];have g:=DGet.k (k:=JV x) (upd_same:upd H2 a (.dK [((JV k1:Key),V.ref l1),(JV k2,V.ref l2)]) a=_);have fin:∀(l:Addr)(u v:V)(du dv:Qc),l≠a->H2 l=some (.lst [u,v])->(∀A H,DA A H u du)->(∀A H,DA A H v dv)->d=(if y=true then dv else du)->Qh1 [((JV k1:Key),V.ref l1),(JV k2,V.ref l2)] (JV x)=some (.ref l) ->
     ∃w,V.ref a=.ref a/\DGet (upd H2 a (.dK [((JV k1:Key),V.ref l1),(JV k2,V.ref l2)])) a (.str x) (some w)/\tCB Qu4 (Z1 (Yy j) QbO) σ (upd H2 a (.dK [((JV k1:Key),V.ref l1),(JV k2,V.ref l2)])) λz H3=>Qp3 X.K w z H3 Q:=by
    intro l u v du dv nl el hu hv ed ev;refine⟨.ref l,rfl,by rw[<- ev];exact g,_,hvy,.inr ⟨y,rfl,?_⟩⟩;have el':(upd H2 a (.dK [((JV k1:Key),V.ref l1),(JV k2,V.ref l2)])) l=some (.lst [u,v]):=by rw[QU nl];exact el
    cases y with
    |true=>exact⟨l,_,_,v,rfl,rfl,SqL.of el',JB (j:=1) rfl,k d hw v _ (rel.same (kx _)) (Kp.same rel (kx _)) (by rw[ed];exact hv _ _)⟩
    |false=>exact⟨l,_,_,u,rfl,rfl,SqL.of el',JB (j:=0) rfl,k d hw u _ (rel.same (kx _)) (Kp.same rel (kx _)) (by rw[ed];exact hu _ _)⟩
   unfold Qut at hd;split at hd
   ·rename_i z
    cases hd;refine fin l1 p q dp dq a1 (s2 _ _ e1) hp hq rfl ?_
    exact QbA (by show(JV k1:Key)=JV x;rw[z])
   ·rename_i z
    split at hd
    ·rename_i z2
     cases hd;refine fin l2 r s dr ds a2 e2 hr hs rfl ?_
     rw[Qcl (λy=>z (Quz (show(JV k1:Key)=JV x from y)).symm)];exact QbA (by show(JV k2:Key)=JV x;rw[z2])
    ·cases hd
  ·exact hw.elim
 ·exact hw.elim
theorem Qu9(i j:Nat){x y k1 k2:Str}{a1 a2 b1 b2:QX}{c1 c2}{p1 p2 p3 p4 p5 p6 p7 p8 p9 q1 q2:Pos}{p q r s:V}{dp dq dr ds:Qc}(hg:Gl X "int")(hm:X.mg "int" = none)(hp:∀A H,DA A H p dp)(hq:∀A H,DA A H q dq)(hr:∀A H,DA A H r dr)(hs:∀A H,DA A H s ds)(hk:k1≠k2)(hu:X.A.units+1<cLine)
  (ha1:PE X a1 (tC p))(ha2:PE X a2 (tC q))(hb1:PE X b1 (tC r))(hb2:PE X b2 (tC s))(n1:notStar a1=true:=by rfl)(n2:notStar a2=true:=by rfl)(n3:notStar b1=true:=by rfl)(n4:notStar b2=true:=by rfl)
  (hN:X.N[i]? = some x:=by rfl)(hv:Vis X.env.scope x:=by first | exact QF rfl | exact QK (QF rfl) | exact QK (QK rfl))(hd:(x == ("__debug__" : Str))=false:=by decide)(hcd:(x == ("__classdict__" : Str))=false:=by decide)
  (hN':X.N[j]? = some y:=by rfl) (hv':Vis X.env.scope y:=by first | exact QF rfl | exact QK (QF rfl) | exact QK (QK rfl)) (hd':(y == ("__debug__" : Str))=false:=by decide) (hcd':(y == ("__classdict__" : Str))=false:=by decide) :
  QE .D X E (.Subscript (.Subscript (.Dict [some (.Constant (.str k1) c1 p1),some (.Constant (.str k2) c2 p2)] [.List [a1,a2] q1,.List [b1,b2] q2] p3) (.Name x p4) p5) (.Call (.Name "int" p6) [.Name y p7] [] p8) p9) (Qyu k1 k2 dp dq dr ds i j):=
 ⟨Qvm hp hq hr hs hk (pe_ix ix_list (Qhx hu (QsF (QfJ YY (pe_lstW (pa_c ha1 (pa_c ha2 pa_nil n2) n1)) (QfJ YY (pe_lstW (pa_c hb1 (pa_c hb2 pa_nil n4) n3)) QlA)) rfl rfl (by simp) (by show 2<=15;decide)) (pv i hN hv hd hcd) (λ_ _=>rfl)) (QaP QgX hg hm QgY (pa_cons (pv j hN' hv' hd' hcd') pa_nil)) (λ_ _=>rfl))⟩
end
end Dl
namespace Rk
namespace Bx
open L2 _root_.Rd Dl Rt
section
variable(K:PySem.W.Frag)(P:Qw)(W:Ja)
def cB2:TS:=QxP (QxS (QkN (tOp rEq (Yy 5) (Yy 2))) (QkN (tOp (rIn K true) (Yy 6) (Yy 4))))
 (Qhp (Qfo (tCB (QfE K) (Z1 (tCB (Qli K) (Z1 (tOp Qn6 (Yy 4) (Qi8 (Z1 (Yy 6) QbO))) QbO)) QbO)) (YN 7)) (Qsb (Yy 3) (Yy 7) (tOp (rI0 λi j=>V.int (i+j)) (QkQ (Yy 3) (Yy 7) (tC (V.int 0))) (Qja (Yy 1) (Yy 4))))) QrV
def cB1:TS:=tFor (Qy3 K (cIx K 2)) (Qw2 K 2 (QjP (YN 5) (QjP (YN 6) Qw3))) (cB2 K)
def cRow:TS:=Qhp (Qfo (tCB (Qlm P W) (Z1 (Yy 1) QbO)) (YN 3)) (Qhp (tFor (Qmz (Yy 1)) (YN 4) (cB1 K)) (Qfo (Yy 3) (YN 1)))
def cSum:TS:=Qfo (tOp (rI0 λi j=>V.int (i+j)) (tOp (Qp3 K) (Yy 8) (Qw6 K)) (Qja (Yy 1) (Yy 4))) (gSub (Yy 8) (Qw6 K) Qlj)
def cAll:TS:=Qhp (Qfo (QkP (Qi8 QbO) (tC (V.int 1))) (YN 1)) (Qhp (tFor (Qo2 (Z1 (cIx K 0) QbO)) (YN 2) (cRow K P W))
 (Qhp (Qfo (tOp Qsh (QkO (Z1 (tC (V.int 0)) QbO)) (tOp (rI0 λi j=>V.int (i+j)) (tCB (λxs H Q=>∃i j,xs=[V.int i,V.int j]/\Q (V.int (if j<i then j else i)) H) (Z1 (cIx K 0) (Z1 (cIx K 1) QbO))) (tC (V.int 1)))) (YN 8))
  (Qhp (tFor (Qmz (Yy 1)) (YN 4) (cSum K)) (QxL (Yy 8)))))
end
theorem Qwq{K:PySem.W.Frag}{b d e t:Addr}{w r q c:Nat}{f:Nat->Nat->Bool}{L L':Tb}{ks:List Int}{n:Int}{o:Obj}{x7 x8:Option V}{D:Ends}{H:Hp}(w6:w<=6)(hc:c<w)(hq:f q c=true)(hd:H d=some (.frz o (.dT (Qbw L))))(he:H e=some (.dT (Qbw L')))(ht:H t=some (.tup (ks.map V.int)))(hk:(ks,n)∈L)(t1:TbOk r w L)(t2:TbOk (r+1) w L')
  (hN:∀x7 H',Kb e H H'->H' e=some (.dT (Qbw (if q=r then stp f r ks n c L' else L')))->D.nx [some (.ref b),some (.ref d),some (.int r),some (.ref e),some (.ref t),some (.int q),some (.int c),x7,x8] H') :
  cB2 K D [some (.ref b),some (.ref d),some (.int r),some (.ref e),some (.ref t),some (.int q),some (.int c),x7,x8] H:=by
 have ek:(ks.map (JS:Int->Key)).map kV=ks.map V.int:=by rw[Q1];rfl
 obtain⟨hf,_,_⟩:=t1.mem _ hk;have h6:=Qk0 (c:=(c:Int)) (by omega) (by omega);refine⟨_,rfl,_,rfl,rfl,_,rfl,?_⟩;have eqr:decide (V.int (q:Int)=V.int (r:Int))=decide (q=r):=by
  rw[ZC,decide_eq_true_eq,decide_eq_true_eq];exact⟨λz=>by have:=V.int.inj z;omega,λz=>by rw[z]⟩
 show if decide (V.int (q:Int)=V.int (r:Int))=true then _ else _
 rw[eqr];by_cases zq:q=r
 case neg=>
  rw[decide_eq_false zq];refine hN x7 H (λa o _ ea=>ea) ?_
  rw[if_neg zq];exact he
 case pos=>
  subst zq;rw[decide_eq_true rfl];have z1:f q c=true:=hq;rw[if_pos rfl] at hN;have s2:Same H H:=λ_ _ z=>z
  have ei:inV (V.int c) (ks.map V.int)=decide ((c:Int)∈ks):=by
   unfold inV;rw[Qkh,ZC,QeD,decide_eq_true_eq];constructor
   ·rintro⟨x,hx,e⟩;have e:(x == (c:Int))=true:=e;rw[<- beq_iff_eq.mp e];exact hx
   ·intro hx;exact⟨c,hx,beq_self_eq_true (c:Int)⟩
  refine⟨_,rfl,_,rfl,t,_,rfl,.inr (SqT.of (s2 _ _ ht)),rfl,by rw[Qki];exact J4.mpr λ_ _=>rfl,_,rfl,?_⟩;show if(!inV (V.int c) (ks.map V.int))=true then _ else _
  rw[ei];by_cases z2:(c:Int)∈ks
  ·rw[decide_eq_true z2];refine hN x7 H (λa o _ ea=>ea) ?_
   rw[show stp f q ks n c L'=L' by unfold stp;rw[z1,decide_eq_true z2];rfl];exact s2 _ _ he
  ·rw[decide_eq_false z2];obtain⟨g1,g2,g3⟩:=QfT ks hf c h6 z2;refine⟨_,rfl,_,rfl,by show 1<=1000;decide,λa3 H3 s3 n3 e3=>?_⟩;refine⟨t,a3,_,_,rfl,rfl,s3 _ _ (s2 _ _ ht),e3,?_,λa4 H4 s4 e4=>?_⟩
   ·rw[Qg];have:=(QhI ⟨6,by decide⟩ ks hf λc hc=>by have:=Qrl ks hf c hc;revert this;simp;omega);have:ks.length<=6:=this;show _+1<=sizeLine;rw[ZW];omega
   have ecat:ks.map V.int++[V.int c]=(ks++[(c:Int)]).map V.int:=by rw[JF];rfl
   rw[ecat] at e4;refine⟨a4,ks++[(c:Int)],rfl,SqT.of e4,?_,λa5 ms H5 s5 n5 e5 pm pw=>?_⟩
   ·have:=(QhI ⟨6,by decide⟩ ks hf λc hc=>by have:=Qrl ks hf c hc;revert this;simp;omega);have:ks.length<=6:=this;rw[Qv];show _+1<64;omega
   obtain rfl:=QnK hf h6 z2 pm pw;refine⟨a5,_,rfl,.inl ⟨SqL.of e5,λa6 H6 s6 n6 e6=>?_⟩⟩;have s26:Same H H6:=((((s2.trans s3).trans s4).trans s5).trans s6);have he6:=s26 _ _ he;have hd6:=s26 _ _ hd;have ht6:=s26 _ _ ht;have ek6:H6 a6=some (.tup (((insI c ks).map (JS:Int->Key)).map kV)):=by
    rw[Q1];exact e6
   have gd:DGet H6 d (.ref t) (some (.int n)):=.inr ⟨Qbw L,ks.map JS,t,.inr ⟨o,hd6⟩,rfl,by rw[ek];exact ht6,by rw[QdK,Qcv t1.nd hk];rfl⟩;refine⟨_,rfl,e,rfl,.inr ⟨_,.inl he6⟩,_,rfl,_,DGet.t he6 ek6,_,rfl,_,rfl,d,_,rfl,gd,(getT L' (insI c ks)).getD 0,n,?_,rfl,?_⟩
   ·rw[QdK];cases getT L' (insI c ks)<;>rfl
   ·refine⟨_,rfl,_,rfl,e,_,rfl,DPut.t he6 ek6 ?_,?_⟩
    ·rw[QfW,ZW];have:=t2.len;omega
    ·refine hN _ _ (λa o ne ea=>?_) ?_
     ·rw[QU ne];exact s26 _ _ ea
     ·rw[upd_same,Qst];unfold stp;rw[z1,decide_eq_false z2];rfl
def Qkl(r:Nat)(φ:List Int->Int)(ks:List Int)(l:List (Int×Int)):Int:=sumZ (λp=>if p.1=(r:Int)/\¬p.2∈ks then φ (insI p.2 ks) else 0) l
theorem QmV{r q w:Nat}{f:Nat->Nat->Bool}{φ:List Int->Int}{ks:List Int}:Qkl r φ ks (QdN q w f)=if q=r then Nx f r φ ks w else 0:=by
 unfold Qkl QdN;rw[Qh5,QbV];split
 ·rename_i z
  subst z;refine Qa0 λc _=>?_
  by_cases z1:f q c=true
  ·rw[if_pos z1,z1];by_cases z2:(c:Int)∈ks
   ·rw[if_neg (λz=>z.2 z2),decide_eq_true z2];rfl
   ·rw[if_pos ⟨rfl,z2⟩,decide_eq_false z2];rfl
  ·rw[if_neg z1,Yr.mpr z1];rfl
 ·rename_i z
  refine Eq.trans (Qa0 λc _=>?_) (sumZ_zero (QY w));split
  ·exact if_neg λ(y:(q:Int)=(r:Int)/\¬(c:Int)∈ks)=>z (by have:=y.1;omega)
  ·rfl
theorem Qt1{r w:Nat}{f:Nat->Nat->Bool}{φ:List Int->Int}{ks:List Int}:∀{h:Nat},r<h->Qkl r φ ks (cellsF h w f)=Nx f r φ ks w:=by
 have out:∀h,h<=r->Qkl r φ ks (cellsF h w f)=0:=λh=>by
  induction h with
  |zero=>intro _;rfl
  |succ h ih=>
   intro hh;rw[YV];unfold Qkl;rw[Qa1];show Qkl r φ ks (cellsF h w f)+Qkl r φ ks (QdN h w f)=0;rw[ih (by omega),QmV,if_neg (by omega)];rfl
 intro h;induction h with
 |zero=>intro hh;omega
 |succ h ih=>
  intro hh;rw[YV];unfold Qkl;rw[Qa1];show Qkl r φ ks (cellsF h w f)+Qkl r φ ks (QdN h w f)=_;rw[QmV];by_cases z:h=r
  ·rw[if_pos z,out h (by omega)];omega
  ·rw[if_neg z,ih (by omega)];omega
theorem Qwr{K:PySem.W.Frag}{b d e t:Addr}{h w r:Nat}{f:Nat->Nat->Bool}{L L':Tb}{ks:List Int}{n:Int}{o:Obj}{x5 x6 x7 x8:Option V}{D:Ends}{H0 H:Hp}(w6:w<=6)(hr:r<h)(B:Bf H0 b h w f)(s0:Same H0 H)(n0:H0 e=none)(hd:H d=some (.frz o (.dT (Qbw L))))(he:H e=some (.dT (Qbw L')))(ht:H t=some (.tup (ks.map V.int)))(hk:(ks,n)∈L)(t1:TbOk r w L)(t2:TbOk (r+1) w L')
  (hN:∀x5 x6 x7 H' L'',Kb e H H'->H' e=some (.dT (Qbw L''))->TbOk (r+1) w L''->L'.length<=L''.length->(∀φ,Tw φ L''=Tw φ L'+n*Nx f r φ ks w)->D.nx [some (.ref b),some (.ref d),some (.int r),some (.ref e),some (.ref t),x5,x6,x7,x8] H') :
  cB1 K D [some (.ref b),some (.ref d),some (.int r),some (.ref e),some (.ref t),x5,x6,x7,x8] H:=by
 obtain⟨cc,ps,e1,e2,q⟩:=(B.same s0).at_;have de:d≠e:=YB hd he (λz=>nomatch z);have te:t≠e:=YB ht he (λz=>nomatch z);refine⟨_,rfl,b,_,_,_,rfl,rfl,SqT.of e1,JB (j:=2) rfl,cc,rfl,⟨_,SqT.of e2⟩,?_⟩;have B':=B.same s0;have lps:ps.length=(cellsF h w f).length:=by rw[q.length,Qg]
 refine QtJ (xs:=ps) (λj σ H'=>∃x5 x6 x7 L'',σ=[some (.ref b),some (.ref d),some (.int r),some (.ref e),some (.ref t),x5,x6,x7,x8]/\Kb e H H'/\H' e=some (.dT (Qbw L''))/\TbOk (r+1) w L''/\L'.length<=L''.length/\∀φ,Tw φ L''=Tw φ L'+n*Qkl r φ ks ((cellsF h w f).take j)) ⟨_,_,_,L',rfl,λ_ _ _ h=>h,he,t2,Qh _,λφ=>?_⟩ ?_ ?_ ?_
 ·show _=_+n*0;rw[QeF];omega
 ·rintro j σ H' _ ⟨x5,x6,x7,L'',rfl,kb,he',t',ln,sm⟩;exact SqT.of (kb _ _ (YB e2 he (λz=>nomatch z)) e2)
 ·rintro j y σ H' hj ⟨x5,x6,x7,L'',rfl,kb,he',t',ln,sm⟩;have hlt:j<ps.length:=(Q2.mp hj).1;obtain⟨p,hp⟩:∃p,(cellsF h w f)[j]? = some p:=⟨_,Qi (by omega)⟩
  obtain⟨qq,c,hqh,hc,hf,rfl⟩:=JK.mp (Q3 hp);obtain⟨dd,hd2,hD⟩:=q.get j y hj;rw[QC,hp] at hd2;cases hd2;obtain⟨ay,rfl,ey⟩:∃ay,y=.ref ay/\H ay=some (.tup [.int qq,.int c]):=by
   cases hD with
   |tup e q=>cases q with
    |cons q1 q=>cases q with
     |cons q2 q=>cases q;cases q1;cases q2;exact⟨_,rfl,e⟩
  have ay':ay≠e:=YB ey he (λz=>nomatch z);refine⟨ay,_,rfl,SqT.of (kb _ _ ay' ey),rfl,_,_,rfl,_,_,rfl,rfl,?_⟩;refine Qwq w6 hc hf (kb _ _ de hd) he' (kb _ _ te ht) hk t1 t' λx7' H2 kb2 he2=>⟨_,_,_,_,rfl,kb.trans kb2,he2,?_,?_,λφ=>?_⟩
  ·split
   ·exact QuP w6 hc t1 hk t'
   ·exact t'
  ·refine QL ln ?_
   split
   ·exact Qr0 ..
   ·exact Qh _
  ·rw[Zx,hp];unfold Qkl;rw[Qa1,Int.mul_add,<- Qxz];show _=_+n*((if(qq:Int)=(r:Int)/\¬(c:Int)∈ks then φ (insI c ks) else 0)+0);have sm':Tw φ L''=Tw φ L'+n*sumZ (λp=>if p.1=(r:Int)/\¬p.2∈ks then φ (insI p.2 ks) else 0) ((cellsF h w f).take j):=sm φ;rw[<- sm',Ym];by_cases zq:qq=r
   ·subst zq;rw[if_pos rfl,QrZ t' φ,hf]
    congr 2
    by_cases zk:(c:Int)∈ks
    ·rw[decide_eq_true zk];exact(if_neg (λz=>z.2 zk)).symm
    ·rw[decide_eq_false zk];exact(if_pos ⟨rfl,zk⟩).symm
   ·rw[if_neg zq,if_neg (λz=>zq (by omega)),QeF,Ym]
 ·rintro σ H' ⟨x5,x6,x7,L'',rfl,kb,he',t',ln,sm⟩;refine hN x5 x6 x7 H' L'' kb he' t' ln λφ=>?_
  rw[sm φ,lps,Zm,Qt1 hr]
theorem Qt5{K:PySem.W.Frag}{P:Qw}{W:Ja}{b d:Addr}{h w r:Nat}{f:Nat->Nat->Bool}{L:Tb}{x3 x4 x5 x6 x7 x8:Option V}{D:Ends}{H0 H:Hp}(w6:w<=6)(hr:r<h)(B:Bf H0 b h w f)(s0:Same H0 H)(nd0:H0 d=none)(hd:H d=some (.dT (Qbw L)))(t1:TbOk r w L)(hl:0<L.length)
  (hN:∀e x3 x4 x5 x6 x7 H' L',Same H0 H'->H0 e=none->H' e=some (.dT (Qbw L'))->TbOk (r+1) w L'->0<L'.length->(∀φ,Tw φ L'=Tw (λks=>φ ks+Nx f r φ ks w) L)->D.nx [some (.ref b),some (.ref e),some (.int r),x3,x4,x5,x6,x7,x8] H') :
  cRow K P W D [some (.ref b),some (.ref d),some (.int r),x3,x4,x5,x6,x7,x8] H:=by
 refine⟨_,rfl,d,_,rfl,.inl hd,by rw[QfW];exact hl,t1.hashU P W,λe ne=>?_⟩;have n0e:H0 e=none:=by
  cases z:H0 e with
  |none=>rfl
  |some o=>rw[s0 _ _ z] at ne;cases ne
 have de:d≠e:=QP hd ne;refine⟨_,rfl,d,_,rfl,by rw[QU de];exact hd,λo=>?_⟩;refine Qiy (λi σ H'=>∃x4 x5 x6 x7 L',σ=[some (.ref b),some (.ref d),some (.int r),some (.ref e),x4,x5,x6,x7,x8]/\Same H0 H'/\H' d=some (.frz o (.dT (Qbw L)))/\H' e=some (.dT (Qbw L'))/\TbOk (r+1) w L'/\L.length<=L'.length/\∀φ,Tw φ L'=Tw φ L+sumZ (λp=>p.2*Nx f r φ p.1 w) (L.take i)) ⟨_,_,_,_,L,rfl,λa oo h0=>?_,upd_same,?_,t1.mono,Qh _,λφ=>?_⟩ ?_ ?_ ?_
 ·rw[QU (λz=>by rw[z,nd0] at h0;cases h0),QU (λz=>by rw[z,n0e] at h0;cases h0)];exact s0 _ _ h0
 ·rw[QU (Y2 de),upd_same]
 ·show _=_+0;omega
 ·rintro i σ H' ⟨x4,x5,x6,x7,L',rfl,_,hd',_⟩;exact hd'
 ·rintro i p a σ H' hp ha ⟨x4,x5,x6,x7,L',rfl,s',hd',he',t',ln,sm⟩;obtain⟨ks,n,hL,rfl⟩:=Qro hp;have ha':H' a=some (.tup (ks.map V.int)):=by
   rw[show ks.map V.int=(ks.map (JS:Int->Key)).map kV by rw[Q1];rfl];exact ha
  refine Qwr w6 hr B s' n0e hd' he' ha' (Q3 hL) t1 t' λx5' x6' x7' H2 L'' kb he2 t2 ln2 sm2=>⟨_,_,_,_,L'',rfl,Kb.base s' n0e kb,kb _ _ (YB hd' he' (λz=>nomatch z)) hd',he2,t2,QL ln ln2,λφ=>?_⟩
  rw[sm2 φ,sm φ,Zx,hL,Qa1];show _=_+(_+(n*Nx f r φ ks w+0));rw[Ym,Qxz]
 ·rintro σ H' ⟨x4,x5,x6,x7,L',rfl,s',hd',he',t',ln,sm⟩;refine⟨_,rfl,hN e _ _ _ _ _ H' L' s' n0e he' t' (by omega) λφ=>?_⟩;rw[sm φ,QfW,Zm,Qry];rfl
theorem cSum_ok{K:PySem.W.Frag}{b d t g:Addr}{m:Nat}{L M:Tb}{ks:List Int}{n:Int}{o:Obj}{x2 x3 x5 x6 x7:Option V}{D:Ends}{H:Hp}(hd:H d=some (.frz o (.dT (Qbw L))))(hg:H g=some (.lst ((Qgt m M).map V.int)))(ht:H t=some (.tup (ks.map V.int)))(hk:(ks,n)∈L)(nd:(L.map (·.1)).Nodup)(hm:ks.length<=m)
  (hN:D.nx [some (.ref b),some (.ref d),x2,x3,some (.ref t),x5,x6,x7,some (.ref g)] (upd H g (.lst ((Qgt m (M++[(ks,n)])).map V.int)))) :
  cSum K D [some (.ref b),some (.ref d),x2,x3,some (.ref t),x5,x6,x7,some (.ref g)] H:=by
 have ek:(ks.map (JS:Int->Key)).map kV=ks.map V.int:=by rw[Q1];rfl
 have gd:DGet H d (.ref t) (some (.int n)):=.inr ⟨Qbw L,ks.map JS,t,.inr ⟨o,hd⟩,rfl,by rw[ek];exact ht,by rw[QdK,Qcv nd hk];rfl⟩;have lm:(ks.map V.int).length=ks.length:=Qg _;refine⟨_,rfl,_,rfl,t,_,rfl,.inr (SqT.of ht),g,_,_,_,rfl,rfl,SqL.of hg,by rw[lm];exact JB (j:=ks.length) (by rw[QC,QfA hm];rfl),_,rfl,_,rfl,d,_,rfl,gd,byL M ks.length,n,rfl,rfl,?_⟩;refine⟨_,rfl,_,rfl,t,_,rfl,.inr (SqT.of ht),g,_,_,ks.length,rfl,rfl,hg,by rw[lm];exact QhF (by rw[Qg,QbB];omega),?_⟩;rw[<- Qxv (f:=V.int),Qic (p:=(ks,n))];exact hN
theorem Qt7{K:PySem.W.Frag}{P:Qw}{W:Ja}{b:Addr}{h w:Nat}{f:Nat->Nat->Bool}{D:Ends}{H:Hp}(h6:h<=6)(w6:w<=6)(B:Bf H b h w f)
  (hN:∀t H',Same H H'->H t=none->H' t=some (.lst ((cIw f h w).map V.int))->D.rt (.ref t) H') :
  cAll K P W D [some (.ref b),none,none,none,none,none,none,none,none] H:=by
 refine λp np=>⟨by show 0<=1000;decide,λa H2 s2 n2 e2=>⟨a,[],_,rfl,s2 _ _ upd_same,e2,?_⟩⟩
 have s1:Same H (upd H2 p (.dT (Qbw [([],1)]))):=λx oo hx=>by
  have xp:x≠p:=λz=>by rw[z,np] at hx;cases hx
  rw[QU xp];exact s2 _ _ (by rw[QU xp];exact hx)
 obtain⟨cc,ps,e1,_,_⟩:=(B.same s1).at_;have t0:TbOk 0 w [([],1)]:=⟨JE.mpr ⟨Jb,Qa7⟩,λq hq=>by
  rw[JL.mp hq];exact⟨by decide,Qh _,λc hc=>nomatch hc⟩⟩
 refine⟨_,rfl,b,_,_,_,rfl,rfl,SqT.of e1,JB (j:=0) rfl,h,rfl,by omega,by omega,?_⟩;rw[Qy];refine Qcw (λr σ H'=>∃d x2 x3 x4 x5 x6 x7 L,σ=[some (.ref b),some (.ref d),x2,x3,x4,x5,x6,x7,none]/\Same H H'/\H d=none/\H' d=some (.dT (Qbw L))/\TbOk r w L/\0<L.length/\∀k,Tw (Ph f h w r k) L=Wc (cellsF h w f) h h 0 k) ⟨p,_,_,_,_,_,_,[([],1)],rfl,s1,np,upd_same,t0,Nat.one_pos,λk=>?_⟩ ?_ ?_
 ·show 1*Ph f h w 0 k []+0=_;rw[Int.one_mul,Ym];rfl
 ·rintro r σ H' hr ⟨d,x2,x3,x4,x5,x6,x7,L,rfl,s',nd,hd,t',l',sm⟩;rw[show(0:Int)+(r:Int)=(r:Int) by omega];refine Qt5 w6 hr B s' nd hd t' l' λe x3 x4 x5 x6 x7 H3 L3 s3 n3 e3 t3 l3 sm3=>⟨e,_,_,_,_,_,_,L3,rfl,s3,n3,e3,t3,l3,λk=>?_⟩
  rw[sm3,<- sm k];exact QyF λq hq=>(Qug w6 hr (t'.mem q hq).1).symm
 ·rintro σ H' ⟨d,x2,x3,x4,x5,x6,x7,L,rfl,s',nd,hd,t',l',sm⟩;obtain⟨cc,ps,e1,_,_⟩:=(B.same s').at_;refine⟨by show 1<=1000;decide,λa3 H3 s3 n3 e3=>?_⟩;refine⟨_,rfl,b,_,_,_,rfl,rfl,SqT.of (s3 _ _ e1),JB (j:=0) rfl,_,rfl,b,_,_,_,rfl,rfl,SqT.of (s3 _ _ e1),JB (j:=1) rfl,h,w,rfl,_,1,rfl,rfl,?_⟩;have em:((if(w:Int)<(h:Int) then(w:Int) else(h:Int))+1).toNat=min h w+1:=by split<;>omega
  refine⟨a3,_,_,rfl,rfl,e3,by split<;>omega,by split<;>omega,by rw[em];show 1*_<=_;omega,λg H4 s4 n4 e4=>?_⟩;rw[em,Qn0] at e4;have n4':H g=none:=by
   cases z:H g with
   |none=>rfl
   |some oo=>rw[s3 _ _ (s' _ _ z)] at n4;cases n4
  have dg:d≠g:=YB (s4 _ _ (s3 _ _ hd)) e4 (λz=>nomatch z);refine⟨_,rfl,d,_,rfl,s4 _ _ (s3 _ _ hd),λo=>?_⟩;refine Qiy (λi σ H'=>∃x4,σ=[some (.ref b),some (.ref d),x2,x3,x4,x5,x6,x7,some (.ref g)]/\Same H H'/\H' d=some (.frz o (.dT (Qbw L)))/\H' g=some (.lst ((Qgt (min h w) (L.take i)).map V.int))) ⟨_,rfl,λx oo hx=>?_,upd_same,?_⟩ ?_ ?_ ?_
  ·rw[QU (λz=>by rw[z,nd] at hx;cases hx)];exact s4 _ _ (s3 _ _ (s' _ _ hx))
  ·rw[QU (Y2 dg)];exact e4
  ·rintro i σ H5 ⟨x4,rfl,_,hd5,_⟩;exact hd5
  ·rintro i q a σ H5 hq ha ⟨x4,rfl,s5,hd5,hg5⟩;obtain⟨ks,n,hL,rfl⟩:=Qro hq;have ha':H5 a=some (.tup (ks.map V.int)):=by
    rw[show ks.map V.int=(ks.map (JS:Int->Key)).map kV by rw[Q1];rfl];exact ha
   obtain⟨hf,hl,hb⟩:=t'.mem _ (Q3 hL);have lw:ks.length<=w:=QhI ⟨w,by omega⟩ ks hf hb;have hl:ks.length<=h:=hl;refine cSum_ok hd5 hg5 ha' (Q3 hL) t'.nd (by omega) ⟨_,rfl,λx oo hx=>?_,?_,?_⟩
   ·rw[QU (λz=>by rw[z,n4'] at hx;cases hx)];exact s5 _ _ hx
   ·rw[QU dg];exact hd5
   ·rw[upd_same,Zx,hL];rfl
  ·rintro σ H5 ⟨x4,rfl,s5,hd5,hg5⟩;rw[QfW,Zm] at hg5;refine⟨_,rfl,hN g H5 s5 n4' ?_⟩;have:Qgt (min h w) L=cIw f h w:=by
    unfold Qgt cIw;refine ZB λk _=>?_
    rw[<- Qws f h w k L,sm k]
   rw[<- this];exact hg5
end Bx
end Rk
namespace Rk
open L2 _root_.Rd Dl Rt
theorem Qd9{A:Addr->Prop}{H:Hp}(dm:∀a,A a->∃xs,H a=some (.lst xs)):∀{ys:List V}{M:List (Int×Int)},Dats H ys (M.map pairD)->DAs A H ys (M.map pairD)
 |[],[],_=>.nil
 |y::ys,p::M,.cons q qs=>by
  refine .cons ?_ (Qd9 dm qs)
  cases q with
  |tup e q2=>
   refine .tup (λz=>?_) e ?_
   ·obtain⟨xs,e2⟩:=dm _ z;rw[e] at e2;cases e2
   ·cases q2 with
    |cons a b=>
     cases b with
     |cons b c=>cases c;cases a;cases b;exact .cons (.int _) (.cons (.int _) .nil)
@[irreducible] def sortPD:List Qc->(Qc->Prop)->Prop:=λds Q=>∃L:List (Int×Int),ds=[.list (L.map pairD)]/\L.Nodup/\L.length<64/\(∀p∈L,0<=p.2/\p.2<64)/\∀M:List (Int×Int),M.Perm L->M.Pairwise plt->Q (.list (M.map pairD))
theorem sortP_of{L:List (Int×Int)}{Q:Qc->Prop}(h1:L.Nodup)(h2:L.length<64)(h3:∀p∈L,0<=p.2/\p.2<64)(k:∀M:List (Int×Int),M.Perm L->M.Pairwise plt->Q (.list (M.map pairD))):sortPD [.list (L.map pairD)] Q:=by
 unfold sortPD;exact⟨L,rfl,h1,h2,h3,k⟩
theorem cd_sortP:QcC Qlh sortPD:=λA P H vs ds R Q ln dm q h k=>by
 unfold sortPD at h;obtain⟨L,rfl,h1,h2,h3,hR⟩:=h;obtain⟨v,rfl,hv⟩:=pd1 q;obtain⟨l,xs,rfl,e,qq⟩:=hv.list;refine⟨l,xs,L,rfl,e,Qae _ _ (ZY L) qq,h1,h2,h3,λt ys M H2 s n e2 dts pm pw=>?_⟩;have dm2:∀a,A a->∃xs,H2 a=some (.lst xs):=λa z=>by obtain⟨xs,e⟩:=dm a z;exact⟨xs,s _ _ e⟩
 have pl:M.Pairwise plt:=by
  have hb:∀p∈M,0<=p.2/\p.2<64:=λp hp=>h3 p (pm.mem_iff.mp hp)
  refine Qdy (λ{a b} ha hb' hc=>?_) pw;have:=hb a ha;have:=hb b hb';have hc:64*a.1+a.2<64*b.1+b.2:=hc;show a.1<b.1∨(a.1=b.1/\a.2<b.2);omega
 refine k _ (hR M pm pl) _ H2 s (.lst (λz=>?_) e2 (Qd9 dm2 dts)) (QaF n);obtain⟨xs,e⟩:=dm t z;rw[n] at e;cases e
end Rk
namespace L2
open _root_.Rd _root_.Rk _root_.Rs
section
variable{X:Cx}
def Qlg:List V->Hp->VK->Prop:=λxs H Q=>∃(l:Addr)(vs:List V)(L:List (Int×Int)),xs=[.ref l]/\H l=some (.tup vs)/\Dats H vs (L.map Rk.pairD)/\L.Nodup/\L.length<64/\(∀ij∈L,0<=ij.2/\ij.2<64) /\
 ∀(t:Addr)(ys:List V)(M:List (Int×Int))(H2:Hp),Same H H2->H t=none->H2 t=some (.lst ys)->Dats H2 ys (M.map Rk.pairD)->M.Perm L->M.Pairwise (λa b=>Rs.code a<Rs.code b)->Q (.ref t) H2
theorem Qec:CallR X (.builtin "sorted") Qlg:=by
 intro pins s σ H xs us Q I r h;obtain⟨l,vs,L,rfl,hl,ds,nd,h64,hb,q⟩:=h;obtain⟨u,rfl,ru⟩:=vals1 r;cases ru;obtain⟨hz,its,rv,o,ho,hc,_,n,hd⟩:=I.hok l _ hl;have pv:=QdV I.hok ds rv;have lv:=ds.length;rw[Qg] at lv;have li:=rv.length;have lp:=pv.len;refine Qbk (.inr rfl) ho hc hd (by omega) λh' kp P E' hP=>?_
 refine Qbv (s:={ s with heap:=h'.push (seqObj "list" its.toArray 0) }) (vs:=its) (L:=L) (Qs _ rfl) (by omega) (λh2 k2=>?_) nd hb λp g ad h2 e k2 e2=>hP _ ?_
 ·exact(pv.keep kp).keep λb x e=>k2 b x (Qx (Qo e)) (Qd _ e)
 ·have I1:Inv X pins σ H { s with heap:=h' }:=I.kept (t':=s.toks) kp;have hf:H h'.objs.size=none:=I1.hok.fresh (Qh _);have hp:∀i∈p.toList,i<vs.length:=λi hi=>by have:=JI.mp (g.perm.mem_iff.mp hi);omega
  have I2:Inv X pins σ (upd H h'.objs.size (.lst (p.toList.map λi=>vs.getD i .non))) { s with heap:=h2 }:=
   I1.laid (t':=s.toks) (λb x e'=>k2 b x (Qx (Qo e')) (Qd _ e')) (Qh _) (show ObjOk X.prog X.w _ _ _ (.lst _) from⟨by rw[Qg,Jg,g.size];exact Zw (Rk.Qaq (by omega)),_,e,Qfm λi hi=>Qhn rv i (hp i hi),e2⟩)
  have g':Good L.length p:=by rw[<- lp];exact g
  have ad':Adj (λi=>Rs.code (L.getD i (0,0))) p L.length:=by rw[<- lp];exact ad
  refine⟨.ref h'.objs.size,_,I2,rfl,q _ _ (p.toList.map λi=>L.getD i (0,0)) _ (Jn hf) hf upd_same (QfY λi hi=>(QhL ds i (hp i hi)).same (Jn hf)) (QgJ g') (QgI g' ad' λi j hi hj e=>?_)⟩;have bi:0<=(L.getD i (0,0)).2/\(L.getD i (0,0)).2<64:=by rw[QJ,Qi hi];exact hb _ (YH _)
  have bj:0<=(L.getD j (0,0)).2/\(L.getD j (0,0)).2<64:=by rw[QJ,Qi hj];exact hb _ (YH _)
  unfold Rs.code at e;have e':L.getD i (0,0)=L.getD j (0,0):=Qdw (by omega) (by omega);rw[QJ,QJ,Qi hi,Qi hj] at e';have pw:=ZL.mp nd;rcases Qbj i j with z | z | z
  ·exact absurd e' (pw i j hi hj z)
  ·exact z
  ·exact absurd e'.symm (pw j i hj hi z)
end
end L2
namespace Rk
open L2 _root_.Rd Dl Rt
@[irreducible] def QcN:List Qc->(Qc->Prop)->Prop:=λds Q=>∃L:List (Int×Int),ds=[.tuple (L.map pairD)]/\L.Nodup/\L.length<64/\(∀p∈L,0<=p.2/\p.2<64)/\∀M:List (Int×Int),M.Perm L->M.Pairwise plt->Q (.list (M.map pairD))
theorem Qgq{L:List (Int×Int)}{Q:Qc->Prop}(h1:L.Nodup)(h2:L.length<64)(h3:∀p∈L,0<=p.2/\p.2<64)(k:∀M:List (Int×Int),M.Perm L->M.Pairwise plt->Q (.list (M.map pairD))):QcN [.tuple (L.map pairD)] Q:=by
 unfold QcN;exact⟨L,rfl,h1,h2,h3,k⟩
theorem QgS:QcC Qlg QcN:=λA P H vs ds R Q ln dm q h k=>by
 unfold QcN at h;obtain⟨L,rfl,h1,h2,h3,hR⟩:=h;obtain⟨v,rfl,hv⟩:=pd1 q;obtain⟨l,xs,rfl,e,qq⟩:=hv.tuple;refine⟨l,xs,L,rfl,e,Qae _ _ (ZY L) qq,h1,h2,h3,λt ys M H2 s n e2 dts pm pw=>?_⟩;have dm2:∀a,A a->∃xs,H2 a=some (.lst xs):=λa z=>by obtain⟨xs,e⟩:=dm a z;exact⟨xs,s _ _ e⟩
 have pl:M.Pairwise plt:=by
  have hb:∀p∈M,0<=p.2/\p.2<64:=λp hp=>h3 p (pm.mem_iff.mp hp)
  refine Qdy (λ{a b} ha hb' hc=>?_) pw;have:=hb a ha;have:=hb b hb';have hc:64*a.1+a.2<64*b.1+b.2:=hc;show a.1<b.1∨(a.1=b.1/\a.2<b.2);omega
 refine k _ (hR M pm pl) _ H2 s (.lst (λz=>?_) e2 (Qd9 dm2 dts)) (QaF n);obtain⟨xs,e⟩:=dm t z;rw[n] at e;cases e
def Qlc:DF:=λargs R _=>∃(h w:Nat)(f:Nat->Nat->Bool),args=[.v (bdD h w (cellsF h w f))]/\h<=6/\w<=6/\R (bdD h w (cellsF h w (QgB f)))
end Rk
namespace HT
section
open PySem.SeqAt
open PySem.AutoSeq1 (wpAny_loadPart')
open PySem.MeetsSeq PySem.MeetsSeq2 PySem.MeetsSeq3
end
section
variable{prog:Qw}{w:Ja}{A:Q9}{E:Value->Shared->Prop}{s:Shared}
end
end HT
namespace L2
end L2
namespace Dl
open L2 _root_.Rd Rk Rt
end Dl
namespace Rk
open L2 _root_.Rd Dl Rt
def tF(f:Nat->Nat->Bool):Nat->Nat->Bool:=λr c=>f c r
end Rk
namespace Dl
open L2 _root_.Rd Rk
section
variable{X:Cx}{E:XK}{i:Nat}{st:ZM}{we wa wb:DE}
end
end Dl
namespace L2
section
variable{X:Cx}{pins:List (Addr×Obj)}{σ:St}{H H3:Hp}{s3:Shared}{M:List Str}{scope:Y4}{cap:List (Option Nat)}{fp:List Addr}{h4:JR}{t4:Nat}
end
section
variable{X:Cx}{pins:List (Addr×Obj)}{σ:St}{H:Hp}
end
end L2
namespace Rk
open L2 _root_.Rd Dl
end Rk
namespace Dl
open L2
section
variable{X:Cx}{E:XK}
end
end Dl
namespace L2
section
variable{X:Cx}{pos:Pos}
end
end L2
namespace Dl
open L2 _root_.Rd Rk
section
variable{X:Cx}{E:XK}{st:ZM}
end
end Dl
namespace Rk
open L2 _root_.Rd
def top(i:Nat):ZM:=PySem.Challenge.pw_rooklands_k91_benches_and_deeds.main.body.getD i (.Pass ⟨0,0,0,0⟩)
abbrev QeJ:ZM:=top 22
abbrev QcP:ZM:=top 23
abbrev QeL:ZM:=top 26
abbrev Qjg:ZM:=top 27
abbrev QeK:ZM:=top 28
abbrev sWo:ZM:=top 31
abbrev Qjh:ZM:=top 32
abbrev QcQ:ZM:=top 34
abbrev Qji:ZM:=top 36
abbrev Qjf:ZM:=top 37
abbrev sRow:ZM:=top 38
abbrev QeM:ZM:=top 40
abbrev sRnp:ZM:=top 43
abbrev sRtm:ZM:=top 44
abbrev QcX:ZM:=top 46
abbrev lPot:ZM:=top 47
abbrev Qjz:ZM:=top 48
abbrev QjF:ZM:=top 49
abbrev Qdl:ZM:=top 50
abbrev Qe0:ZM:=top 51
abbrev lRef:ZM:=top 52
abbrev lBeh:ZM:=top 53
abbrev QjD:ZM:=top 54
abbrev lCnt:ZM:=top 55
abbrev QjB:ZM:=top 56
abbrev QjC:ZM:=top 57
abbrev QjA:ZM:=top 58
abbrev QjE:ZM:=top 59
abbrev QeZ:ZM:=top 60
abbrev sLaw:ZM:=top 61
section
variable{P:Qw}{w:Ja}{K:PySem.W.Frag}{mg:Str->Option Value}{base:JR}
theorem QnX:Jc ["_law_script", "_law_k"] ["_law_script", "_law_k"] (Qm QcX):=⟨rfl,rfl,rfl,by decide +kernel,rfl,by decide +kernel,by decide +kernel⟩
theorem Ql5{f:Addr}{fd:Qq}(F:Fun K "_law_cell_at" "_law_cell_at" QcX f fd)(T:GlbA mg):FnOk P w K mg base CX0 1 f fd ["_law_script", "_law_k"] (Qfu K):=by
 refine F.ok QnX (λvs H Q E h=>?_) (λcdv A outer s H vs Q E hr h=>?_)
 ·obtain⟨a,ns,k,rfl,_⟩:=h;rfl
 ·obtain⟨a,ns,n,rfl,hs,hl,h0,k⟩:=h;refine⟨_,QR (Qbf (ZS Qjr (pv 1) (pe_callB ZR (by rfl) T.len Qby (pa_cons (pv 0) pa_nil)) (JN _)) (Ji (Zy (pe_ix ix_list (pv 0) (pv 1) (λ_ _=>rfl)))) Z2) (Ji (Zy pe_int)),?_⟩;refine⟨_,rfl,_,rfl,a,_,rfl,.inl hs,_,_,rfl,rfl,_,rfl,?_⟩;refine Qy2 (λhlt=>?_) (λ_=>k 0);have hlt':n<(ns.map V.int).length:=of_decide_eq_true hlt;rw[Qg] at hlt';obtain⟨j,rfl⟩:=Int.eq_ofNat_of_zero_le h0;have hj:j<ns.length:=by omega
  refine⟨_,rfl,_,rfl,a,_,_,.int ns[j],rfl,rfl,hs,JB ?_,k _⟩;rw[QC,Qi hj];rfl
theorem Qje:Jc ["_law_cell", "_law_number", "_law_j", "_law_more"] ["_law_cell"] (Qm lPot):=⟨rfl,rfl,rfl,by decide +kernel,rfl,by decide +kernel,by decide +kernel⟩
theorem QvJ{f:Addr}{fd:Qq}(F:Fun K "_law_pot" "_law_pot" lPot f fd)(T:GlbA mg):FnOk P w K mg base CX0 1 f fd ["_law_cell"] Qr2:=by
 refine F.ok Qje (λvs H Q E h=>?_) (λcdv A outer s H vs Q E hr h=>?_)
 ·obtain⟨c,rfl,_⟩:=h;rfl
 ·obtain⟨c,rfl,k⟩:=h;refine⟨_,QR (Qbf (ZS Qyb (pv 0) (pe_op QlQ pe_int pe_int) (JN _)) (Ji (Zy (Qrc (pa_cons (pe_op QeT (pv 0) (pe_op QlQ pe_int pe_int)) pa_nil)))) Z2)
   (QR (ZQ (i:=1) Qje.nd rfl (QF rfl) pe_int)
   (QR (Qdh Za rfl (Qbp (by rfl) T.range (pa_cons pe_int pa_nil)) (Zo (i:=2) Qje.nd rfl (QF rfl))
    (QR (ZQ (i:=3) Qje.nd rfl (QF rfl) (pe_op QeV (pe_op QeU (pe_op op_add (pe_op op_add (pe_op QeV (pv 0) pe_int) (pe_op QeU pe_int (pv 2))) pe_int) pe_int) pe_int))
    (QR (ZQ (i:=3) Qje.nd rfl (QF rfl) (pe_op QeV (pe_op op_add (pe_op op_add (pe_op QeU (pv 3) (pv 3)) (pe_op QeU pe_int (pv 2))) pe_int) pe_int))
    (Ji (ZQ (i:=1) Qje.nd rfl (QF rfl) (pe_op op_add (pe_op QeU (pv 1) pe_int) (pv 3)))))))
   (Ji (Zy (Qrc (pa_cons (pv 1) pa_nil)))))),?_⟩
  refine⟨_,rfl,_,_,rfl,rfl,⟨by decide,by decide,by decide⟩,_,_,rfl,rfl,_,rfl,?_⟩;refine Qy2 (λ_=>?_) (λ_=>?_)
  ·exact⟨_,rfl,_,_,rfl,rfl,⟨by decide,by decide,by decide⟩,_,_,rfl,rfl,by show 1<=sizeLine;decide,λp hp=>k p _ hp⟩
  ·refine⟨64,rfl,by decide,by decide,Qcw (n:=64) (λi σ H2=>∃n v u,σ=[some (.int c),some (.int n),v,u]/\H2=H) ⟨0,none,none,rfl,rfl⟩ ?_ ?_⟩
   ·rintro i σ H2 hi ⟨n,v,u,rfl,rfl⟩;have b1:=QiC ((c % 2147483629+7919*(0+(i:Int))+1)*48271) (m:=2147483647) (by decide);refine⟨_,rfl,_,_,rfl,rfl,by show(0:Int)<2147483629;decide,_,rfl,_,_,rfl,rfl,.inl ⟨by decide,by decide⟩,_,_,rfl,rfl,_,_,rfl,rfl,_,_,rfl,rfl,.inr ⟨by decide,by decide⟩,_,_,rfl,rfl,by show(0:Int)<2147483647;decide,?_⟩;refine⟨_,rfl,_,rfl,_,_,rfl,rfl,.inl ⟨by omega,by omega⟩,_,rfl,_,_,rfl,rfl,.inl ⟨by decide,by decide⟩,_,_,rfl,rfl,_,_,rfl,rfl,_,_,rfl,rfl,by show(0:Int)<2147483587;decide,?_⟩;exact⟨_,rfl,_,_,rfl,rfl,.inr ⟨by decide,by decide⟩,_,rfl,_,_,rfl,rfl,_,_,_,rfl,rfl⟩
   ·rintro σ H2 ⟨n,v,u,rfl,rfl⟩;exact⟨_,rfl,by show 1<=sizeLine;decide,λp hp=>k p _ hp⟩
theorem QpZ:Jc ["_law_pot_here", "_law_far", "_law_found"] ["_law_pot_here", "_law_far"] (Qm Qjz):=⟨rfl,rfl,rfl,by decide +kernel,rfl,by decide +kernel,by decide +kernel⟩
theorem Ql0{f:Addr}{fd:Qq}(F:Fun K "_law_take" "_law_take" Qjz f fd)(T:GlbA mg):FnOk P w K mg base CX0 1 f fd ["_law_pot_here", "_law_far"] QdB:=by
 refine F.ok QpZ (λvs H Q E h=>?_) (λcdv A outer s H vs Q E hr h=>?_)
 ·obtain⟨p,n,m,rfl,_⟩:=h;rfl
 ·obtain⟨p,n,m,rfl,hp,h0,h1,k⟩:=h;refine⟨_,QR (ZQ (i:=2) QpZ.nd rfl (QF rfl) (pe_op QeV (pe_ix ix_list (pv 0) pe_int (λ_ _=>rfl)) (pv 1)))
   (QR (Qdi (pe_op QoA (pe_ix ix_list (pv 0) pe_int (λ_ _=>rfl)) (pv 1)) (QlE (pv 0) pe_int QdC))
   (Ji (Zy (pv 2)))),?_⟩
  have b:=QiC n h0;exact⟨_,rfl,p,_,_,_,rfl,rfl,SqL.of hp,rfl,_,rfl,_,_,rfl,rfl,h0,_,rfl,p,_,_,_,rfl,rfl,SqL.of hp,rfl,_,rfl,_,_,rfl,rfl,⟨h0,h1⟩,_,rfl,p,_,_,_,rfl,rfl,hp,rfl,_,rfl,k _ _ b.1 b.2⟩
end
end Rk
namespace Rk
open L2 _root_.Rd
open Dl
open Rt
def QrT:DF:=λargs R _=>∃(h w:Nat)(f:Nat->Nat->Bool),args=[.v (bdD h w (cellsF h w f))]/\h<=6/\w<=6/\R (bdD w h (cellsF w h (tF f)))
structure Bo where
 h:Nat
 w:Nat
 f:Nat->Nat->Bool
def Bo.d(b:Bo):Qc:=bdD b.h b.w (cellsF b.h b.w b.f)
structure Bo.ok (b:Bo):Prop where
 h1:1<=b.h
 h6:b.h<=6
 w1:1<=b.w
 w6:b.w<=6
inductive Deed where
 |put (x y:Qc) | take (x y:Qc) | row | col | turn | rest | undo
def Deed.wd:Deed->Str
 |.put _ _ => "put" | .take _ _ => "take" | .row => "row" | .col => "column" | .turn => "turn" | .rest => "rest" | .undo => "undo"
def Deed.told:Deed->List Qc
 |.put x y=>[x,y] | .take x y=>[x,y] | _=>[]
def nI:Qc->Nat
 |.int i=>i.toNat
 |_=>0
def inP(b:Bo)(x y:Qc):Bool:=Qiu b.h b.w (.tuple [x,y])
def QjS:Deed->Bo->Option Str
 |.put x y,b=>if inP b x y=true then(if b.f (nI x) (nI y)=true then some "double" else none) else some "place"
 |.take x y,b=>if inP b x y=true then(if b.f (nI x) (nI y)=true then none else some "cell") else some "place"
 |.row,b=>if b.h=6 then some "many" else none
 |.col,b=>if b.w=6 then some "many" else none
 |_,_=>none
def Qbt:Deed->Bo->Bo
 |.put x y,b=>⟨b.h,b.w,Qur b.f (nI x) (nI y) true⟩
 |.take x y,b=>⟨b.h,b.w,Qur b.f (nI x) (nI y) false⟩
 |.row,b=>⟨b.h+1,b.w,λr c=>b.f r c&&decide (r<b.h)⟩
 |.col,b=>⟨b.h,b.w+1,λr c=>b.f r c&&decide (c<b.w)⟩
 |.turn,b=>⟨b.w,b.h,tF b.f⟩
 |.rest,b=>⟨b.h,b.w,QgB b.f⟩
 |.undo,b=>b
theorem QjK{b:Bo}{x y:Qc}(h:inP b x y=true):∃r c:Nat,x=.int r/\y=.int c/\r<b.h/\c<b.w:=by
 obtain⟨p,e,h1,h2,h3,h4⟩:=QvV h;obtain⟨i,j⟩:=p;cases e;have h1:0<=i:=h1;have h2:i<b.h:=h2;have h3:0<=j:=h3;have h4:j<b.w:=h4;exact⟨i.toNat,j.toNat,by rw[Qny h1],by rw[Qny h3],by omega,by omega⟩
theorem Qyl{b:Bo}{r c:Nat}(hr:r<b.h)(hc:c<b.w):inP b (.int r) (.int c)=true:=QvU (p:=((r:Int),(c:Int))) (by show 0<=(r:Int);omega) (by show(r:Int)<b.h;omega) (by show 0<=(c:Int);omega) (by show(c:Int)<b.w;omega)
theorem QbH{M:List (Int×Int)}{h w:Nat}{g:Nat->Nat->Bool}(pw:M.Pairwise plt)(m:∀p,p∈M↔p∈cellsF h w g):M=cellsF h w g:=by
 have n1:M.Nodup:=pw.imp QdS;have n2:(cellsF h w g).Nodup:=(pw_cellsF w g h).imp QdS;exact Yx (le:=plt) (λa b _ _ h1 h2=>by rcases h1 with x | x<;>rcases h2 with y | y<;>omega) pw (pw_cellsF w g h) ((QaU n1 n2).mpr m)
theorem QgP(h w:Nat)(f:Nat->Nat->Bool):cellsF (h+1) w (λr c=>f r c&&decide (r<h))=cellsF h w f:=by
 refine(QbH (pw_cellsF w _ _) λp=>?_);rw[JK,JK];constructor
 ·rintro⟨r,c,_,hc,e,rfl⟩;have e:=Q4.mp e;exact⟨r,c,of_decide_eq_true e.2,hc,e.1,rfl⟩
 ·rintro⟨r,c,hr,hc,e,rfl⟩;exact⟨r,c,by omega,hc,by rw[e,decide_eq_true hr];rfl,rfl⟩
theorem QgR(h w:Nat)(f:Nat->Nat->Bool):cellsF h (w+1) (λr c=>f r c&&decide (c<w))=cellsF h w f:=by
 refine(QbH (pw_cellsF (w+1) _ _) λp=>?_);rw[JK,JK];constructor
 ·rintro⟨r,c,hr,_,e,rfl⟩;have e:=Q4.mp e;exact⟨r,c,hr,of_decide_eq_true e.2,e.1,rfl⟩
 ·rintro⟨r,c,hr,hc,e,rfl⟩;exact⟨r,c,hr,by omega,by rw[e,decide_eq_true hc];rfl,rfl⟩
theorem QiK{h w r c:Nat}{f:Nat->Nat->Bool}:(cellsF h w f).filter (λq => !decide (q=((r:Int),(c:Int))))=cellsF h w (Qur f r c false):=by
 refine QbH ((pw_cellsF w f h).filter _) λp=>?_
 rw[Zj,JK,JK];constructor
 ·rintro⟨⟨r',c',hr,hc,e,rfl⟩,z⟩;refine⟨r',c',hr,hc,?_,rfl⟩;have z:¬(((r':Int),(c':Int))=((r:Int),(c:Int)))  := of_decide_eq_false (by cases zz:decide (((r':Int),(c':Int))=((r:Int),(c:Int))) with | false=>rfl | true=>rw[zz] at z;cases z);show(if r'=r/\c'=c then false else f r' c')=true;rw[if_neg (λy=>z (by rw[y.1,y.2]))];exact e
 ·rintro⟨r',c',hr,hc,e,rfl⟩;have e:(if r'=r/\c'=c then false else f r' c')=true:=e;by_cases y:r'=r/\c'=c
  ·rw[if_pos y] at e;cases e
  ·rw[if_neg y] at e;refine⟨⟨r',c',hr,hc,e,rfl⟩,?_⟩;have:¬(((r':Int),(c':Int))=((r:Int),(c:Int))):=λz=>y ⟨by have:=(Zu z).1;omega,by have:=(Zu z).2;omega⟩
   rw[decide_eq_false this];rfl
theorem QgQ{h w r c:Nat}{f:Nat->Nat->Bool}{M:List (Int×Int)}(hr:r<h)(hc:c<w)(pm:M.Perm (cellsF h w f++[((r:Int),(c:Int))]))(pw:M.Pairwise plt):M=cellsF h w (Qur f r c true):=by
 refine QbH pw λp=>?_
 rw[pm.mem_iff,ZA,JL,JK,JK];constructor
 ·rintro(⟨r',c',hr',hc',e,rfl⟩ | rfl)
  ·refine⟨r',c',hr',hc',?_,rfl⟩;show(if r'=r/\c'=c then true else f r' c')=true;split
   ·rfl
   ·exact e
  ·exact⟨r,c,hr,hc,if_pos ⟨rfl,rfl⟩,rfl⟩
 ·rintro⟨r',c',hr',hc',e,rfl⟩;have e:(if r'=r/\c'=c then true else f r' c')=true:=e;by_cases y:r'=r/\c'=c
  ·exact .inr (by rw[y.1,y.2])
  ·rw[if_neg y] at e;exact .inl ⟨r',c',hr',hc',e,rfl⟩
theorem Qlx{h w r c:Nat}{f:Nat->Nat->Bool}(hf:f r c=false):(cellsF h w f++[((r:Int),(c:Int))]).Nodup:=by
 refine QpH.mpr ⟨(pw_cellsF w f h).imp QdS,JE.mpr ⟨Jb,Qa7⟩,λp hp q hq e=>?_⟩;rw[JL] at hq;subst hq;subst e;obtain⟨r',c',_,_,e,z⟩:=JK.mp hp;have e1:=(Zu z).1;have e2:=(Zu z).2;rw[show r'=r by omega,show c'=c by omega,hf] at e;cases e
theorem Qmh{h w:Nat}{f:Nat->Nat->Bool}{r c:Nat}(hr:r<h)(hc:c<w):decide (((r:Int),(c:Int))∈cellsF h w f)=f r c:=by
 rw[ZC,decide_eq_true_eq,JK];constructor
 ·rintro⟨r',c',_,_,hf,e⟩;have e1:(r:Int)=(r':Int):=(Zu e).1;have e2:(c:Int)=(c':Int):=(Zu e).2;rw[show r=r' by omega,show c=c' by omega];exact hf
 ·intro hf;exact⟨r,c,hr,hc,hf,rfl⟩
theorem QtP{b:Bo}{x y:Qc}(h:QjS (.put x y) b=none):∃r c:Nat,x=.int r/\y=.int c/\r<b.h/\c<b.w/\b.f r c=false:=by
 have h:(if inP b x y=true then(if b.f (nI x) (nI y)=true then some ("double" : Str) else none) else some "place")=none:=h;cases z:inP b x y with
 |false=>rw[z] at h;cases h
 |true=>
  rw[z,if_pos rfl] at h;obtain⟨r,c,rfl,rfl,hr,hc⟩:=QjK z;refine⟨r,c,rfl,rfl,hr,hc,?_⟩;cases z2:b.f r c with
  |false=>rfl
  |true=>
   have h:(if b.f r c=true then some ("double" : Str) else none)=none:=h;rw[z2] at h;cases h
theorem Qpf{b:Bo}{x y:Qc}(h:QjS (.take x y) b=none):∃r c:Nat,x=.int r/\y=.int c/\r<b.h/\c<b.w/\b.f r c=true:=by
 have h:(if inP b x y=true then(if b.f (nI x) (nI y)=true then none else some ("cell" : Str)) else some "place")=none:=h;cases z:inP b x y with
 |false=>rw[z] at h;cases h
 |true=>
  rw[z,if_pos rfl] at h;obtain⟨r,c,rfl,rfl,hr,hc⟩:=QjK z;refine⟨r,c,rfl,rfl,hr,hc,?_⟩;cases z2:b.f r c with
  |true=>rfl
  |false=>
   have h:(if b.f r c=true then none else some ("cell" : Str))=none:=h;rw[z2] at h;cases h
theorem Bo.bds{b:Bo}(o:b.ok):Bds b.h b.w (cellsF b.h b.w b.f):=⟨o.h6,o.w6,λp hp=>QaR hp⟩
def QwV(C:Addr):DF:=λargs R EX=>∃(b:Bo)(x y:Qc),args=[.v b.d,.v x,.v y]/\(inP b x y=true->R .none)/\(inP b x y=false->EX C)
def QwU(C:Addr):DF:=λargs R EX=>∃n:Nat,args=[.v (.int n)]/\(n=6->EX C)/\(n≠6->R .none)
def Qld(C:Addr):DF:=λargs R EX=>∃(b:Bo)(r c:Nat),args=[.v b.d,.v (pairD ((r:Int),(c:Int)))]/\r<b.h/\c<b.w/\(b.f r c=false->EX C)/\(b.f r c=true->R .none)
def QxJ(C:Addr):DF:=λargs R EX=>∃(b:Bo)(r c:Nat),args=[.v b.d,.v (pairD ((r:Int),(c:Int)))]/\r<b.h/\c<b.w/\(b.f r c=false->EX C)/\(b.f r c=true->R (Qbt (.take (.int r) (.int c)) b).d)
section
variable{P:Qw}{w:Ja}{K:PySem.W.Frag}{mg:Str->Option Value}{base:JR}
theorem QnO:Jc ["thing"] ["thing"] (Qm QeJ):=⟨rfl,rfl,rfl,by decide +kernel,rfl,by decide +kernel,by decide +kernel⟩
theorem QoB{f   : Addr}{fd  : Qq}(F:Fun K "is_whole" "is_whole" QeJ f fd)(T:GlbA mg) :
  FnOk P w K mg base CX0 1 f fd ["thing"] (ZE false QeG):=by
 refine okQ false F QnO (λargs R EX h=>?_) (λcdv A outer s H E hr=>?_)
 ·obtain⟨d,rfl,_⟩:=h;rfl
 ·have hU:=Room.u60 hr;have hI:=Room.i60 hr;refine⟨_,Jo (Qbl (Qlv (Jt (QeO .int (by rfl) T.isinstance (qp 0) (by rfl) T.int QgY)) (Qlu (Qva (Jt (QeO .bool (by rfl) T.isinstance (qp 0) (by rfl) T.bool Qc4)))))),λargs R EX h=>?_⟩;obtain⟨d,rfl,hR⟩:=h;cases d<;>exact hR
theorem Qk2:Jc ["thing", "least", "most"] ["thing", "least", "most"] (Qm QcP):=⟨rfl,rfl,rfl,by decide +kernel,rfl,by decide +kernel,by decide +kernel⟩
theorem QlY{f f1  : Addr}{fd fd1:Qq}(F:Fun K "is_whole_within" "is_whole_within" QcP f fd)(T:GlbA mg)
  (m1:mg "is_whole" = some (.ref f1))(G1:FnOk P w K mg base CX0 1 f1 fd1 ["thing"] (ZE false QeG))(b1:Binds K fd1 ["thing"] [])(k1:PySem.W.keepIn K (.ref f1)=true) :
  FnOk P w K mg base CX0 2 f fd ["thing", "least", "most"] (ZE false Qfl):=by
 refine okQ false F Qk2 (λargs R EX h=>?_) (λcdv A outer s H E hr=>?_)
 ·obtain⟨d,a,b,rfl,_⟩:=h;rfl
 ·have hU:=Room.u60 hr;have hI:=Room.i60 hr;refine⟨_,Jo (Qbl (Qlv (Jq (Qbo G1 (hr.mono (by decide)) (by rfl) m1 k1 b1 QaD (Qbe (qv 0) Yf))) (Qlu (ZD (Qx1 Qoz Qoz (qp 1) (qp 0) (qp 2)))))),λargs R EX h=>?_⟩;obtain⟨d,a,b,rfl,hR⟩:=h;refine⟨d,rfl,?_⟩;cases d with
  |int i=>exact Qb5 (Qwy hR)
  |_=>exact hR
theorem QnP:Jc ["high", "wide", "thing"] ["high", "wide", "thing"] (Qm QeL):=⟨rfl,rfl,rfl,by decide +kernel,rfl,by decide +kernel,by decide +kernel⟩
theorem QoE{f f1  : Addr}{fd fd1:Qq}(F:Fun K "is_place" "is_place" QeL f fd)(T:GlbA mg)
  (m1:mg "is_whole_within" = some (.ref f1))(G1:FnOk P w K mg base CX0 2 f1 fd1 ["thing", "least", "most"] (ZE false Qfl))(b1:Binds K fd1 ["thing", "least", "most"] [])(k1:PySem.W.keepIn K (.ref f1)=true) :
  FnOk P w K mg base CX0 3 f fd ["high", "wide", "thing"] (ZE false QlC):=by
 refine okQ false F QnP (λargs R EX h=>?_) (λcdv A outer s H E hr=>?_)
 ·obtain⟨h,w,d,rfl,_⟩:=h;rfl
 ·have hU:=Room.u60 hr;have hI:=Room.i60 hr;refine⟨_,Jf (QaN (Qsq (Qjk (Qco (Qde (Jt (QeO .tuple (by rfl) T.isinstance (qp 2) (by rfl) T.tuple Zs)))) (Qig (ZP QgA (Ql8 hU) (Jt (Qao Qcz QiM (by rfl) T.len Qby (Qdg (qp 2) Jl))) (Jq JT) (JN _))))) (Jo (Qbl QwX)) ZJ)
   (Jo (Qbl (Qlv (Jq (Qbo G1 (hr.mono (by decide)) (by rfl) m1 k1 b1 QaD (Qbe (QcS ZK YT (qp 2) (Jq JT) (λ_ _=>rfl)) (Qbe JT (Qbe (ZD (Qad QeT QdY (qp 0) (Jq JT))) Yf))))) (Qlu (Qbo G1 (hr.mono (by decide)) (by rfl) m1 k1 b1 QaD (Qbe (QcS ZK YT (qp 2) (Jq JT) (λ_ _=>rfl)) (Qbe JT (Qbe (ZD (Qad QeT QdY (qp 1) (Jq JT))) Yf)))))))),λargs R EX h=>?_⟩
  obtain⟨h,w,d,rfl,hR⟩:=h;cases d with
  |tuple ds=>
   match ds,hR with
   |[a,b],hR=>
    refine⟨a,rfl,_,_,_,rfl,?_⟩;refine Qud hR λ_ hR=>?_
    exact⟨b,rfl,_,_,_,rfl,hR⟩
   |[],hR=>exact hR
   |[_],hR=>exact hR
   |a::b::c::r,hR=>
    exact hR
  |_=>exact hR
theorem Qr7:Jc ["board"] ["board"] (Qm Qji):=⟨rfl,rfl,rfl,by decide +kernel,rfl,by decide +kernel,by decide +kernel⟩
theorem Qte{f   : Addr}{fd  : Qq}(F:Fun K "most_size" "most_size" Qji f fd)(T:GlbA mg) :
  FnOk P w K mg base CX0 1 f fd ["board"] (ZE false Qtu):=by
 refine okQ false F Qr7 (λargs R EX h=>?_) (λcdv A outer s H E hr=>?_)
 ·obtain⟨h,w,cs,rfl,_⟩:=h;rfl
 ·have hU:=Room.u60 hr;have hI:=Room.i60 hr;refine⟨_,Jo (YJ (Qao (call_min2 rfl) Qps (by rfl) T.min bt_min (Qdg (Jq (QcS ZK YT (qp 0) (Jq JT) (λ_ _=>rfl))) (Qdg (Jq (QcS ZK YT (qp 0) (Jq JT) (λ_ _=>rfl))) Jl)))),λargs R EX h=>?_⟩;obtain⟨h,w,cs,rfl,hR⟩:=h;exact⟨_,JB (j:=0) rfl,_,JB (j:=1) rfl,Qtv (by split<;>omega) hR⟩
theorem QcO:Jc ["below", "columns", "taken", "ways", "column", "bit", "size", "many"] ["below", "columns", "taken"] (Qm sRow):=⟨rfl,rfl,rfl,by decide +kernel,rfl,by decide +kernel,by decide +kernel⟩
theorem Qs9{f   : Addr}{fd  : Qq}(F:Fun K "ways_with_row" "ways_with_row" sRow f fd)(T:GlbA mg) :
  FnOk P w K mg base CX0 1 f fd ["below", "columns", "taken"] (ZE true QrO):=by
 refine okQ true F QcO (λargs R EX h=>?_) (λcdv A outer s H E hr=>?_)
 ·obtain⟨h,w,B,cols,t,rfl,_⟩:=h;rfl
 ·have hU:=Room.u60 hr;have hI:=Room.i60 hr;refine⟨_,Jf (QdP 3 (Z5 Qa5 QmX (by rfl) T.list Qc3 (Qdg (Jq (QcS ZK YT (qp 0) (qp 2) (λ_ _=>rfl))) Jl)) QcO.nd)
   (Jf (Qii Za rfl (Qso (qv 1)) (Qam 4 QcO.nd rfl (by first | exact QF rfl | exact QK rfl))
    (Jf (Qdf 5 (ZD (Qad QlP Ql9 (Jq JT) (qp 4))) QcO.nd)
   (Jo (QaN (Qco (Qlp (Jt (Qad QvF QdY (qp 2) (qp 5))))) (Jo (Qii Za rfl (Qij (by rfl) T.enumerate (ZD (Qlt (Jq (QcS ZK YT (qp 0) (Jt (Qad Qya QdY (qp 2) (qp 5))) (λ_ _=>rfl))) Qls (Qlr (Jt (Qvc (Jq JT))))))) (Qbm rfl (Zb 6 (Zb 7 Qbn QcO.nd rfl (by first | exact QF rfl | exact QK rfl)) QcO.nd rfl (by first | exact QF rfl | exact QK rfl)))
    (Jo (Qsn 3 QvX Qtp (Jt (Qad QaE QbS (qp 6) (Jq JT))) (qp 7))))) ZJ))))
   (Jo (Qlq 3))),λargs R EX h=>?_⟩
  obtain⟨h,w,B,cols,t,rfl,ht,hc,h6,w6,hR⟩:=h;refine⟨_,JB (Qho ht),?_⟩;refine Qd7 (λj δ=>∃ds x4 x5 x6 x7,δ=[.v (.list (Qi7 h w B)),.v (.list (QtE cols)),.v (.int t),.own ds,x4,x5,x6,x7]/\ds=QdD h (QdM B (cols.take j) t)) ⟨_,_,_,_,_,rfl,QaM λk _=>?_⟩ ?_ ?_
  ·show B t k=B t k+if k=0 then 0 else 0
   split<;>omega
  ·rintro j d δ hd ⟨ds,x4,x5,x6,x7,rfl,rfl⟩;unfold QtE at hd;rw[QC] at hd;obtain⟨c,ec,rfl⟩:∃c:Nat,cols[j]? = some c/\d=.int (c:Int):=by
    cases e:cols[j]? with
    |none=>rw[e] at hd;cases hd
    |some p=>rw[e] at hd;cases hd;exact⟨p,rfl,rfl⟩
   have hcw:=hc c (Q3 ec);have et:cols.take (j+1)=cols.take j++[c]:=by rw[Zx,ec];rfl
   refine⟨⟨by omega,by omega,by decide⟩,trivial,?_⟩;show if(!tru (.int (Qce (t:Int) (1*2^((c:Nat):Int).toNat))))=true then _ else _
   rw[Que ht hcw w6];cases hb:t.testBit c with
   |true=>
    have np:(2:Int)^c≠0:=by
     have:(0:Int)<2^c:=Int.pow_pos (by decide);omega
    rw[if_pos rfl];refine ifF ?_ ⟨_,_,_,_,_,rfl,QaM λk _=>?_⟩
    ·show(!((2:Int)^c != 0))=false;simp[np]
    ·unfold QdM;rw[et,QdL,if_pos hb,Ym]
   |false=>
    refine ifT rfl ?_
    have olt:=Qx9 ht hcw;refine⟨.list (QdD h (B (t ||| 2^c))),?_,?_⟩
    ·show atI (Qi7 h w B) (QcK (t:Int) (1*2^((c:Nat):Int).toNat))=_;rw[Qvz ht hcw w6];exact JB (Qho olt)
    ·show Quj (QgL (Dl.cutD (QdD h (B (t ||| 2^c))) none (some (-1)))) _ _ _ _;rw[Qn3];refine Qd7 (λi δ=>∃ds x6 x7,δ=[.v (.list (Qi7 h w B)),.v (.list (QtE cols)),.v (.int t),.own ds,.v (.int c),.v (.int (1*2^((c:Nat):Int).toNat)),x6,x7]/\ds=QdD h (λk=>QdM B (cols.take j) t k+if 1<=k/\k<=i then B (t ||| 2^c) (k - 1) else 0)) ⟨_,_,_,rfl,QaM λk _=>?_⟩ ?_ ?_
     ·rw[if_neg (by omega),Ym]
     ·rintro i d δ hd ⟨ds,x6,x7,rfl,rfl⟩;obtain⟨e,he,rfl⟩:=QfV hd;rw[QC] at he;have hi:i<h:=by
       by_cases z:i<h
       ·exact z
       ·rw[Jr (by rw[Q8];omega)] at he;cases he
      rw[JC hi] at he;cases he;refine⟨rfl,i+1,_,?_,QcR (by omega),_,_,_,rfl,?_⟩
      ·rw[QbC];exact QhF (k:=i+1) (by omega)
      ·rw[Qn1 (by omega)];refine QaM λk hk=>?_
       show(if k=i+1 then(QdM B (cols.take j) t (i+1)+if 1<=i+1/\i+1<=i then B (t ||| 2^c) (i+1 - 1) else 0)+B (t ||| 2^c) i else QdM B (cols.take j) t k+if 1<=k/\k<=i then B (t ||| 2^c) (k - 1) else 0)=QdM B (cols.take j) t k+if 1<=k/\k<=i+1 then B (t ||| 2^c) (k - 1) else 0
       by_cases z:k=i+1
       ·subst z;rw[if_pos rfl,if_neg (by omega),if_pos (by omega),QpF,Ym]
       ·rw[if_neg z];by_cases z2:1<=k/\k<=i
        ·rw[if_pos z2,if_pos (by omega)]
        ·rw[if_neg z2,if_neg (by omega)]
     ·rintro δ ⟨ds,x6,x7,rfl,rfl⟩;rw[QfU,Qg,Q8];refine⟨_,_,_,_,_,rfl,QaM λk hk=>?_⟩;unfold QdM;rw[et];by_cases z:k=0
      ·subst z;rw[if_pos rfl,if_neg (by omega),if_pos rfl];omega
      ·rw[if_neg z,if_neg z,if_pos (by omega),QdL,if_neg (by rw[hb];decide)];omega
  ·rintro δ ⟨ds,x4,x5,x6,x7,rfl,rfl⟩;unfold QtE;rw[Qg,Zm];exact hR
theorem QoQ:(["taken", "high"]:List Str).Nodup:=by decide +kernel
theorem Qir:(["at", "column", "row"]:List Str).Nodup:=by decide +kernel
theorem QoP:(["taken", "columns", "table"]:List Str).Nodup:=by decide +kernel
theorem QbX:Jc ["board", "high", "wide", "cells", "table", "row", "columns"] ["board"] (Qm Qjf):=⟨rfl,rfl,rfl,by decide +kernel,rfl,by decide +kernel,by decide +kernel⟩
theorem Qta{f f1  : Addr}{fd fd1:Qq}(F:Fun K "ways_to_go_on" "ways_to_go_on" Qjf f fd)(T:GlbA mg)
  (m1:mg "ways_with_row" = some (.ref f1))(G1:FnOk P w K mg base CX0 1 f1 fd1 ["below", "columns", "taken"] (ZE true QrO))(b1:Binds K fd1 ["below", "columns", "taken"] [])(k1:PySem.W.keepIn K (.ref f1)=true) :
  FnOk P w K mg base CX0 2 f fd ["board"] (ZE true QrP):=by
 refine okQ true F QbX (λargs R EX h=>?_) (λcdv A outer s H E hr=>?_)
 ·obtain⟨h,w,cs,rfl,_⟩:=h;rfl
 ·have hU:=Room.u60 hr;have hI:=Room.i60 hr;refine⟨_,Jf (QeN (qv 0) (Qbm rfl (Zb 1 (Zb 2 (Zb 3 Qbn QbX.nd rfl (by first | exact QF rfl | exact QK rfl)) QbX.nd rfl (by first | exact QF rfl | exact QK rfl)) QbX.nd rfl (by first | exact QF rfl | exact QK rfl))))
   (Jf (QdP 4 (QfF (ZF (ZD (QbR ["taken", "high"] [none,some 1] (Qb0 (by rfl) T.range (Jt (Qad QlP Ql9 (Jq JT) (qp 2)))) (λcl ex s3 H3 C=>⟨(Qam 0 QoQ rfl (QF rfl) (QK rfl)),QdO,(ZD (Qad QaE QbS (Jt (QfF (ZF JT Jl))) (Jt (Qad QlU Qrg (Jt (QfF (ZF JT Jl))) (qp 1)))))⟩))) Jl)) QbX.nd)
   (Jf (Qii Za rfl (Qsp (by rfl) T.reversed (by rfl) T.range (qp 1)) (Qam 5 QbX.nd rfl (by first | exact QF rfl | exact QK rfl))
    (Jf (Qdf 6 (ZD (QbR ["at", "column", "row"] [none,none,some 5] (Qgv (qp 3)) (λcl ex s3 H3 C=>⟨(Qbm rfl (Zb 0 (Zb 1 Qbn Qir rfl (QF rfl) (QK rfl)) Qir rfl (QF rfl) (QK rfl))),(QbZ (ZP Qbs (QdZ hU) (qp 0) (qp 2) (JN _))),(qv 1)⟩))) QbX.nd)
   (Jo (Qu7 4 JT (ZD (QbR ["taken", "columns", "table"] [none,some 6,some 4] (Qb0 (by rfl) T.range (Jt (Qad QlP Ql9 (Jq JT) (qp 2)))) (λcl ex s3 H3 C=>⟨(Qam 0 QoP rfl (QF rfl) (QK rfl)),QdO,(ZD (Qan G1 (hr.mono (by decide)) (by rfl) m1 k1 b1 QaD (Qbe (QcS ZK YT (qp 2) (Jq JT) (λ_ _=>rfl)) (Qbe (qv 1) (Qbe (qv 0) Yf)))))⟩)))))))
   (Jo (Qlq 4)))),λargs R EX h=>?_⟩
  obtain⟨h,w,cs,rfl,h6,w6,hb,hR⟩:=h;refine⟨rfl,⟨by omega,by omega,by decide⟩,?_,QiJ (λ_=>.list (QD 1::QZ h (.int 0))) (λd hd k2 hk=>?_) ?_⟩
  ·exact Qp7 w6
  ·refine⟨⟨by omega,by omega,by rw[Qy];show 1*h<=_;omega⟩,?_⟩;rw[Qy,Qsf];refine⟨by rw[Qaf];show 1+h<=_;omega,hk⟩
  ·have e0:(QfC 0 (1*2^((w:Nat):Int).toNat:Int).toNat).map (λ_=>YC (QD 1::QZ h (.int 0)))=Qi7 h w (Wc cs h 0):=by
    rw[QfK,Qy];unfold QfC Qi7;rw[Q1];refine ZB λt _=>?_
    show YC _=YC _;rw[Qn2]
   rw[e0];refine⟨⟨by omega,by omega⟩,Qd7 (λi δ=>∃ds x5 x6,δ=[.v (bdD h w cs),.v (.int h),.v (.int w),.v (.tuple (cs.map pairD)),.own ds,x5,x6]/\ds=QpQ cs h w i) ⟨_,_,_,rfl,rfl⟩ ?_ ?_⟩
   ·rintro i d δ hd ⟨ds,x5,x6,rfl,rfl⟩;obtain⟨hi,rfl⟩:=Qie hd;rw[Qy] at hi;have er:((((h:Nat):Int).toNat:Nat):Int) - 1 - (i:Int)=((h - 1 - i:Nat):Int):=by omega
    rw[er];refine QjW (λd=>if(toP d).1=((h - 1 - i:Nat):Int) then some (.int (toP d).2) else none) (λd hd k1 k2 h1 h2=>?_) ?_
    ·obtain⟨p,_,rfl⟩:=QH.mp hd;have h1:(if p.1=((h - 1 - i:Nat):Int) then some (QD p.2) else none)=none->k1:=h1;have h2:∀e,(if p.1=((h - 1 - i:Nat):Int) then some (QD p.2) else none)=some e->k2 e:=h2
     refine⟨rfl,?_⟩;show if decide (p.1=((h - 1 - i:Nat):Int))=true then k2 (.int p.2) else k1
     by_cases z:p.1=((h - 1 - i:Nat):Int)
     ·rw[if_pos (decide_eq_true z)];exact h2 _ (if_pos z)
     ·rw[if_neg (by simpa using z)];exact h1 (if_neg z)
    ·rw[Qwn cs (h - 1 - i) λp hp=>(hb p hp).1];refine⟨⟨by omega,by omega,by decide⟩,?_,QiJ (λd=>match d with | .int t=>.list (QdD h (Wc cs h (i+1) t.toNat)) | _=>.none) (λd hd k2 hk=>?_) ?_⟩
     ·exact Qp7 w6
     ·obtain⟨t,ht⟩:=J7.mp hd;obtain⟨htl,rfl⟩:=QbY ht;rw[QfK,Qy] at htl;have hk:k2 (.list (QdD h (Wc cs h (i+1) (0+(t:Int)).toNat))):=hk;rw[show(0+(t:Int)).toNat=t by omega] at hk;refine⟨_,JB (j:=0) (QkM cs h w i),h,w,Wc cs h i,Qpp cs (h - 1 - i),t,by rw[show(0:Int)+(t:Int)=(t:Int) by omega],htl,λc hc=>QtX hb hc,h6,w6,hk⟩
     ·refine⟨by rw[Qh3];omega,_,_,_,rfl,?_⟩;show YC _::QpQ cs h w i=YC (Qi7 h w (Wc cs h (i+1)))::QpQ cs h w i
      congr 2
      rw[QfK,Qy];unfold QfC Qi7;rw[Q1];refine ZB λt _=>?_
      show YC (QdD h (Wc cs h (i+1) (0+(t:Int)).toNat))=_;rw[show(0+(t:Int)).toNat=t by omega]
   ·rintro δ ⟨ds,x5,x6,rfl,rfl⟩;rw[QfD,Qy];exact hR
theorem Qk8:Jc ["board"] ["board"] (Qm QcQ):=⟨rfl,rfl,rfl,by decide +kernel,rfl,by decide +kernel,by decide +kernel⟩
theorem Ql4{f f1 f2  : Addr}{fd fd1 fd2:Qq}(F:Fun K "counts" "counts" QcQ f fd)(T:GlbA mg)
  (m1:mg "ways_to_go_on" = some (.ref f1))(G1:FnOk P w K mg base CX0 2 f1 fd1 ["board"] (ZE true QrP))(b1:Binds K fd1 ["board"] [])(k1:PySem.W.keepIn K (.ref f1)=true)
  (m2:mg "most_size" = some (.ref f2))(G2:FnOk P w K mg base CX0 1 f2 fd2 ["board"] (ZE false Qtu))(b2:Binds K fd2 ["board"] [])(k2:PySem.W.keepIn K (.ref f2)=true) :
  FnOk P w K mg base CX0 3 f fd ["board"] (ZE true Qf2):=by
 refine okQ true F Qk8 (λargs R EX h=>?_) (λcdv A outer s H E hr=>?_)
 ·obtain⟨h,w,cs,rfl,_⟩:=h;rfl
 ·have hU:=Room.u60 hr;have hI:=Room.i60 hr;refine⟨_,Jo (YJ (Qlt (Jq (QcS ZK YT (Jq (QcS ZK YT (Jt (Qan G1 (hr.mono (by decide)) (by rfl) m1 k1 b1 QaD (Qbe (qv 0) Yf))) (Jq JT) (λ_ _=>rfl))) (Jq JT) (λ_ _=>rfl))) Qls (Qlr (Jt (Qad QaE QbS (Jq (Qbo G2 (hr.mono (by decide)) (by rfl) m2 k2 b2 QaD (Qbe (qv 0) Yf))) (Jq JT)))))),λargs R EX h=>?_⟩;obtain⟨h,w,cs,rfl,h6,w6,hb,hR⟩:=h;refine⟨_,_,_,rfl,h6,w6,hb,_,JB (j:=0) (QkM cs h w h),_,JB (j:=0) (Qho (Nat.two_pow_pos w)),_,_,_,rfl,?_⟩;have e:Dl.cutD (QdD h (Wc cs h h 0)) none (some (((min h w:Nat):Int)+1))=QiI cs h w:=by
   rw[Qpo _ _ (by omega)];unfold QdD QiI;rw[<- QwM,Quo,show min (((min h w:Nat):Int)+1).toNat (h+1)=min h w+1 by omega]
  have hR:R (.list (QiI cs h w)):=hR;rw[<- e] at hR;exact hR
theorem QgF:(["size", "many"]:List Str).Nodup:=by decide +kernel
theorem QnQ:Jc ["board"] ["board"] (Qm QeM):=⟨rfl,rfl,rfl,by decide +kernel,rfl,by decide +kernel,by decide +kernel⟩
theorem QoG{f f1  : Addr}{fd fd1:Qq}(F:Fun K "greatest_size" "greatest_size" QeM f fd)(T:GlbA mg)
  (m1:mg "counts_stands" = some (.ref f1))(G1:FnOk P w K mg base CX0 3 f1 fd1 ["board"] (ZE true Qf2))(b1:Binds K fd1 ["board"] [])(k1:PySem.W.keepIn K (.ref f1)=true) :
  FnOk P w K mg base CX0 4 f fd ["board"] (ZE false QmC):=by
 refine okQ false F QnQ (λargs R EX h=>?_) (λcdv A outer s H E hr=>?_)
 ·obtain⟨h,w,cs,rfl,_⟩:=h;rfl
 ·have hU:=Room.u60 hr;have hI:=Room.i60 hr;refine⟨_,Jo (YJ (Qao (QgU rfl) QmW (by rfl) T.max Qm1 (Qdg (Jt (QbR ["size", "many"] [none,none] (Qij (by rfl) T.enumerate (Jt (Qan G1 (hr.mono (by decide)) (by rfl) m1 k1 b1 QaD (Qbe (qv 0) Yf)))) (λcl ex s3 H3 C=>⟨(Qbm rfl (Zb 0 (Zb 1 Qbn QgF rfl (QF rfl) (QK rfl)) QgF rfl (QF rfl) (QK rfl))),(QbZ (ZP Qs7 QeW (qp 1) (Jq JT) (JN _))),(qv 0)⟩))) Jl))),λargs R EX h=>?_⟩;obtain⟨h,w,cs,rfl,b,hR⟩:=h;refine⟨_,_,_,rfl,b.1,b.2.1,b.col,QjW (λd=>match d with | .tuple [.int k,.int n]=>if 0<n then some (.int k) else none | _=>none) (λd hd k1 k2 h1 h2=>?_) ?_⟩
  ·obtain⟨k,hk⟩:=J7.mp hd;obtain⟨e,he,rfl⟩:=QfV hk;obtain⟨n,rfl⟩:=Qpr (Q3 he);have h1:(if 0<n then some (QD (k:Int)) else none)=none->k1:=h1;have h2:∀e,(if 0<n then some (QD (k:Int)) else none)=some e->k2 e:=h2
   refine⟨rfl,?_⟩;show if decide (0<n)=true then k2 (.int (k:Int)) else k1
   by_cases z:0<n
   ·rw[if_pos (decide_eq_true z)];exact h2 _ (if_pos z)
   ·rw[if_neg (by simpa using z)];exact h1 (if_neg z)
  ·have e:(QgL (QiI cs h w)).filterMap (λd=>match d with | .tuple [.int k,.int n]=>if 0<n then some (QD k) else none | _=>none)=(((QY (min h w+1)).filter λk=>decide (0<Wc cs h h 0 k)).map λ(k:Nat)=>(k:Int)).map QD:=by
    unfold QgL;rw[ZG,Q1,Qpq];refine QhH λk hk=>?_
    have hk:=JI.mp hk;have e1:(QiI cs h w).getD k .none=.int (Wc cs h h 0 k):=by
     unfold QiI;rw[QJ,QC,JC hk];rfl
    show(match QaJ [.int (k:Int),(QiI cs h w).getD k .none] with | .tuple [.int k,.int n]=>if 0<n then some (QD k) else none | _=>none)=_;rw[e1];show(if 0<Wc cs h h 0 k then some (QD (k:Int)) else none)=if decide (0<Wc cs h h 0 k)=true then _ else _
    by_cases z:0<Wc cs h h 0 k
    ·rw[if_pos z,if_pos (decide_eq_true z)];rfl
    ·rw[if_neg z,if_neg (by simpa using z)]
   rw[e];have mem:∀{k:Nat},k<=min h w->0<Wc cs h h 0 k->(k:Int)∈((QY (min h w+1)).filter λk=>decide (0<Wc cs h h 0 k)).map λ(k:Nat)=>(k:Int):=λ{k} h1 h2=>QH.mpr ⟨k,Zj.mpr ⟨JI.mpr (by omega),decide_eq_true h2⟩,rfl⟩
   refine Qmi (QbP (mem (Je _) (by rw[Qnf];decide))) λm hm hmx=>?_
   obtain⟨k,hk,rfl⟩:=QH.mp hm;have hk:=Zj.mp hk;refine hR k ⟨by have:=JI.mp hk.1;omega,of_decide_eq_true hk.2,λj hj hp=>?_⟩;have:=hmx _ (mem hj hp);omega
theorem Qis:(["row", "column"]:List Str).Nodup:=by decide +kernel
theorem Qfx:Jc ["board", "high", "wide", "cells"] ["board"] (Qm Qjg):=⟨rfl,rfl,rfl,by decide +kernel,rfl,by decide +kernel,by decide +kernel⟩
theorem Qtb{f   : Addr}{fd  : Qq}(F:Fun K "turned" "turned" Qjg f fd)(T:GlbA mg) :
  FnOk P w K mg base CX0 2 f fd ["board"] (ZE false QrT):=by
 refine okQ false F Qfx (λargs R EX h=>?_) (λcdv A outer s H E hr=>?_)
 ·obtain⟨h,w,f,rfl,_⟩:=h;rfl
 ·have hU:=Room.u60 hr;have hI:=Room.i60 hr;refine⟨_,Jf (QeN (qv 0) (Qbm rfl (Zb 1 (Zb 2 (Zb 3 Qbn Qfx.nd rfl (by first | exact QF rfl | exact QK rfl)) Qfx.nd rfl (by first | exact QF rfl | exact QK rfl)) Qfx.nd rfl (by first | exact QF rfl | exact QK rfl))))
   (Jo (YJ (YS (ZF (qv 2) (ZF (qv 1) (ZF (ZD (Z5 JD Ys (by rfl) T.tuple Zs (Qdg (Jt (Qao Qe8 cd_sortP (by rfl) T.sorted QcA (Qdg (Jt (QbR ["row", "column"] [none,none] (Qgv (qp 3)) (λcl ex s3 H3 C=>⟨(Qbm rfl (Zb 0 (Zb 1 Qbn Qis rfl (QF rfl) (QK rfl)) Qis rfl (QF rfl) (QK rfl))),QdO,(ZD (YS (ZF (qv 1) (ZF (qv 0) Jl))))⟩))) Jl))) Jl))) Jl)))))),λargs R EX h=>?_⟩
  obtain⟨h,w,f,rfl,h6,w6,hR⟩:=h;have hb:∀p∈cellsF h w f,0<=p.1/\p.1<h/\0<=p.2/\p.2<w:=λp hp=>QaR hp
  have nd1:(cellsF h w f).Nodup:=(pw_cellsF w f h).imp QdS;have nd2:(cellsF w h (tF f)).Nodup:=(pw_cellsF h (tF f) w).imp QdS;have ln:(cellsF h w f).length<=36:=QL (ZZ w f h) (ZO h6 w6);have es:((cellsF h w f).map pairD).map (λd=>pairD ((toP d).2,(toP d).1))=((cellsF h w f).map λp=>(p.2,p.1)).map pairD:=by rw[Q1,Q1];rfl
  have nd3:((cellsF h w f).map λp=>(p.2,p.1)).Nodup:=QpG.mpr (nd1.imp λ{a b} hne e=>hne (Qdw (Zu e).2 (Zu e).1));refine⟨rfl,QiJ (λd=>pairD ((toP d).2,(toP d).1)) (λd hd k2 hk=>?_) ?_⟩
  ·obtain⟨p,_,rfl⟩:=QH.mp hd;exact⟨rfl,hk⟩
  ·rw[es];refine sortP_of nd3 (by rw[Qg];omega) (λp hp=>?_) λM pM pw=>?_
   ·obtain⟨q,hq,rfl⟩:=QH.mp hp;have:=hb q hq;show 0<=q.1/\q.1<64;omega
   ·have pc:M.Perm (cellsF w h (tF f)):=pM.trans ((QaU nd3 nd2).mpr λp=>by
     rw[QH,JK];constructor
     ·rintro⟨q,hq,rfl⟩;obtain⟨r,c,hr,hc,hf,rfl⟩:=JK.mp hq;exact⟨c,r,hc,hr,hf,rfl⟩
     ·rintro⟨r,c,hr,hc,hf,rfl⟩;exact⟨((c:Int),(r:Int)),JK.mpr ⟨c,r,hc,hr,hf,rfl⟩,rfl⟩)
    have eM:M=cellsF w h (tF f):=Yx (le:=plt) (λa b _ _ h1 h2=>by rcases h1 with x | x<;>rcases h2 with y | y<;>omega) pw (pw_cellsF h (tF f) w) pc;rw[eM];exact hR
theorem QgE:(["row", "column", "cells", "wide"]:List Str).Nodup:=by decide +kernel
theorem Qcn:Jc ["board", "high", "wide", "cells", "left"] ["board"] (Qm QeK):=⟨rfl,rfl,rfl,by decide +kernel,rfl,by decide +kernel,by decide +kernel⟩
theorem QoD{f   : Addr}{fd  : Qq}(F:Fun K "rest" "rest" QeK f fd)(T:GlbA mg) :
  FnOk P w K mg base CX0 1 f fd ["board"] (ZE false Qlc):=by
 refine okQ false F Qcn (λargs R EX h=>?_) (λcdv A outer s H E hr=>?_)
 ·obtain⟨h,w,f,rfl,_⟩:=h;rfl
 ·have hU:=Room.u60 hr;have hI:=Room.i60 hr;refine⟨_,Jf (QeN (qv 0) (Qbm rfl (Zb 1 (Zb 2 (Zb 3 Qbn Qcn.nd rfl (by first | exact QF rfl | exact QK rfl)) Qcn.nd rfl (by first | exact QF rfl | exact QK rfl)) Qcn.nd rfl (by first | exact QF rfl | exact QK rfl))))
   (Jf (Qn7 ["row", "column", "cells", "wide"] [none,none,some 3,some 2] 4 Qcn.nd (Qo6 0) (Qb0 (by rfl) T.range (qp 1)) (λcl ex s3 H3 C=>⟨(Qam 0 QgE rfl (QF rfl) (QK rfl)),QdO,(Qb0 (by rfl) T.range (qp 3)),(Qam 1 QgE rfl (QF rfl) (QK rfl)),(QbZ (ZP QdW (Qjt hI) (Jt (YS (ZF (qv 0) (ZF (qv 1) Jl)))) (qp 2) (by rfl))),(ZD (YS (ZF (qv 0) (ZF (qv 1) Jl))))⟩))
   (Jo (YJ (YS (ZF (qv 1) (ZF (qv 2) (ZF (ZD (Z5 JD Ys (by rfl) T.tuple Zs (Qdg (qp 4) Jl))) Jl))))))),λargs R EX h=>?_⟩
  obtain⟨h,w,f,rfl,h6,w6,hR⟩:=h;have fl:∀i,(cellsF i w (QgB f)).length<=i*w:=ZZ w (QgB f)
  have e0:∀n:Nat,(QfC 0 n).flatMap (λd=>match d with | .int r=>(QdN r.toNat w (QgB f)).map pairD | _=>[])=(cellsF n w (QgB f)).map pairD:=λn=>by
   unfold QfC cellsF;rw[List.flatMap_map,List.map_flatMap]
   congr 1
   funext r
   show(QdN (0+(r:Int)).toNat w (QgB f)).map pairD=_;rw[show(0+(r:Int)).toNat=r by omega]
  refine⟨rfl,⟨by omega,by omega⟩,QtZ (λd=>match d with | .int r=>(QdN r.toNat w (QgB f)).map pairD | _=>[]) 36 ?_ (λd hd acc N hb hN=>?_) ?_⟩
  ·rw[Qy,e0,Qg];exact QL (fl h) (ZO h6 w6)
  ·obtain⟨i,hi⟩:=J7.mp hd;obtain⟨hi2,rfl⟩:=QbY hi;rw[Qy] at hi2;have hN:N (acc++(QdN (0+(i:Int)).toNat w (QgB f)).map pairD):=hN;have hb:acc.length+((QdN (0+(i:Int)).toNat w (QgB f)).map pairD).length<=36:=hb;rw[show(0+(i:Int)).toNat=i by omega] at hN hb;refine⟨⟨by omega,by omega⟩,Qyk (λd=>match d with | .int c=>if(!f i c.toNat)=true then some (pairD ((i:Int),c)) else none | _=>none) ?_ (λd hd k1 k2 h1 h2=>?_) ?_⟩
   ·rw[QfB];exact Yd (show acc.length+((w:Nat):Int).toNat<=42 by omega) (by decide)
   ·obtain⟨c,hc⟩:=J7.mp hd;obtain⟨hc2,rfl⟩:=QbY hc;rw[Qy] at hc2;have h1:(if(!f i (0+(c:Int)).toNat)=true then some (pairD ((i:Int),0+(c:Int))) else none)=none->k1:=h1;have h2:∀e,(if(!f i (0+(c:Int)).toNat)=true then some (pairD ((i:Int),0+(c:Int))) else none)=some e->k2 e:=h2
    rw[show(0+(c:Int)).toNat=c by omega] at h1 h2;refine⟨⟨ZY _,rfl,by have:=YA ((0+(i:Int)),(0+(c:Int)));exact QL (Qah this) (by decide)⟩,?_⟩;show if(!((cellsF h w f).map pairD).any λe=>Jd e (pairD (0+(i:Int),0+(c:Int))))=true then k2 (pairD (0+(i:Int),0+(c:Int))) else k1
    rw[QaS];have em:decide ((0+(i:Int),0+(c:Int))∈cellsF h w f)=f i c:=by
     rw[show(0:Int)+(i:Int)=(i:Int) by omega,show(0:Int)+(c:Int)=(c:Int) by omega,ZC,decide_eq_true_eq,JK];constructor
     ·rintro⟨r,d,_,_,hf,e⟩;have e1:(i:Int)=r:=(Zu e).1;have e2:(c:Int)=d:=(Zu e).2;rw[show i=r by omega,show c=d by omega];exact hf
     ·intro hf;exact⟨i,c,hi2,hc2,hf,rfl⟩
    rw[em,show(0:Int)+(i:Int)=(i:Int) by omega];by_cases z:(!f i c)=true
    ·rw[if_pos z];exact h2 _ (if_pos z)
    ·rw[if_neg z];exact h1 (if_neg z)
   ·have er:(QfC 0 ((w:Nat):Int).toNat).filterMap (λd=>match d with | .int c=>if(!f i c.toNat)=true then some (pairD ((i:Int),c)) else none | _=>none)=(QdN i w (QgB f)).map pairD:=by
     unfold QfC QdN;rw[Qy,ZG,Q1];refine QhH (p:=QgB f i) λc _=>?_
     show(if(!f i (0+(c:Int)).toNat)=true then some (pairD ((i:Int),0+(c:Int))) else none)=if(!f i c)=true then some (pairD ((i:Int),(c:Int))) else none
     rw[show(0+(c:Int)).toNat=c by omega,show(0:Int)+(c:Int)=(c:Int) by omega]
    rw[er];exact hN
  ·rw[Qy,e0];exact hR
theorem QuT:Jc ["board", "row", "column"] ["board", "row", "column"] (Qm sRnp):=⟨rfl,rfl,rfl,by decide +kernel,rfl,by decide +kernel,by decide +kernel⟩
theorem QvH{f f1 CP:Addr}{fd fd1:Qq}(F:Fun K "refuse_no_place" "refuse_no_place" sRnp f fd)(T:GlbA mg)
  (m1:mg "is_whole_within" = some (.ref f1))(G1:FnOk P w K mg base CX0 2 f1 fd1 ["thing", "least", "most"] (ZE false Qfl))(b1:Binds K fd1 ["thing", "least", "most"] [])(k1:PySem.W.keepIn K (.ref f1)=true)
  (mCP:mg "NoPlace" = some (.ref CP))(qCP:PySem.W.excIn K CP Rx.mroV "ValueError.__new__" = true) :
  FnOk P w K mg base (Rx.CXE P w) 3 f fd ["board", "row", "column"] (ZE false (QwV CP)):=by
 refine Qw1 false F QuT (λargs R EX h=>?_) (λcdv A outer s H E hr=>?_)
 ·obtain⟨b,x,y,rfl,_⟩:=h;rfl
 ·have hU:=Room.u60 hr;have hI:=Room.i60 hr;refine⟨_,Jf (QaN (Qco (Qde (Jq (Qbo G1 (hr.mono (by decide)) (by rfl) m1 k1 b1 QaD (Qbe (qv 1) (Qbe JT (Qbe (ZD (Qad QeT QdY (Jq (QcS ZK YT (qp 0) (Jq JT) (λ_ _=>rfl))) (Jq JT))) Yf))))))) (Jo (QdE (λ_ _ h=>h) mCP qCP (Jq Qac))) ZJ)
   (Jo (QaN (Qco (Qde (Jq (Qbo G1 (hr.mono (by decide)) (by rfl) m1 k1 b1 QaD (Qbe (qv 2) (Qbe JT (Qbe (ZD (Qad QeT QdY (Jq (QcS ZK YT (qp 0) (Jq JT) (λ_ _=>rfl))) (Jq JT))) Yf))))))) (Jo (QdE (λ_ _ h=>h) mCP qCP (Jq Qac))) ZJ)),λargs R EX h=>?_⟩
  obtain⟨b,x,y,rfl,hR,hX⟩:=h;have e:inP b x y=(inW x 0 ((b.h:Int) - 1)&&inW y 0 ((b.w:Int) - 1)):=rfl;rw[e] at hR hX;refine⟨_,JB (j:=0) rfl,_,_,_,rfl,?_⟩;cases h1:inW x 0 ((b.h:Int) - 1) with
  |false=>exact hX (by rw[h1];rfl)
  |true=>
   refine⟨_,JB (j:=1) rfl,_,_,_,rfl,?_⟩;cases h2:inW y 0 ((b.w:Int) - 1) with
   |false=>exact hX (by rw[h1,h2];rfl)
   |true=>exact hR (by rw[h1,h2];rfl)
theorem QuS:Jc ["lines"] ["lines"] (Qm sRtm):=⟨rfl,rfl,rfl,by decide +kernel,rfl,by decide +kernel,by decide +kernel⟩
theorem QvG{f  CM:Addr}{fd  : Qq}(hA:∃t,mg "MOST_LINES" = some (.int 6 t))(F:Fun K "refuse_too_many" "refuse_too_many" sRtm f fd)(T:GlbA mg)
  (mCM:mg "TooMany" = some (.ref CM))(qCM:PySem.W.excIn K CM Rx.mroV "ValueError.__new__" = true) :
  FnOk P w K mg base (Rx.CXE P w) 1 f fd ["lines"] (ZE false (QwU CM)):=by
 refine Qw1 false F QuS (λargs R EX h=>?_) (λcdv A outer s H E hr=>?_)
 ·obtain⟨n,rfl,_⟩:=h;rfl
 ·obtain⟨tA,mA⟩:=hA;have hU:=Room.u60 hr;have hI:=Room.i60 hr;refine⟨_,Jo (QaN (ZP Qbs (QdZ hU) (qp 0) (Jq (Qvd 6 (by rfl) mA ⟨_,rfl⟩)) (JN _)) (Jo (QdE (λ_ _ h=>h) mCM qCM (Jq Qac))) ZJ),λargs R EX h=>?_⟩;obtain⟨n,rfl,hX,hR⟩:=h;refine ifC (λz=>hX ?_) λz=>hR ?_
  ·have z:=of_decide_eq_true z;omega
  ·have z:=of_decide_eq_false z;omega
theorem Qr6:Jc ["board", "cell"] ["board", "cell"] (Qm Qjh):=⟨rfl,rfl,rfl,by decide +kernel,rfl,by decide +kernel,by decide +kernel⟩
theorem Qtc{f f1 CN:Addr}{fd fd1:Qq}(F:Fun K "refuse_no_cell" "refuse_no_cell" Qjh f fd)(T:GlbA mg)
  (m1:mg "is_place" = some (.ref f1))(G1:FnOk P w K mg base CX0 3 f1 fd1 ["high", "wide", "thing"] (ZE false QlC))(b1:Binds K fd1 ["high", "wide", "thing"] [])(k1:PySem.W.keepIn K (.ref f1)=true)
  (mCN:mg "NoCell" = some (.ref CN))(qCN:PySem.W.excIn K CN Rx.mroV "ValueError.__new__" = true) :
  FnOk P w K mg base (Rx.CXE P w) 4 f fd ["board", "cell"] (ZE false (Qld CN)):=by
 refine Qw1 false F Qr6 (λargs R EX h=>?_) (λcdv A outer s H E hr=>?_)
 ·obtain⟨b,r,c,rfl,_⟩:=h;rfl
 ·have hU:=Room.u60 hr;have hI:=Room.i60 hr;refine⟨_,Jo (QaN (Qsq (Qjk (Qco (Qde (Jq (Qbo G1 (hr.mono (by decide)) (by rfl) m1 k1 b1 QaD (Qbe (QcS ZK YT (qp 0) (Jq JT) (λ_ _=>rfl)) (Qbe (QcS ZK YT (qp 0) (Jq JT) (λ_ _=>rfl)) (Qbe (qv 1) Yf))))))) (Qig (ZP QdW (Qjt hI) (qp 1) (Jq (QcS ZK YT (qp 0) (Jq JT) (λ_ _=>rfl))) (by rfl))))) (Jo (QdE (λ_ _ h=>h) mCN qCN (Jq Qac))) ZJ),λargs R EX h=>?_⟩;obtain⟨b,r,c,rfl,hr,hc,hX,hR⟩:=h;refine⟨_,JB (j:=0) rfl,_,JB (j:=1) rfl,_,_,_,rfl,?_⟩;rw[show Qiu (b.h:Int) (b.w:Int) (pairD ((r:Int),(c:Int)))=true from Qyl hr hc];refine⟨_,JB (j:=2) rfl,⟨ZY _,rfl,by have:=YA ((r:Int),(c:Int));omega⟩,?_⟩;have e:(((cellsF b.h b.w b.f).map pairD).any λe=>Jd e (pairD ((r:Int),(c:Int))))=b.f r c:=by rw[QaS,Qmh hr hc]
  show if(!(((cellsF b.h b.w b.f).map pairD).any λe=>Jd e (pairD ((r:Int),(c:Int)))))=true then _ else _
  rw[e];cases z:b.f r c with
  |false=>exact hX z
  |true=>exact hR z
theorem Qtr:(["other", "cell"]:List Str).Nodup:=by decide +kernel
theorem QnN:Jc ["board", "cell", "high", "wide", "cells"] ["board", "cell"] (Qm sWo):=⟨rfl,rfl,rfl,by decide +kernel,rfl,by decide +kernel,by decide +kernel⟩
theorem Qyc{f f1  : Addr}{fd fd1:Qq}{CN:Addr}(F:Fun K "without" "without" sWo f fd)(T:GlbA mg)
  (m1:mg "refuse_no_cell" = some (.ref f1))(G1:FnOk P w K mg base (Rx.CXE P w) 4 f1 fd1 ["board", "cell"] (ZE false (Qld CN)))(b1:Binds K fd1 ["board", "cell"] [])(k1:PySem.W.keepIn K (.ref f1)=true) :
  FnOk P w K mg base (Rx.CXE P w) 5 f fd ["board", "cell"] (ZE false (QxJ CN)):=by
 refine Qw1 false F QnN (λargs R EX h=>?_) (λcdv A outer s H E hr=>?_)
 ·obtain⟨b,r,c,rfl,_⟩:=h;rfl
 ·have hU:=Room.u60 hr;have hI:=Room.i60 hr;refine⟨_,Jf (Qsm (Jq (Qbo G1 (hr.mono (by decide)) (by rfl) m1 k1 b1 (Rx.Qjo (E:=E) (λ_ _ h=>h) rfl rfl rfl) (Qbe (qv 0) (Qbe (qv 1) Yf)))))
   (Jf (QeN (qv 0) (Qbm rfl (Zb 2 (Zb 3 (Zb 4 Qbn QnN.nd rfl (by first | exact QF rfl | exact QK rfl)) QnN.nd rfl (by first | exact QF rfl | exact QK rfl)) QnN.nd rfl (by first | exact QF rfl | exact QK rfl))))
   (Jo (YJ (YS (ZF (qv 2) (ZF (qv 3) (ZF (ZD (Z5 JD Ys (by rfl) T.tuple Zs (Qdg (Jt (QbR ["other", "cell"] [none,some 1] (Qgv (qp 4)) (λcl ex s3 H3 C=>⟨(Qam 0 Qtr rfl (QF rfl) (QK rfl)),(QbZ (ZP QgA (Ql8 hU) (qp 0) (qp 1) (JN _))),(qv 0)⟩))) Jl))) Jl))))))),λargs R EX h=>?_⟩
  obtain⟨b,r,c,rfl,hr,hc,hX,hR⟩:=h;refine⟨b,r,c,rfl,hr,hc,hX,λhf=>?_⟩;have hR:=hR hf;refine⟨rfl,QjW (λd=>if(λq:Int×Int => !decide (q=((r:Int),(c:Int)))) (toP d)=true then some d else none) (λd hd k1 k2 h1 h2=>?_) ?_⟩
  ·obtain⟨q,_,rfl⟩:=QH.mp hd;have h1:(if(!decide (q=((r:Int),(c:Int))))=true then some (pairD q) else none)=none->k1:=h1;have h2:∀e,(if(!decide (q=((r:Int),(c:Int))))=true then some (pairD q) else none)=some e->k2 e:=h2
   refine⟨⟨rfl,rfl,.inl (by have:=YA q;omega)⟩,?_⟩;show if(!Jd (pairD q) (pairD ((r:Int),(c:Int))))=true then k2 (pairD q) else k1
   rw[Qcx];by_cases z:(!decide (q=((r:Int),(c:Int))))=true
   ·rw[if_pos z];exact h2 _ (if_pos z)
   ·rw[if_neg z];exact h1 (if_neg z)
  ·rw[Qiz (λq:Int×Int => !decide (q=((r:Int),(c:Int)))),QiK];exact hR
end
def QtS:DF:=λargs R _=>∃b:Bo,args=[.pot,.v b.d,.v (.int 1)]/\b.ok/\∀d:Deed,R (.tuple [.str d.wd,.list d.told])
def Qv6:Option Str->Qc
 |none=>.none
 |some s=>.str s
def Qsg:DF:=λargs R _=>∃(b:Bo)(d:Deed),args=[.v b.d,.v (.str d.wd),.v (.list d.told)]/\R (Qv6 (QjS d b))
def QyD:DF:=λargs R _=>∃(b:Bo)(d:Deed),args=[.v b.d,.v (.str d.wd),.v (.list d.told)]/\b.ok/\QjS d b=none/\d.wd ≠ "undo" /\ R (Qbt d b).d
def Qit:DF:=λargs R _=>∃b:Bo,args=[.v b.d]/\b.ok/\∀m,Qf7 (cellsF b.h b.w b.f) b.h b.w m->R (.int (m:Int))
def Qml:DF:=λargs R _=>∃(h w:Nat)(f:Nat->Nat->Bool),args=[.v (bdD h w (cellsF h w f))]/\h<=6/\w<=6/\R (.list ((cIw f h w).map QD))
section
variable{P:Qw}{w:Ja}{K:PySem.W.Frag}{mg:Str->Option Value}{base:JR}
theorem Qk4:Jc ["_law_thing"] ["_law_thing"] (Qm Qdl):=⟨rfl,rfl,rfl,by decide +kernel,rfl,by decide +kernel,by decide +kernel⟩
theorem Ql2{f   : Addr}{fd  : Qq}(F:Fun K "_law_whole" "_law_whole" Qdl f fd)(T:GlbA mg) :
  FnOk P w K mg base CX0 1 f fd ["_law_thing"] (ZE false QeG):=by
 refine okQ false F Qk4 (λargs R EX h=>?_) (λcdv A outer s H E hr=>?_)
 ·obtain⟨d,rfl,_⟩:=h;rfl
 ·have hU:=Room.u60 hr;have hI:=Room.i60 hr;refine⟨_,Jo (Qbl (Qlv (Jt (QeO .int (by rfl) T.isinstance (qp 0) (by rfl) T.int QgY)) (Qlu (Qva (Jt (QeO .bool (by rfl) T.isinstance (qp 0) (by rfl) T.bool Qc4)))))),λargs R EX h=>?_⟩;obtain⟨d,rfl,hR⟩:=h;cases d<;>exact hR
theorem Qk5:Jc ["_law_thing", "_law_high", "_law_wide"] ["_law_thing", "_law_high", "_law_wide"] (Qm Qe0):=⟨rfl,rfl,rfl,by decide +kernel,rfl,by decide +kernel,by decide +kernel⟩
theorem Ql3{f f1  : Addr}{fd fd1:Qq}(F:Fun K "_law_is_place" "_law_is_place" Qe0 f fd)(T:GlbA mg)
  (m1:mg "_law_whole" = some (.ref f1))(G1:FnOk P w K mg base CX0 1 f1 fd1 ["_law_thing"] (ZE false QeG))(b1:Binds K fd1 ["_law_thing"] [])(k1:PySem.W.keepIn K (.ref f1)=true) :
  FnOk P w K mg base CX0 2 f fd ["_law_thing", "_law_high", "_law_wide"] (ZE false QhD):=by
 refine okQ false F Qk5 (λargs R EX h=>?_) (λcdv A outer s H E hr=>?_)
 ·obtain⟨d,h,w,rfl,_⟩:=h;rfl
 ·have hU:=Room.u60 hr;have hI:=Room.i60 hr;refine⟨_,Jf (QaN (Qsq (Qjk (Qco (Qde (Jt (QeO .tuple (by rfl) T.isinstance (qp 0) (by rfl) T.tuple Zs)))) (Qjk (ZP QgA (Ql8 hU) (Jt (Qao Qcz QiM (by rfl) T.len Qby (Qdg (qp 0) Jl))) (Jq JT) (JN _)) (Qjk (Qco (Qde (Jq (Qbo G1 (hr.mono (by decide)) (by rfl) m1 k1 b1 QaD (Qbe (QcS ZK YT (qp 0) (Jq JT) (λ_ _=>rfl)) Yf))))) (Qig (Qco (Qde (Jq (Qbo G1 (hr.mono (by decide)) (by rfl) m1 k1 b1 QaD (Qbe (QcS ZK YT (qp 0) (Jq JT) (λ_ _=>rfl)) Yf)))))))))) (Jo (Qbl QwX)) ZJ)
   (Jo (Qbl (Qlv (Jt (Qx1 Qoz Qjr (Jq JT) (Jq (QcS ZK YT (qp 0) (Jq JT) (λ_ _=>rfl))) (qp 1))) (Qlu (ZD (Qx1 Qoz Qjr (Jq JT) (Jq (QcS ZK YT (qp 0) (Jq JT) (λ_ _=>rfl))) (qp 2))))))),λargs R EX h=>?_⟩
  obtain⟨d,h,w,rfl,hR⟩:=h;cases d with
  |tuple ds=>
   match ds,hR with
   |[a,b],hR=>
    have hR:R (.bool (inW a 0 (h - 1)&&inW b 0 (w - 1))):=hR;rw[<- Qmy,<- Qmy] at hR;refine⟨a,rfl,a,rfl,?_⟩;cases a with
    |int i=>
     refine⟨b,rfl,b,rfl,?_⟩;cases b with
     |int j=>
      refine⟨.int i,rfl,?_⟩;have hR:R (.bool ((decide (0<=i)&&decide (i<h))&&(decide (0<=j)&&decide (j<w)))):=hR;refine ifC (λz1=>?_) λz1=>?_
      ·rw[show decide (0<=i)=true from z1,Qay] at hR;refine ifC (λz2=>?_) λz2=>?_
       ·rw[show decide (i<h)=true from z2,Qay] at hR;refine⟨.int j,rfl,ifC (λz3=>?_) λz3=>?_⟩
        ·rw[show decide (0<=j)=true from z3,Qay] at hR;exact hR
        ·rw[show decide (0<=j)=false from z3,Qba] at hR;exact hR
       ·rw[show decide (i<h)=false from z2,Qba] at hR;exact hR
      ·rw[show decide (0<=i)=false from z1,Qba,Qba] at hR;exact hR
     |_=>simp only[inL,Qhd] at hR;exact hR
    |_=>exact hR
   |[],hR=>exact hR
   |[_],hR=>exact hR
   |a::b::c::r,hR=>
    exact hR
  |_=>exact hR
theorem Qmd:(["_law_size", "_law_many"]:List Str).Nodup:=by decide +kernel
theorem Qia:Jc ["_law_board", "_law_many"] ["_law_board"] (Qm QjB):=⟨rfl,rfl,rfl,by decide +kernel,rfl,by decide +kernel,by decide +kernel⟩
theorem QoF{f f1  : Addr}{fd fd1:Qq}(F:Fun K "_law_most" "_law_most" QjB f fd)(T:GlbA mg)
  (m1:mg "_law_counts_by_rows" = some (.ref f1))(G1:FnOk P w K mg base CX0 1 f1 fd1 ["_law_board"] (ZE true Qml))(b1:Binds K fd1 ["_law_board"] [])(k1:PySem.W.keepIn K (.ref f1)=true) :
  FnOk P w K mg base CX0 2 f fd ["_law_board"] (ZE false Qit):=by
 refine okQ false F Qia (λargs R EX h=>?_) (λcdv A outer s H E hr=>?_)
 ·obtain⟨b,rfl,_⟩:=h;rfl
 ·have hU:=Room.u60 hr;have hI:=Room.i60 hr;refine⟨_,Jf (Qdf 1 (ZD (Qan G1 (hr.mono (by decide)) (by rfl) m1 k1 b1 QaD (Qbe (qv 0) Yf))) Qia.nd)
   (Jo (YJ (Qao (QgU rfl) QmW (by rfl) T.max Qm1 (Qdg (Jt (QbR ["_law_size", "_law_many"] [none,some 1] (Qb0 (by rfl) T.range (Jt (Qao Qcz QiM (by rfl) T.len Qby (Qdg (qp 1) Jl)))) (λcl ex s3 H3 C=>⟨(Qam 0 Qmd rfl (QF rfl) (QK rfl)),(QbZ (ZP Qs7 QeW (Jq (QcS ZK YT (qp 1) (qp 0) (λ_ _=>rfl))) (Jq JT) (JN _))),(qv 0)⟩))) Jl)))),λargs R EX h=>?_⟩
  obtain⟨b,rfl,o,hR⟩:=h;obtain⟨h,w,f⟩:=b;have hR:∀m,Qf7 (cellsF h w f) h w m->R (.int (m:Int)):=hR
  have ln:((cIw f h w).map QD).length=min h w+1:=by unfold cIw;rw[Qg,Qg,Q8]
  refine⟨_,_,_,rfl,o.h6,o.w6,⟨by show _<=(((cIw f h w).map QD).length:Int);omega,by show(((cIw f h w).map QD).length:Int)<=_;rw[ln];have:=o.h6;have:h<=6:=this;omega⟩,QjW (λd=>match d with | .int k=>if 0<Wc (cellsF h w f) h h 0 k.toNat then some (.int k) else none | _=>none) (λd hd k1 k2 h1 h2=>?_) ?_⟩
  ·obtain⟨k,hk⟩:=J7.mp hd;obtain⟨hk2,rfl⟩:=QbY hk;have hk2:k<(((cIw f h w).map QD).length:Int).toNat:=hk2;rw[ln,Qy] at hk2;have h1:(if 0<Wc (cellsF h w f) h h 0 (0+(k:Int)).toNat then some (QD (0+(k:Int))) else none)=none->k1:=h1;have h2:∀e,(if 0<Wc (cellsF h w f) h h 0 (0+(k:Int)).toNat then some (QD (0+(k:Int))) else none)=some e->k2 e:=h2
   rw[show(0+(k:Int)).toNat=k by omega] at h1 h2;refine⟨.int (Wc (cellsF h w f) h h 0 k),?_,?_⟩
   ·rw[show(0:Int)+(k:Int)=(k:Int) by omega];exact JB (by show((cIw f h w).map QD)[k]? = _;unfold cIw;rw[QC,QC,JC (by omega)];rfl)
   ·show if decide (0<Wc (cellsF h w f) h h 0 k)=true then k2 (.int (0+(k:Int))) else k1
    by_cases z:0<Wc (cellsF h w f) h h 0 k
    ·rw[if_pos (decide_eq_true z)];exact h2 _ (if_pos z)
    ·rw[if_neg (by simpa using z)];exact h1 (if_neg z)
  ·have e:(QfC 0 (((cIw f h w).map QD).length:Int).toNat).filterMap (λd=>match d with | .int k=>if 0<Wc (cellsF h w f) h h 0 k.toNat then some (QD k) else none | _=>none)=(((QY (min h w+1)).filter λk=>decide (0<Wc (cellsF h w f) h h 0 k)).map λ(k:Nat)=>(k:Int)).map QD:=by
    unfold QfC;rw[ZG,Q1,ln,Qy];refine QhH λk hk=>?_
    show(if 0<Wc (cellsF h w f) h h 0 (0+(k:Int)).toNat then some (QD (0+(k:Int))) else none)=if decide (0<Wc (cellsF h w f) h h 0 k)=true then some (QD (k:Int)) else none
    rw[show(0+(k:Int)).toNat=k by omega,show(0:Int)+(k:Int)=(k:Int) by omega];by_cases z:0<Wc (cellsF h w f) h h 0 k
    ·rw[if_pos z,if_pos (decide_eq_true z)]
    ·rw[if_neg z,if_neg (by simpa using z)]
   show Qmj [.list ((QfC 0 (((cIw f h w).map QD).length:Int).toNat).filterMap (λd=>match d with | .int k=>if 0<Wc (cellsF h w f) h h 0 k.toNat then some (QD k) else none | _=>none))] _;rw[e];have mem:∀{k:Nat},k<=min h w->0<Wc (cellsF h w f) h h 0 k->(k:Int)∈((QY (min h w+1)).filter λk=>decide (0<Wc (cellsF h w f) h h 0 k)).map λ(k:Nat)=>(k:Int):=λ{k} h1 h2=>QH.mpr ⟨k,Zj.mpr ⟨JI.mpr (by omega),decide_eq_true h2⟩,rfl⟩
   refine Qmi (QbP (mem (Je _) (by rw[Qnf];decide))) λm hm hmx=>?_
   obtain⟨k,hk,rfl⟩:=QH.mp hm;have hk:=Zj.mp hk;refine hR k ⟨by have:=JI.mp hk.1;omega,of_decide_eq_true hk.2,λj hj hp=>?_⟩;have:=hmx _ (mem hj hp);omega
end
section
variable{P:Qw}{w:Ja}{K:PySem.W.Frag}{mg:Str->Option Value}{base:JR}
theorem Qk3:Jc ["_law_board", "_law_word", "_law_told", "_law_there"] ["_law_board", "_law_word", "_law_told"] (Qm lRef):=⟨rfl,rfl,rfl,by decide +kernel,rfl,by decide +kernel,by decide +kernel⟩
theorem Qtd{f f1  : Addr}{fd fd1:Qq}(F:Fun K "_law_refused_as" "_law_refused_as" lRef f fd)(T:GlbA mg)
  (m1:mg "_law_is_place" = some (.ref f1))(G1:FnOk P w K mg base CX0 2 f1 fd1 ["_law_thing", "_law_high", "_law_wide"] (ZE false QhD))(b1:Binds K fd1 ["_law_thing", "_law_high", "_law_wide"] [])(k1:PySem.W.keepIn K (.ref f1)=true) :
  FnOk P w K mg base CX0 3 f fd ["_law_board", "_law_word", "_law_told"] (ZE false Qsg):=by
 refine okQ false F Qk3 (λargs R EX h=>?_) (λcdv A outer s H E hr=>?_)
 ·obtain⟨b,d,rfl,_⟩:=h;rfl
 ·have hU:=Room.u60 hr;have hI:=Room.i60 hr;refine⟨_,Jf (QaN (ZP QlV (Qjt hI) (qp 1) (Jt (YS (ZF Qac (ZF Qac Jl)))) (by rfl)) (Jf (QaN (Qco (Qde (Jq (Qbo G1 (hr.mono (by decide)) (by rfl) m1 k1 b1 QaD (Qbe (ZD (Z5 JD Ys (by rfl) T.tuple Zs (Qdg (qp 2) Jl))) (Qbe (QcS ZK YT (qp 0) (Jq JT) (λ_ _=>rfl)) (Qbe (QcS ZK YT (qp 0) (Jq JT) (λ_ _=>rfl)) Yf))))))) (Jo (Qbl Qac)) ZJ)
   (Jf (Qdf 3 (ZD (Qve QlV (Qjt hI) (Jt (Z5 JD Ys (by rfl) T.tuple Zs (Qdg (qp 2) Jl))) (Jq (QcS ZK YT (qp 0) (Jq JT) (λ_ _=>rfl))) (by rfl))) Qk3.nd)
   (Jo (Qbl (Qu9 1 3 (by rfl) T.int (λ_ _=>.non) (λ_ _=>.str _ (by decide +kernel)) (λ_ _=>.str _ (by decide +kernel)) (λ_ _=>.non) (by decide +kernel) (QjL hr) QeQ YY YY QeQ))))) ZJ)
   (Jf (QaN (Qsq (Qjk (Qsq (Qln (ZP Qbs (QdZ hU) (qp 1) (Jq Qac) (JN _)) (Qhv (ZP Qbs (QdZ hU) (Jq (QcS ZK YT (qp 0) (Jq JT) (λ_ _=>rfl))) (Jq JT) (JN _))))) (Qig (Qsq (Qln (ZP Qbs (QdZ hU) (qp 1) (Jq Qac) (JN _)) (Qhv (ZP Qbs (QdZ hU) (Jq (QcS ZK YT (qp 0) (Jq JT) (λ_ _=>rfl))) (Jq JT) (JN _)))))))) (Jo (Qbl Qac)) ZJ)
   (Jo (Qbl Qvb))),λargs R EX h=>?_⟩
  obtain⟨b,d,rfl,hR⟩:=h;cases d with
  |put x y=>
   refine⟨⟨rfl,rfl,by show(Q0 "put").depth<=50;decide +kernel⟩,?_⟩;refine ifT (by show([Q0 "put",Q0 "take"].any λe=>e.eqv (.str "put"))=true;decide +kernel) ?_
   refine⟨_,JB (j:=0) rfl,_,JB (j:=1) rfl,_,_,_,rfl,?_⟩;have e:QjS (.put x y) b=if inP b x y=true then(if b.f (nI x) (nI y)=true then some ("double" : Str) else none) else some ("place" : Str):=rfl
   cases z:inP b x y with
   |false=>
    rw[e,z] at hR;have z:Qiu (b.h:Int) (b.w:Int) (.tuple [x,y])=false:=z;refine ifT ?_ hR
    show(!Qiu (b.h:Int) (b.w:Int) (.tuple [x,y]))=true;rw[z];rfl
   |true=>
    rw[e,z,if_pos rfl] at hR;obtain⟨r,c,rfl,rfl,hr',hc⟩:=QjK z;have z:Qiu (b.h:Int) (b.w:Int) (.tuple [.int r,.int c])=true:=z;refine ifF ?_ ?_
    ·show(!Qiu (b.h:Int) (b.w:Int) (.tuple [.int r,.int c]))=false;rw[z];rfl
    refine⟨_,JB (j:=2) rfl,⟨ZY _,rfl,by have:=YA ((r:Int),(c:Int));exact QL (Qah this) (by decide)⟩,?_⟩;have ea:(((cellsF b.h b.w b.f).map pairD).any λe=>Jd e (.tuple [.int r,.int c]))=b.f r c:=(QaS _ ((r:Int),(c:Int))).trans (Qmh hr' hc);have hR:R (Qv6 (if b.f r c=true then some ("double" : Str) else none)):=hR;show(match Qut "put" "take" .none (.str "double") (.str "cell") .none "put" (if false=true then _ else(((cellsF b.h b.w b.f).map pairD).any λe=>Jd e (.tuple [.int r,.int c]))) with | some d=>R d | none=>False);rw[if_neg (by decide),ea];unfold Qut;rw[if_pos rfl];cases zf:b.f r c with
    |false=>rw[zf] at hR;exact hR
    |true=>rw[zf] at hR;exact hR
  |take x y=>
   refine⟨⟨rfl,rfl,by show(Q0 "take").depth<=50;decide +kernel⟩,?_⟩;refine ifT (by show([Q0 "put",Q0 "take"].any λe=>e.eqv (.str "take"))=true;decide +kernel) ?_
   refine⟨_,JB (j:=0) rfl,_,JB (j:=1) rfl,_,_,_,rfl,?_⟩;have e:QjS (.take x y) b=if inP b x y=true then(if b.f (nI x) (nI y)=true then none else some ("cell" : Str)) else some ("place" : Str):=rfl
   cases z:inP b x y with
   |false=>
    rw[e,z] at hR;have z:Qiu (b.h:Int) (b.w:Int) (.tuple [x,y])=false:=z;refine ifT ?_ hR
    show(!Qiu (b.h:Int) (b.w:Int) (.tuple [x,y]))=true;rw[z];rfl
   |true=>
    rw[e,z,if_pos rfl] at hR;obtain⟨r,c,rfl,rfl,hr',hc⟩:=QjK z;have z:Qiu (b.h:Int) (b.w:Int) (.tuple [.int r,.int c])=true:=z;refine ifF ?_ ?_
    ·show(!Qiu (b.h:Int) (b.w:Int) (.tuple [.int r,.int c]))=false;rw[z];rfl
    refine⟨_,JB (j:=2) rfl,⟨ZY _,rfl,by have:=YA ((r:Int),(c:Int));exact QL (Qah this) (by decide)⟩,?_⟩;have ea:(((cellsF b.h b.w b.f).map pairD).any λe=>Jd e (.tuple [.int r,.int c]))=b.f r c:=(QaS _ ((r:Int),(c:Int))).trans (Qmh hr' hc);have hR:R (Qv6 (if b.f r c=true then none else some ("cell" : Str))):=hR;show(match Qut "put" "take" .none (.str "double") (.str "cell") .none "take" (if false=true then _ else(((cellsF b.h b.w b.f).map pairD).any λe=>Jd e (.tuple [.int r,.int c]))) with | some d=>R d | none=>False);rw[if_neg (by decide),ea];unfold Qut;rw[if_neg (show ¬("take" : Str) = "put" by decide +kernel),if_pos rfl];cases zf:b.f r c with
    |false=>rw[zf] at hR;exact hR
    |true=>rw[zf] at hR;exact hR
  |row=>
   have e:QjS .row b=if b.h=6 then some ("many" : Str) else none:=rfl
   rw[e] at hR;refine⟨⟨rfl,rfl,by show(Q0 "row").depth<=50;decide +kernel⟩,?_⟩;refine ifF (by show([Q0 "put",Q0 "take"].any λe=>e.eqv (.str "row"))=false;decide +kernel) ?_
   refine⟨_,JB (j:=0) rfl,ifC (λz=>?_) λz=>?_⟩
   ·have z:decide ((b.h:Int)=6)=true:=z;rw[if_pos (show b.h=6 by have:=of_decide_eq_true z;omega)] at hR;exact hR
   ·have z:decide ((b.h:Int)=6)=false:=z;rw[if_neg (show ¬b.h=6 by have:=of_decide_eq_false z;omega)] at hR;exact hR
  |col=>
   have e:QjS .col b=if b.w=6 then some ("many" : Str) else none:=rfl
   rw[e] at hR;refine⟨⟨rfl,rfl,by show(Q0 "column").depth<=50;decide +kernel⟩,?_⟩;refine ifF (by show([Q0 "put",Q0 "take"].any λe=>e.eqv (.str "column"))=false;decide +kernel) ?_
   refine⟨_,JB (j:=1) rfl,ifC (λz=>?_) λz=>?_⟩
   ·have z:decide ((b.w:Int)=6)=true:=z;rw[if_pos (show b.w=6 by have:=of_decide_eq_true z;omega)] at hR;exact hR
   ·have z:decide ((b.w:Int)=6)=false:=z;rw[if_neg (show ¬b.w=6 by have:=of_decide_eq_false z;omega)] at hR;exact hR
  |turn=>
   refine⟨⟨rfl,rfl,by show(Q0 "turn").depth<=50;decide +kernel⟩,?_⟩;exact ifF (by show([Q0 "put",Q0 "take"].any λe=>e.eqv (.str "turn"))=false;decide +kernel) hR
  |rest=>
   refine⟨⟨rfl,rfl,by show(Q0 "rest").depth<=50;decide +kernel⟩,?_⟩;exact ifF (by show([Q0 "put",Q0 "take"].any λe=>e.eqv (.str "rest"))=false;decide +kernel) hR
  |undo=>
   refine⟨⟨rfl,rfl,by show(Q0 "undo").depth<=50;decide +kernel⟩,?_⟩;exact ifF (by show([Q0 "put",Q0 "take"].any λe=>e.eqv (.str "undo"))=false;decide +kernel) hR
end
end Rk
namespace Dl
open L2 _root_.Rd Rk
def N0:Addr->Prop:=λ_=>False
def SlV(H:Hp)(o:Option V):Sl->Prop
 |.no=>True
 |.v d=>∃v,o=some v/\DA N0 H v d
 |_=>False
theorem Qil{α β:Type}{F:α->β->Prop}:∀{l₁:List α}{l₂:List β},Zf F l₁ l₂->∀(i:Nat) a b,l₁[i]? = some a->l₂[i]? = some b->F a b
 |_,_,.nil,i,a,b,e,_=>by simp at e
 |_,_,.cons r t,0,a,b,e1,e2=>by simp at e1 e2;subst e1;subst e2;exact r
 |_,_,.cons r t,i+1,a,b,e1,e2=>Qil t i a b (by simpa using e1) (by simpa using e2)
theorem Qp6{α β:Type}{F:α->β->Prop}:∀{l₁:List α}{l₂:List β},Zf F l₁ l₂->l₁.length=l₂.length
 |_,_,.nil=>rfl
 |_,_,.cons _ t=>by rw[QV,QV,Qp6 t]
theorem Qhw{σ:L2.St}{δ:Sts}{H:Hp}(p:Zf (SlV H) σ δ){i:Nat}{a:Addr}(h:QyJ σ δ i a):False:=by
 obtain⟨h1,h2⟩:=h;rcases h2 with h2 | ⟨ds,h2⟩
 ·exact Qil p i _ _ h1 h2
 ·exact Qil p i _ _ h1 h2
theorem Qp2{K:PySem.W.Frag}{σ:L2.St}{δ:Sts}{H:Hp}(p:Zf (SlV H) σ δ):Rel K ⟨H,N0,N0⟩ σ H δ where
 len:=Qp6 p
 dom:=λ_ z=>z.elim
 dom0:=λ_ z=>z.elim
 pt0:=λ_ z=>z.elim
 kx:=λ_ _ _ e=>e
 sl:=λi o x e1 e2=>by
  have h:=Qil p i o x e1 e2;cases x with
  |no=>exact Ju
  |v d=>
   obtain⟨v,rfl,q⟩:=h;exact⟨v,rfl,q.mv (λ_ _ _ e=>e) λa z=>z.elim (λz=>.inl z) λ⟨i,z⟩=>(Qhw p z).elim⟩
  |own ds=>exact h.elim
  |pk ds=>exact h.elim
  |pot=>exact h.elim
  |scr=>exact h.elim
 inj:=λi j a ds _ _ h=>(Qhw p h).elim
theorem Qmm{σ:L2.St}{δ:Sts}{H H0 H':Hp}(p:Zf (SlV H0) σ δ)(k:Kp σ δ H H'):Same H H':=λb o e=>k.1 b o (λ⟨i,h1,h2⟩=>Qhw p ⟨h1,.inl h2⟩) e
theorem hyT{K:PySem.W.Frag}{E:XK}{w:DT}{σ:L2.St}{H:Hp}{Q:Bool->Hp->Prop}(δ:Sts)(p:Zf (SlV H) σ δ)(hw:w δ (λb=>∀H',Same H H'->Q b H') XF):tT K E w σ H Q:=
 ⟨⟨H,N0,N0⟩,δ,_,XF,Qp2 p,hw,λb hb H' _ kp=>hb H' (Qmm p kp),λ_ z=>z.elim⟩
theorem hyF{K:PySem.W.Frag}{E:XK}{w:DE}{σ:L2.St}{H:Hp}{Q:VK}(δ:Sts)(p:Zf (SlV H) σ δ)(hw:w δ (λd=>∀v H',Same H H'->DA N0 H' v d->Q v H') XF):tX .F K E w σ H Q:=
 ⟨⟨H,N0,N0⟩,δ,_,XF,Qp2 p,hw,λd hd v H' _ kp vk=>hd v H' (Qmm p kp) (DA.mv vk.1 (λ_ _ _ e=>e) λa z=>z.elim),λ_ z=>z.elim⟩
theorem spD{fr:Bool}{f:DF}{vs:List V}{H:Hp}{Q:VK}{Ex:XK}{args:List Sl}(R:Qc->Prop)(EX:XP)(q:Zf (QhU N0 N0 H) vs args)(h:f args R EX)(k:∀d,R d->∀v H',Same H H'->DA N0 H' v d->(fr=true->FrV H H' v)->Q v H')(kx:∀C,EX C->∀H',Same H H'->Ex (.ref C) none H'):ZE fr f vs H Q Ex:=
 ⟨N0,N0,args,R,EX,λ_ z=>z.elim,λ_ z=>z.elim,q,h,λd hd v H' kq=>k d hd v H' λb o e=>kq.1 b o (λz=>z.elim) e,λC hC H' kq=>kx C hC H' λb o e=>kq.1 b o (λz=>z.elim) e⟩
mutual
def flT:Qc->Bool
 |.none=>true
 |.bool _=>true
 |.int _=>true
 |.str _=>true
 |.tuple ds=>Qpa ds
 |_=>false
def Qpa:List Qc->Bool
 |[]=>true
 |d::ds=>flT d&&Qpa ds
end
mutual
theorem QtT{A A':Addr->Prop}{H H':Hp}(k:∀a xs,H a=some (.tup xs)->H' a=some (.tup xs))(m:∀a,A' a->∃xs,H' a=some (.lst xs)):∀(d:Qc)(x:V),flT d=true->DA A H x d->DA A' H' x d
 |.none,_,_,.non=>.non
 |.bool _,_,_,.bl _=>.bl _
 |.int _,_,_,.int _=>.int _
 |.str _,_,_,.str _ c=>.str _ c
 |.tuple ds,_,f,.tup (xs:=xs) n e q=>.tup (λz=>by obtain⟨ys,e'⟩:=m _ z;rw[k _ _ e] at e';cases e') (k _ _ e) (QmN k m ds xs f q)
theorem QmN{A A':Addr->Prop}{H H':Hp}(k:∀a xs,H a=some (.tup xs)->H' a=some (.tup xs))(m:∀a,A' a->∃xs,H' a=some (.lst xs)):∀(ds:List Qc)(xs:List V),Qpa ds=true->DAs A H xs ds->DAs A' H' xs ds
 |[],_,_,.nil=>.nil
 |d::ds,_,f,.cons (x:=x) (xs:=xs) q qs=>by
  have f':=Q4.mp (show(flT d&&Qpa ds)=true from f);exact .cons (QtT k m d x f'.1 q) (QmN k m ds xs f'.2 qs)
end
theorem QiA{ds:List Qc}(h:∀d∈ds,flT d=true):Qpa ds=true:=by
 induction ds with
 |nil=>rfl
 |cons d ds ih=>
  show(flT d&&Qpa ds)=true;rw[h d (.head _),ih λx hx=>h x (.tail _ hx)];rfl
theorem Qo9(cs:List (Int×Int)):Qpa (cs.map Rk.pairD)=true:=QiA λd hd=>by
 obtain⟨p,_,rfl⟩:=QH.mp hd;rfl
theorem Qyr(h w:Int)(cs:List (Int×Int)):flT (bdD h w cs)=true:=by
 show(true&&(true&&(Qpa (cs.map Rk.pairD)&&true)))=true;rw[Qo9];rfl
theorem Qub{A:Addr->Prop}{H:Hp}{v:V}{h w:Int}{cs:List (Int×Int)}(q:DA A H v (bdD h w cs)):∃a c ps,v=.ref a/\H a=some (.tup [.int h,.int w,.ref c])/\H c=some (.tup ps)/\DA A H (.ref c) (.tuple (cs.map Rk.pairD)):=by
 cases q with
 |tup n e q=>cases q with
  |cons q1 q=>cases q with
   |cons q2 q=>cases q with
    |cons q3 q=>
     cases q;cases q1;cases q2;cases q3 with
     |tup n2 e2 q2=>exact⟨_,_,_,rfl,e,e2,.tup n2 e2 q2⟩
end Dl
namespace Rk
open L2 _root_.Rd
open Dl
open Rt
abbrev Qj7:ZM:=Y7 (top 42) 0
abbrev bPut:ZM:=Y7 (top 42) 1
abbrev Qj3:ZM:=Y7 (top 42) 2
abbrev bRow:ZM:=Y7 (top 42) 3
abbrev bCol:ZM:=Y7 (top 42) 4
abbrev Qj2:ZM:=Y7 (top 42) 5
abbrev Qj4:ZM:=Y7 (top 42) 6
abbrev Qj1:ZM:=Y7 (top 42) 7
abbrev Qj6:ZM:=Y7 (top 42) 8
abbrev Qe9:ZM:=Y7 (top 42) 9
abbrev Qc5:ZM:=Y7 (top 42) 10
abbrev Qj5:ZM:=Y7 (top 42) 11
def B0:Bo:=⟨1,1,λ_ _=>false⟩
theorem QyN:B0.ok:=⟨by decide,by decide,by decide,by decide⟩
theorem ke:¬(("kept" : Str) = "earlier"):=by decide +kernel
def bfl(v:V)(l:Addr):List (Str×V):=QcT "earlier" (.ref l) (QcT "kept" v [])
theorem Qna(v:V)(l:Addr):bfl v l=([("kept",v),("earlier",V.ref l)]:List (Str×V)):=by
 show(if("kept" : Str) = "earlier" then[(("kept" : Str),V.ref l)] else(("kept" : Str),v)::QcT "earlier" (V.ref l) [])=([("kept",v),("earlier",V.ref l)]:List (Str×V));rw[if_neg ke]
 all_goals rfl
theorem Yt(v:V)(l:Addr):(bfl v l).lookup ("kept" : Str)=some v:=by
 unfold bfl;rw[Yv,if_neg ke,Yv,if_pos rfl]
theorem Qed(v:V)(l:Addr):(bfl v l).lookup ("earlier" : Str)=some (.ref l):=by
 unfold bfl;rw[Yv,if_pos rfl]
theorem YQ(v:V)(l:Addr){m:Str}(h1:¬m = "earlier")(h2:¬m = "kept"):(bfl v l).lookup m=none:=by
 unfold bfl;rw[Yv,if_neg h1,Yv,if_neg h2]
 all_goals rfl
theorem Qm8(v y:V)(l:Addr):QcT "kept" y (bfl v l)=bfl y l:=by
 rw[Qna,Qna];show(if("kept" : Str) = "kept" then(("kept" : Str),y)::[(("earlier" : Str),V.ref l)] else _)=([("kept",y),("earlier",V.ref l)]:List (Str×V));rw[if_pos rfl]
theorem Qm9(v:V)(l:Addr):(bfl v l).length<1000:=by rw[Qna];show 2<1000;decide
structure BnAt (C:Addr) (H:Hp) (b l:Addr) (es:List Bo) (k:Bo):Prop where
 at_:∃dx v xs,H b=some (.ins C dx (bfl v l))/\H l=some (.lst xs)/\DA N0 H v k.d/\DAs N0 H xs (es.map Bo.d)
def K2(b l:Addr)(H H':Hp):Prop:=∀a o,a≠b->a≠l->H a=some o->H' a=some o
theorem K2.of{b l:Addr}{H H':Hp}(s:Same H H'):K2 b l H H':=λa o _ _ e=>s a o e
theorem K2.trans{b l:Addr}{H H1 H2:Hp}(x:K2 b l H H1)(y:K2 b l H1 H2):K2 b l H H2:=λa o h1 h2 e=>y a o h1 h2 (x a o h1 h2 e)
theorem BnAt.same{C:Addr}{H H':Hp}{b l:Addr}{es:List Bo}{k:Bo}(x:BnAt C H b l es k)(s:Same H H'):BnAt C H' b l es k:=by
 obtain⟨dx,v,xs,e1,e2,d1,d2⟩:=x.at_;exact⟨dx,v,xs,s _ _ e1,s _ _ e2,d1.same s,d2.same s⟩
theorem QtL(k:Bo):flT k.d=true:=Qyr _ _ _
theorem Qv2(es:List Bo):Qpa (es.map Bo.d)=true:=QiA λd hd=>by
 obtain⟨k,_,rfl⟩:=QH.mp hd;exact QtL k
theorem K2.tups{b l:Addr}{H H':Hp}{C dx:Addr}{fs:List (Str×V)}{xs:List V}(k:K2 b l H H')(e1:H b=some (.ins C dx fs))(e2:H l=some (.lst xs)):∀a ys,H a=some (.tup ys)->H' a=some (.tup ys):=λa ys e=>k a _ (YB e e1 (λz=>nomatch z)) (YB e e2 (λz=>nomatch z)) e
theorem QgM{H H':Hp}{v:V}{k:Bo}(t:∀a ys,H a=some (.tup ys)->H' a=some (.tup ys))(q:DA N0 H v k.d):DA N0 H' v k.d:=QtT t (λ_ z=>z.elim) _ _ (QtL k) q
theorem Qe4{H H':Hp}{xs:List V}{es:List Bo}(t:∀a ys,H a=some (.tup ys)->H' a=some (.tup ys))(q:DAs N0 H xs (es.map Bo.d)):DAs N0 H' xs (es.map Bo.d):=QmN t (λ_ z=>z.elim) _ _ (Qv2 es) q
structure Bcl (K:PySem.W.Frag) (C:Addr):Prop where
 cl:Cls K C
 nK:NoAttr K C "kept"
 nE:NoAttr K C "earlier"
def Qe3(d:Deed)(es:List Bo)(k:Bo):Option Str:=match d with
 |.undo=>if es.isEmpty=true then some ("deed" : Str) else none
 |d=>QjS d k
def Qhr(d:Deed)(es:List Bo)(k:Bo):List Bo×Bo:=match d with
 |.undo=>(es.dropLast,es.getLastD k)
 |d=>(es++[k],Qbt d k)
def QyH(C:Addr)(xc:Str->Addr)(H:Hp)(Q:VK)(E:XK)(b l:Addr)(es:List Bo)(k:Bo)(d:Deed):Prop:=
 (∀wd,Qe3 d es k=some wd->∀H',Same H H'->E (.ref (xc wd)) none H')/\(Qe3 d es k=none->∀H',K2 b l H H'->BnAt C H' b l (Qhr d es k).1 (Qhr d es k).2->Q .non H')
def QkY(C:Addr):Sp:=λvs H Q _=>∃(p dx:Addr),vs=[.ref p]/\H p=some (.ins C dx [])/\∀(l:Addr)(H':Hp),H l=none->(∀a o,a≠p->H a=some o->H' a=some o)->BnAt C H' p l [] B0->Q .non H'
def Qdc(C:Addr):Sp:=λvs H Q _=>∃(b l:Addr)(es:List Bo)(k:Bo)(v:V)(k':Bo),vs=[.ref b,v]/\BnAt C H b l es k/\es.length<=1000/\DA N0 H v k'.d/\∀H',K2 b l H H'->BnAt C H' b l (es++[k]) k'->Q .non H'
def Qjb(C:Addr)(xc:Str->Addr)(mk:Qc->Qc->Deed):Sp:=λvs H Q E=>∃(b l:Addr)(es:List Bo)(k:Bo)(x y:V)(dx dy:Qc),vs=[.ref b,x,y]/\BnAt C H b l es k/\k.ok/\es.length<=1000/\DA N0 H x dx/\DA N0 H y dy/\QyH C xc H Q E b l es k (mk dx dy)
def QbW(C:Addr)(xc:Str->Addr)(d:Deed):Sp:=λvs H Q E=>∃(b l:Addr)(es:List Bo)(k:Bo),vs=[.ref b]/\BnAt C H b l es k/\k.ok/\es.length<=1000/\QyH C xc H Q E b l es k d
def Qhu(C:Addr):Sp:=λvs H Q _=>∃(b l:Addr)(es:List Bo)(k:Bo),vs=[.ref b]/\BnAt C H b l es k/\∀v,DA N0 H v k.d->Q v H
def Qft(C:Addr):Sp:=λvs H Q _=>∃(b l:Addr)(es:List Bo)(k:Bo),vs=[.ref b]/\BnAt C H b l es k/\k.ok/\∀t H',Same H H'->H t=none->H' t=some (.lst ((cIw k.f k.h k.w).map V.int))->Q (.ref t) H'
def QkW(C:Addr):Sp:=λvs H Q _=>∃(b l:Addr)(es:List Bo)(k:Bo),vs=[.ref b]/\BnAt C H b l es k/\k.ok/\∀(m:Nat) H',Qf7 (cellsF k.h k.w k.f) k.h k.w m->Same H H'->Q (.int m) H'
theorem QmP{A:Addr->Prop}{H:Hp}:∀{ns:List Int}{ys:List V},DAs A H ys (ns.map QD)->ys=ns.map V.int
 |[],_,.nil=>rfl
 |n::ns,_,.cons q qs=>by cases q;rw[QmP qs];rfl
section
variable{P:Qw}{w:Ja}{K:PySem.W.Frag}{mg:Str->Option Value}{base:JR}
theorem Qr9:Jc ["self"] ["self"] (Qm Qj7):=⟨rfl,rfl,rfl,by decide +kernel,rfl,by decide +kernel,by decide +kernel⟩
theorem Qtj{f C:Addr}{fd:Qq}(F:Fun K "__init__" "Bench.__init__" Qj7 f fd)(T:Bcl K C) :
  FnOk P w K mg base CX0 1 f fd ["self"] (QkY C):=by
 refine F.ok Qr9 (λvs H Q E h=>?_) (λcdv A outer s H vs Q E hr h=>?_)
 ·obtain⟨p,dx,rfl,_⟩:=h;rfl
 ·obtain⟨p,dx,rfl,hp,k⟩:=h;have hU:=Room.u60 hr;have hI:=Room.i60 hr;refine⟨_,QR (Qik (pv 0) (Qa4 (pa_c pe_int (pa_c pe_int (pa_c (Qa4 pa_nil) pa_nil)))) rfl) (Ji (Qik (pv 0) (pe_lstW pa_nil) rfl)),?_⟩;refine⟨by show 0<=1000;decide,λt1 H1 s1 n1 a1=>⟨by show 3<=1000;decide,λt2 H2 s2 n2 a2=>?_⟩⟩;have p2:=s2 _ _ (s1 _ _ hp);refine⟨_,rfl,p,C,dx,[],rfl,p2,T.cl,T.nK,by show 0<1000;decide,by show 0<=1000;decide,λl H3 s3 n3 e3=>?_⟩;have np:∀a o,a≠p->H a=some o->H3 a=some o:=λa o h e=>s3 _ _ (by rw[QU h];exact s2 _ _ (s1 _ _ e))
  have p3:H3 p=some (.ins C dx (QcT "kept" (.ref t2) [])):=s3 _ _ upd_same;have lp:l≠p:=YB e3 p3 (λz=>nomatch z);refine⟨_,rfl,p,C,dx,_,rfl,p3,T.cl,T.nE,by show 1<1000;decide,?_⟩;have nl:H l=none:=by
   cases z:H l with
   |none=>rfl
   |some o=>rw[QU lp,s2 _ _ (s1 _ _ z)] at n3;cases n3
  refine k l _ nl (λa o h e=>by rw[QU h];exact np a o h e) ⟨dx,.ref t2,[],upd_same,by rw[QU lp];exact e3,?_,.nil⟩;have t2p:t2≠p:=YB a2 p2 (λz=>nomatch z);have t1p:t1≠p:=YB (s2 _ _ a1) p2 (λz=>nomatch z);have b1:(upd H3 p (.ins C dx (QcT "earlier" (.ref l) (QcT "kept" (.ref t2) [])))) t1=some (.tup []):=by rw[QU t1p];exact s3 _ _ (by rw[QU t1p];exact s2 _ _ a1)
  have b2:(upd H3 p (.ins C dx (QcT "earlier" (.ref l) (QcT "kept" (.ref t2) [])))) t2=some (.tup [.int 1,.int 1,.ref t1]):=by rw[QU t2p];exact s3 _ _ (by rw[QU t2p];exact a2)
  exact .tup (λz=>z) b2 (.cons (.int _) (.cons (.int _) (.cons (.tup (λz=>z) b1 .nil) .nil)))
theorem Qr8:Jc ["self", "board"] ["self", "board"] (Qm Qj6):=⟨rfl,rfl,rfl,by decide +kernel,rfl,by decide +kernel,by decide +kernel⟩
theorem Qti{f C:Addr}{fd:Qq}(F:Fun K "keep" "Bench.keep" Qj6 f fd)(T:Bcl K C) :
  FnOk P w K mg base CX0 1 f fd ["self", "board"] (Qdc C):=by
 refine F.ok Qr8 (λvs H Q E h=>?_) (λcdv A outer s H vs Q E hr h=>?_)
 ·obtain⟨b,l,es,k,v,k',rfl,_⟩:=h;rfl
 ·obtain⟨b,l,es,k,v,k',rfl,B,hl,hv,q⟩:=h;have hU:=Room.u60 hr;have hI:=Room.i60 hr;refine⟨_,QR (Z8 (Qjn PySem.F.plainAttrs_list PySem.F.slot_list_append PySem.F.type_list_append Qd1 (Qap (pv 0) rfl) (pa_cons (Qap (pv 0) rfl) pa_nil))) (Ji (Qik (pv 0) (pv 1) rfl)),?_⟩;obtain⟨dx,kv,xs,e1,e2,d1,d2⟩:=B.at_;have lx:xs.length=es.length:=by rw[d2.length,Qg]
  have bl:b≠l:=YB e1 e2 (λz=>nomatch z);refine⟨_,rfl,b,C,dx,_,_,rfl,e1,T.cl,T.nE,Qed _ _,.inl ⟨rfl,_,SqL.of e2⟩,_,rfl,b,C,dx,_,_,rfl,e1,T.cl,T.nK,Yt _ _,l,xs,kv,rfl,rfl,e2,Qgr (by omega),?_⟩;refine⟨_,rfl,_,rfl,b,C,dx,_,rfl,by rw[QU bl];exact e1,T.cl,T.nK,Qm9 _ _,?_⟩;have kx:K2 b l H (upd (upd H l (.lst (xs++[kv]))) b (.ins C dx (QcT "kept" v (bfl kv l)))):=λa o h1 h2 e=>by rw[QU h1,QU h2];exact e
  have tp:=kx.tups e1 e2;refine q _ kx ⟨dx,v,xs++[kv],by rw[upd_same,Qm8],by rw[QU bl.symm,upd_same],QgM tp hv,?_⟩;rw[JF];exact(Qe4 tp d2).app (.cons (QgM tp d1) .nil)
theorem Qh9:Jc ["self", "row", "column", "high", "wide", "cells"] ["self", "row", "column"] (Qm bPut):=⟨rfl,rfl,rfl,by decide +kernel,rfl,by decide +kernel,by decide +kernel⟩
theorem QvI{f C:Addr}{fd:Qq}(F:Fun K "put" "Bench.put" bPut f fd)(T:Bcl K C){xc:Str->Addr}(Tg:GlbA mg)
  {f1:Addr} {fd1:Qq} (m1:mg "refuse_no_place" = some (.ref f1)) (G1:FnOk P w K mg base (Rx.CXE P w) 3 f1 fd1 ["board", "row", "column"] (ZE false (QwV (xc "place")))) (b1:Binds K fd1 ["board", "row", "column"] []) (k1:PySem.W.keepIn K (.ref f1)=true)
  {fk:Addr} {fdk:Qq} (mk:Meth K C "keep" fk) (Gk:FnOk P w K mg base CX0 1 fk fdk ["self", "board"] (Qdc C)) (bk:Binds K fdk ["self", "board"] [])
  (mC:mg "Double" = some (.ref (xc "double"))) (qC:PySem.W.excIn K (xc "double") Rx.mroV "ValueError.__new__" = true) :
  FnOk P w K mg base (Rx.CXE P w) 5 f fd ["self", "row", "column"] (Qjb C xc .put):=by
 refine Rx.okE F Qh9 (λvs H Q E h=>?_) (λcdv A outer s H vs Q E hr h=>?_)
 ·obtain⟨b,l,es,k,x,y,x',y',rfl,_⟩:=h;rfl
 ·obtain⟨b,l,es,k,x,y,x',y',rfl,B,o,hl,hx,hy,po⟩:=h;have hU:=Room.u60 hr;have hI:=Room.i60 hr;refine⟨_,QR (Z8 (pe_call G1 (hr.mono (by decide)) (by rfl) m1 k1 b1 .nil (Rx.Qjo (E:=E) (λ_ _ h=>h) rfl rfl rfl) (pa_cons (Qap (pv 0) rfl) (pa_cons (pv 1) (pa_cons (pv 2) pa_nil)))))
   (QR (Qdi (Qap (pv 0) rfl) (QdT rfl (ZI (Zo (i:=3) Qh9.nd rfl (by first | exact QF rfl | exact QK rfl)) (ZI (Zo (i:=4) Qh9.nd rfl (by first | exact QF rfl | exact QK rfl)) (ZI (Zo (i:=5) Qh9.nd rfl (by first | exact QF rfl | exact QK rfl)) Qb2)))))
   (QR (Qbf (QT.h (E:=E0) (ZP QlV (Qjt hI) (Jt (YS (ZF (qv 1) (ZF (qv 2) Jl)))) (qp 5) (by rfl))) (Ji (Rx.QfI (C:=xc "double") (E:=E) (λ_ _ h=>h) rfl rfl rfl rfl (by rfl) mC qC YY)) Z2)
   (Ji (Z8 (QcU (pv 0) T.cl mk Gk (hr.mono (by decide)) bk .nil pass0 (pa_cons (QE.h (E:=E0) (YS (ZF (qv 3) (ZF (qv 4) (ZF (ZD (Z5 JD Ys (by rfl) Tg.tuple Zs (Qdg (Jt (Qao Qec QgS (by rfl) Tg.sorted QcA (Qdg (Jt (Qad QaE QbS (qp 5) (Jt (YS (ZF (ZD (YS (ZF (qv 1) (ZF (qv 2) Jl)))) Jl))))) Jl))) Jl))) Jl))))) pa_nil)))))),?_⟩
  obtain⟨dx,kv,xs,e1,e2,d1,d2⟩:=B.at_;obtain⟨px,pn⟩:=po;refine⟨_,rfl,b,C,dx,_,_,rfl,e1,T.cl,T.nK,Yt _ _,_,rfl,_,rfl,?_⟩;refine spD (args:=[.v k.d,.v x',.v y']) (λd=>d=.none/\inP k x' y'=true) (λD=>D=xc "place" /\ inP k x' y'=false) (.cons d1 (.cons hx (.cons hy .nil))) ⟨k,x',y',rfl,λz=>⟨rfl,z⟩,λz=>⟨rfl,z⟩⟩ (λd hd v0 H1 s1 _ _=>?_) λD hD H1 s1=>?_
  case refine_2=>
   obtain⟨rfl,z⟩:=hD;refine px "place" ?_ H1 s1
   show(if inP k x' y'=true then _ else _)=_;rw[z];rfl
  obtain⟨_,hi⟩:=hd;obtain⟨r,c,rfl,rfl,hr',hc'⟩:=QjK hi;obtain⟨ak,ac,ps,rfl,f1,f2,dc⟩:=Qub d1;have e1':=s1 _ _ e1;refine⟨_,rfl,b,C,dx,_,_,rfl,e1',T.cl,T.nK,Yt _ _,ak,_,rfl,SqT.of (s1 _ _ f1),rfl,_,_,rfl,_,_,rfl,_,_,rfl,rfl,?_⟩;have xr:x=.int r:=by cases hx;rfl
  have yc:y=.int c:=by cases hy;rfl
  subst xr;subst yc;have slots:∀H',Same H1 H'->Zf (SlV H') [some (.ref b),some (.int r),some (.int c),some (.int k.h),some (.int k.w),some (.ref ac)] [.no,.v (.int r),.v (.int c),.v (.int k.h),.v (.int k.w),.v (.tuple ((cellsF k.h k.w k.f).map pairD))]:=λH' s'=>.cons Ju (.cons ⟨_,rfl,.int _⟩ (.cons ⟨_,rfl,.int _⟩ (.cons ⟨_,rfl,.int _⟩ (.cons ⟨_,rfl,.int _⟩ (.cons ⟨_,rfl,(DA.same dc s1).same s'⟩ .nil)))))
  refine hyT _ (slots H1 λ_ _ z=>z) ?_
  refine⟨⟨ZY _,rfl,by have:=YA ((r:Int),(c:Int));exact QL (Qah this) (by decide)⟩,λH2 s2=>?_⟩;have ea:(((cellsF k.h k.w k.f).map pairD).any λe=>Jd e (.tuple [.int r,.int c]))=k.f r c:=(QaS _ ((r:Int),(c:Int))).trans (Qmh hr' hc');show if(((cellsF k.h k.w k.f).map pairD).any λe=>Jd e (.tuple [.int r,.int c]))=true then _ else _
  rw[ea];have ed:Qe3 (.put (.int r) (.int c)) es k=if k.f r c=true then some ("double" : Str) else none:=by
   show(if inP k (.int r) (.int c)=true then(if k.f r c=true then some ("double" : Str) else none) else some "place")=_;rw[hi];rfl
  rw[ed] at pn;have s12:=s1.trans s2;cases zf:k.f r c with
  |true=>
   refine px "double" ?_ H2 s12
   rw[ed,zf];rfl
  |false=>
   rw[zf] at pn;have ln:(cellsF k.h k.w k.f).length<=36:=QL (ZZ k.w k.f k.h) (ZO o.h6 o.w6);refine⟨_,rfl,b,dx,_,rfl,s2 _ _ e1',YQ _ _ (by decide +kernel) (by decide +kernel),?_⟩;refine hyF _ (slots H2 s2) ?_
   refine⟨by show((cellsF k.h k.w k.f).map pairD).length+1<=1000000;rw[Qg];omega,?_⟩;have es':(cellsF k.h k.w k.f).map pairD++[QaJ [.int (r:Int),.int (c:Int)]]=(cellsF k.h k.w k.f++[((r:Int),(c:Int))]).map pairD:=by rw[JF];rfl
   show QcN [.tuple ((cellsF k.h k.w k.f).map pairD++[QaJ [.int (r:Int),.int (c:Int)]])] _;rw[es'];refine Qgq (Qlx zf) (by rw[Qv];show _+1<64;omega) (λp hp=>?_) λM pM pw=>?_
   ·rcases ZA.mp hp with hp | hp
    ·have:=QaR hp;have:=o.w6;omega
    ·rw[JL.mp hp];have:=o.w6;show 0<=(c:Int)/\(c:Int)<64;omega
   ·rw[QgQ hr' hc' pM pw];intro v3 H3 s3 dv;exact⟨b,l,es,k,v3,Qbt (.put (.int r) (.int c)) k,rfl,B.same (s12.trans s3),hl,dv,λH4 k4 B4=>pn rfl H4 ((K2.of (s12.trans s3)).trans k4) B4⟩
end
section
variable{P:Qw}{w:Ja}{K:PySem.W.Frag}{mg:Str->Option Value}{base:JR}
theorem QnT:Jc ["self", "row", "column"] ["self", "row", "column"] (Qm Qj3):=⟨rfl,rfl,rfl,by decide +kernel,rfl,by decide +kernel,by decide +kernel⟩
theorem QoJ{f C:Addr}{fd:Qq}(F:Fun K "take" "Bench.take" Qj3 f fd)(T:Bcl K C){xc:Str->Addr}
  {f1:Addr} {fd1:Qq} (m1:mg "refuse_no_place" = some (.ref f1)) (G1:FnOk P w K mg base (Rx.CXE P w) 3 f1 fd1 ["board", "row", "column"] (ZE false (QwV (xc "place")))) (b1:Binds K fd1 ["board", "row", "column"] []) (k1:PySem.W.keepIn K (.ref f1)=true)
  {f2:Addr} {fd2:Qq} (m2:mg "without" = some (.ref f2)) (G2:FnOk P w K mg base (Rx.CXE P w) 5 f2 fd2 ["board", "cell"] (ZE false (QxJ (xc "cell")))) (b2:Binds K fd2 ["board", "cell"] []) (k2:PySem.W.keepIn K (.ref f2)=true)
  {fk:Addr} {fdk:Qq} (mk:Meth K C "keep" fk) (Gk:FnOk P w K mg base CX0 1 fk fdk ["self", "board"] (Qdc C)) (bk:Binds K fdk ["self", "board"] []) :
  FnOk P w K mg base (Rx.CXE P w) 6 f fd ["self", "row", "column"] (Qjb C xc .take):=by
 refine Rx.okE F QnT (λvs H Q E h=>?_) (λcdv A outer s H vs Q E hr h=>?_)
 ·obtain⟨b,l,es,k,x,y,x',y',rfl,_⟩:=h;rfl
 ·obtain⟨b,l,es,k,x,y,x',y',rfl,B,o,hl,hx,hy,po⟩:=h;have hU:=Room.u60 hr;have hI:=Room.i60 hr;refine⟨_,QR (Z8 (pe_call G1 (hr.mono (by decide)) (by rfl) m1 k1 b1 .nil (Rx.Qjo (E:=E) (λ_ _ h=>h) rfl rfl rfl) (pa_cons (Qap (pv 0) rfl) (pa_cons (pv 1) (pa_cons (pv 2) pa_nil)))))
   (Ji (Z8 (QcU (pv 0) T.cl mk Gk (hr.mono (by decide)) bk .nil pass0 (pa_cons (pe_call G2 (hr.mono (by decide)) (by rfl) m2 k2 b2 .nil (Rx.Qjo (E:=E) (λ_ _ h=>h) rfl rfl rfl) (pa_cons (Qap (pv 0) rfl) (pa_cons (QE.h (E:=E0) (YS (ZF (qv 1) (ZF (qv 2) Jl)))) pa_nil))) pa_nil)))),?_⟩
  obtain⟨dx,kv,xs,e1,e2,d1,d2⟩:=B.at_;obtain⟨px,pn⟩:=po;refine⟨_,rfl,b,C,dx,_,_,rfl,e1,T.cl,T.nK,Yt _ _,_,rfl,_,rfl,?_⟩;refine spD (args:=[.v k.d,.v x',.v y']) (λd=>d=.none/\inP k x' y'=true) (λD=>D=xc "place" /\ inP k x' y'=false) (.cons d1 (.cons hx (.cons hy .nil))) ⟨k,x',y',rfl,λz=>⟨rfl,z⟩,λz=>⟨rfl,z⟩⟩ (λd hd v0 H1 s1 _ _=>?_) λD hD H1 s1=>?_
  case refine_2=>
   obtain⟨rfl,z⟩:=hD;refine px "place" ?_ H1 s1
   show(if inP k x' y'=true then _ else _)=_;rw[z];rfl
  obtain⟨_,hi⟩:=hd;obtain⟨r,c,rfl,rfl,hr',hc'⟩:=QjK hi;have e1':=s1 _ _ e1;have xr:x=.int r:=by cases hx;rfl
  have yc:y=.int c:=by cases hy;rfl
  subst xr;subst yc;refine⟨_,rfl,b,dx,_,rfl,e1',YQ _ _ (by decide +kernel) (by decide +kernel),?_⟩;refine⟨_,rfl,b,C,dx,_,_,rfl,e1',T.cl,T.nK,Yt _ _,?_⟩;refine hyF [.no,.v (.int r),.v (.int c)] (.cons Ju (.cons ⟨_,rfl,.int _⟩ (.cons ⟨_,rfl,.int _⟩ .nil))) ?_
  intro v2 H2 s2 dv;have ed:Qe3 (.take (.int r) (.int c)) es k=if k.f r c=true then none else some ("cell" : Str):=by
   show(if inP k (.int r) (.int c)=true then(if k.f r c=true then none else some ("cell" : Str)) else some "place")=_;rw[hi];rfl
  have s12:=s1.trans s2;refine spD (args:=[.v k.d,.v (pairD ((r:Int),(c:Int)))]) (λd=>d=(Qbt (.take (.int r) (.int c)) k).d/\k.f r c=true) (λD=>D=xc "cell" /\ k.f r c=false) (.cons (DA.same d1 s12) (.cons dv .nil)) ⟨k,r,c,rfl,hr',hc',λz=>⟨rfl,z⟩,λz=>⟨rfl,z⟩⟩ (λd hd v3 H3 s3 dv3 _=>?_) λD hD H3 s3=>?_
  case refine_2=>
   obtain⟨rfl,z⟩:=hD;refine px "cell" ?_ H3 (s12.trans s3)
   rw[ed,z];rfl
  obtain⟨rfl,zf⟩:=hd;rw[ed,zf] at pn;exact⟨b,l,es,k,v3,Qbt (.take (.int r) (.int c)) k,rfl,B.same (s12.trans s3),hl,dv3,λH4 k4 B4=>pn rfl H4 ((K2.of (s12.trans s3)).trans k4) B4⟩
theorem Qfy:Jc ["self", "high", "wide", "cells"] ["self"] (Qm bRow):=⟨rfl,rfl,rfl,by decide +kernel,rfl,by decide +kernel,by decide +kernel⟩
theorem Qtm{f C:Addr}{fd:Qq}(F:Fun K "row" "Bench.row" bRow f fd)(T:Bcl K C){xc:Str->Addr}
  {f1:Addr} {fd1:Qq} (m1:mg "refuse_too_many" = some (.ref f1)) (G1:FnOk P w K mg base (Rx.CXE P w) 1 f1 fd1 ["lines"] (ZE false (QwU (xc "many")))) (b1:Binds K fd1 ["lines"] []) (k1:PySem.W.keepIn K (.ref f1)=true)
  {fk:Addr} {fdk:Qq} (mk:Meth K C "keep" fk) (Gk:FnOk P w K mg base CX0 1 fk fdk ["self", "board"] (Qdc C)) (bk:Binds K fdk ["self", "board"] []) :
  FnOk P w K mg base (Rx.CXE P w) 3 f fd ["self"] (QbW C xc .row):=by
 refine Rx.okE F Qfy (λvs H Q E h=>?_) (λcdv A outer s H vs Q E hr h=>?_)
 ·obtain⟨b,l,es,k,rfl,_⟩:=h;rfl
 ·obtain⟨b,l,es,k,rfl,B,o,hl,po⟩:=h;have hU:=Room.u60 hr;have hI:=Room.i60 hr;refine⟨_,QR (Qdi (Qap (pv 0) rfl) (QdT rfl (ZI (Zo (i:=1) Qfy.nd rfl (by first | exact QF rfl | exact QK rfl)) (ZI (Zo (i:=2) Qfy.nd rfl (by first | exact QF rfl | exact QK rfl)) (ZI (Zo (i:=3) Qfy.nd rfl (by first | exact QF rfl | exact QK rfl)) Qb2)))))
   (QR (Z8 (pe_call G1 (hr.mono (by decide)) (by rfl) m1 k1 b1 .nil (Rx.Qjo (E:=E) (λ_ _ h=>h) rfl rfl rfl) (pa_cons (pv 1) pa_nil)))
   (Ji (Z8 (QcU (pv 0) T.cl mk Gk (hr.mono (by decide)) bk .nil pass0 (pa_cons (QE.h (E:=E0) (YS (ZF (ZD (Qad QaE QbS (qp 1) (Jq JT))) (ZF (qv 2) (ZF (qv 3) Jl))))) pa_nil))))),?_⟩
  obtain⟨dx,kv,xs,e1,e2,d1,d2⟩:=B.at_;obtain⟨px,pn⟩:=po;obtain⟨ak,ac,ps,rfl,f1,f2,dc⟩:=Qub d1;refine⟨_,rfl,b,C,dx,_,_,rfl,e1,T.cl,T.nK,Yt _ _,ak,_,rfl,SqT.of f1,rfl,_,_,rfl,_,_,rfl,_,_,rfl,rfl,?_⟩;refine⟨_,rfl,?_⟩;refine spD (args:=[.v (.int k.h)]) (λd=>d=.none/\k.h≠6) (λD=>D=xc "many" /\ k.h=6) (.cons (.int _) .nil) ⟨k.h,rfl,λz=>⟨rfl,z⟩,λz=>⟨rfl,z⟩⟩ (λd hd v0 H1 s1 _ _=>?_) λD hD H1 s1=>?_
  case refine_2=>
   obtain⟨rfl,z⟩:=hD;refine px "many" ?_ H1 s1
   show(if k.h=6 then _ else _)=_;rw[if_pos z]
  obtain⟨_,z⟩:=hd;have ed:Qe3 .row es k=none:=by
   show(if k.h=6 then _ else _)=_;rw[if_neg z]
  refine⟨_,rfl,b,dx,_,rfl,s1 _ _ e1,YQ _ _ (by decide +kernel) (by decide +kernel),?_⟩;refine hyF [.no,.v (.int k.h),.v (.int k.w),.v (.tuple ((cellsF k.h k.w k.f).map pairD))] (.cons Ju (.cons ⟨_,rfl,.int _⟩ (.cons ⟨_,rfl,.int _⟩ (.cons ⟨_,rfl,DA.same dc s1⟩ .nil)))) ?_
  intro v2 H2 s2 dv;have eb:(Qbt .row k).d=bdD ((k.h:Int)+1) k.w (cellsF k.h k.w k.f):=by
   show bdD _ _ (cellsF (k.h+1) k.w λr c=>k.f r c&&decide (r<k.h))=_;rw[QgP];rfl
  exact⟨b,l,es,k,v2,Qbt .row k,rfl,B.same (s1.trans s2),hl,by rw[eb];exact dv,λH4 k4 B4=>pn ed H4 ((K2.of (s1.trans s2)).trans k4) B4⟩
theorem Qfz:Jc ["self", "high", "wide", "cells"] ["self"] (Qm bCol):=⟨rfl,rfl,rfl,by decide +kernel,rfl,by decide +kernel,by decide +kernel⟩
theorem Qtn{f C:Addr}{fd:Qq}(F:Fun K "column" "Bench.column" bCol f fd)(T:Bcl K C){xc:Str->Addr}
  {f1:Addr} {fd1:Qq} (m1:mg "refuse_too_many" = some (.ref f1)) (G1:FnOk P w K mg base (Rx.CXE P w) 1 f1 fd1 ["lines"] (ZE false (QwU (xc "many")))) (b1:Binds K fd1 ["lines"] []) (k1:PySem.W.keepIn K (.ref f1)=true)
  {fk:Addr} {fdk:Qq} (mk:Meth K C "keep" fk) (Gk:FnOk P w K mg base CX0 1 fk fdk ["self", "board"] (Qdc C)) (bk:Binds K fdk ["self", "board"] []) :
  FnOk P w K mg base (Rx.CXE P w) 3 f fd ["self"] (QbW C xc .col):=by
 refine Rx.okE F Qfz (λvs H Q E h=>?_) (λcdv A outer s H vs Q E hr h=>?_)
 ·obtain⟨b,l,es,k,rfl,_⟩:=h;rfl
 ·obtain⟨b,l,es,k,rfl,B,o,hl,po⟩:=h;have hU:=Room.u60 hr;have hI:=Room.i60 hr;refine⟨_,QR (Qdi (Qap (pv 0) rfl) (QdT rfl (ZI (Zo (i:=1) Qfz.nd rfl (by first | exact QF rfl | exact QK rfl)) (ZI (Zo (i:=2) Qfz.nd rfl (by first | exact QF rfl | exact QK rfl)) (ZI (Zo (i:=3) Qfz.nd rfl (by first | exact QF rfl | exact QK rfl)) Qb2)))))
   (QR (Z8 (pe_call G1 (hr.mono (by decide)) (by rfl) m1 k1 b1 .nil (Rx.Qjo (E:=E) (λ_ _ h=>h) rfl rfl rfl) (pa_cons (pv 2) pa_nil)))
   (Ji (Z8 (QcU (pv 0) T.cl mk Gk (hr.mono (by decide)) bk .nil pass0 (pa_cons (QE.h (E:=E0) (YS (ZF (qv 1) (ZF (ZD (Qad QaE QbS (qp 2) (Jq JT))) (ZF (qv 3) Jl))))) pa_nil))))),?_⟩
  obtain⟨dx,kv,xs,e1,e2,d1,d2⟩:=B.at_;obtain⟨px,pn⟩:=po;obtain⟨ak,ac,ps,rfl,f1,f2,dc⟩:=Qub d1;refine⟨_,rfl,b,C,dx,_,_,rfl,e1,T.cl,T.nK,Yt _ _,ak,_,rfl,SqT.of f1,rfl,_,_,rfl,_,_,rfl,_,_,rfl,rfl,?_⟩;refine⟨_,rfl,?_⟩;refine spD (args:=[.v (.int k.w)]) (λd=>d=.none/\k.w≠6) (λD=>D=xc "many" /\ k.w=6) (.cons (.int _) .nil) ⟨k.w,rfl,λz=>⟨rfl,z⟩,λz=>⟨rfl,z⟩⟩ (λd hd v0 H1 s1 _ _=>?_) λD hD H1 s1=>?_
  case refine_2=>
   obtain⟨rfl,z⟩:=hD;refine px "many" ?_ H1 s1
   show(if k.w=6 then _ else _)=_;rw[if_pos z]
  obtain⟨_,z⟩:=hd;have ed:Qe3 .col es k=none:=by
   show(if k.w=6 then _ else _)=_;rw[if_neg z]
  refine⟨_,rfl,b,dx,_,rfl,s1 _ _ e1,YQ _ _ (by decide +kernel) (by decide +kernel),?_⟩;refine hyF [.no,.v (.int k.h),.v (.int k.w),.v (.tuple ((cellsF k.h k.w k.f).map pairD))] (.cons Ju (.cons ⟨_,rfl,.int _⟩ (.cons ⟨_,rfl,.int _⟩ (.cons ⟨_,rfl,DA.same dc s1⟩ .nil)))) ?_
  intro v2 H2 s2 dv;have eb:(Qbt .col k).d=bdD k.h ((k.w:Int)+1) (cellsF k.h k.w k.f):=by
   show bdD _ _ (cellsF k.h (k.w+1) λr c=>k.f r c&&decide (c<k.w))=_;rw[QgR];rfl
  exact⟨b,l,es,k,v2,Qbt .col k,rfl,B.same (s1.trans s2),hl,by rw[eb];exact dv,λH4 k4 B4=>pn ed H4 ((K2.of (s1.trans s2)).trans k4) B4⟩
theorem QnS:Jc ["self"] ["self"] (Qm Qj2):=⟨rfl,rfl,rfl,by decide +kernel,rfl,by decide +kernel,by decide +kernel⟩
theorem QoI{f C:Addr}{fd:Qq}(F:Fun K "turn" "Bench.turn" Qj2 f fd)(T:Bcl K C){xc:Str->Addr}
  {f1:Addr} {fd1:Qq} (m1:mg "turned" = some (.ref f1)) (G1:FnOk P w K mg base CX0 2 f1 fd1 ["board"] (ZE false QrT)) (b1:Binds K fd1 ["board"] []) (k1:PySem.W.keepIn K (.ref f1)=true)
  {fk:Addr} {fdk:Qq} (mk:Meth K C "keep" fk) (Gk:FnOk P w K mg base CX0 1 fk fdk ["self", "board"] (Qdc C)) (bk:Binds K fdk ["self", "board"] []) :
  FnOk P w K mg base (Rx.CXE P w) 3 f fd ["self"] (QbW C xc .turn):=by
 refine Rx.okE F QnS (λvs H Q E h=>?_) (λcdv A outer s H vs Q E hr h=>?_)
 ·obtain⟨b,l,es,k,rfl,_⟩:=h;rfl
 ·obtain⟨b,l,es,k,rfl,B,o,hl,po⟩:=h;have hU:=Room.u60 hr;have hI:=Room.i60 hr;refine⟨_,Ji (Z8 (QcU (pv 0) T.cl mk Gk (hr.mono (by decide)) bk .nil pass0 (pa_cons (pe_call G1 (hr.mono (by decide)) (by rfl) m1 k1 b1 .nil pass0 (pa_cons (Qap (pv 0) rfl) pa_nil)) pa_nil))),?_⟩;obtain⟨dx,kv,xs,e1,e2,d1,d2⟩:=B.at_;obtain⟨px,pn⟩:=po;refine⟨_,rfl,b,dx,_,rfl,e1,YQ _ _ (by decide +kernel) (by decide +kernel),?_⟩;refine⟨_,rfl,b,C,dx,_,_,rfl,e1,T.cl,T.nK,Yt _ _,?_⟩;refine spD (args:=[.v k.d]) (λd=>d=(Qbt .turn k).d) XF (.cons d1 .nil) ⟨k.h,k.w,k.f,rfl,o.h6,o.w6,rfl⟩ (λd hd v3 H3 s3 dv3 _=>?_) λD hD=>hD.elim
  subst hd;exact⟨b,l,es,k,v3,Qbt .turn k,rfl,B.same s3,hl,dv3,λH4 k4 B4=>pn rfl H4 ((K2.of s3).trans k4) B4⟩
theorem QnU:Jc ["self"] ["self"] (Qm Qj4):=⟨rfl,rfl,rfl,by decide +kernel,rfl,by decide +kernel,by decide +kernel⟩
theorem QoK{f C:Addr}{fd:Qq}(F:Fun K "rest" "Bench.rest" Qj4 f fd)(T:Bcl K C){xc:Str->Addr}
  {f1:Addr} {fd1:Qq} (m1:mg "rest_boards" = some (.ref f1)) (G1:FnOk P w K mg base CX0 1 f1 fd1 ["board"] (ZE false Qlc)) (b1:Binds K fd1 ["board"] []) (k1:PySem.W.keepIn K (.ref f1)=true)
  {fk:Addr} {fdk:Qq} (mk:Meth K C "keep" fk) (Gk:FnOk P w K mg base CX0 1 fk fdk ["self", "board"] (Qdc C)) (bk:Binds K fdk ["self", "board"] []) :
  FnOk P w K mg base (Rx.CXE P w) 2 f fd ["self"] (QbW C xc .rest):=by
 refine Rx.okE F QnU (λvs H Q E h=>?_) (λcdv A outer s H vs Q E hr h=>?_)
 ·obtain⟨b,l,es,k,rfl,_⟩:=h;rfl
 ·obtain⟨b,l,es,k,rfl,B,o,hl,po⟩:=h;have hU:=Room.u60 hr;have hI:=Room.i60 hr;refine⟨_,Ji (Z8 (QcU (pv 0) T.cl mk Gk (hr.mono (by decide)) bk .nil pass0 (pa_cons (pe_call G1 (hr.mono (by decide)) (by rfl) m1 k1 b1 .nil pass0 (pa_cons (Qap (pv 0) rfl) pa_nil)) pa_nil))),?_⟩;obtain⟨dx,kv,xs,e1,e2,d1,d2⟩:=B.at_;obtain⟨px,pn⟩:=po;refine⟨_,rfl,b,dx,_,rfl,e1,YQ _ _ (by decide +kernel) (by decide +kernel),?_⟩;refine⟨_,rfl,b,C,dx,_,_,rfl,e1,T.cl,T.nK,Yt _ _,?_⟩;refine spD (args:=[.v k.d]) (λd=>d=(Qbt .rest k).d) XF (.cons d1 .nil) ⟨k.h,k.w,k.f,rfl,o.h6,o.w6,rfl⟩ (λd hd v3 H3 s3 dv3 _=>?_) λD hD=>hD.elim
  subst hd;exact⟨b,l,es,k,v3,Qbt .rest k,rfl,B.same s3,hl,dv3,λH4 k4 B4=>pn rfl H4 ((K2.of s3).trans k4) B4⟩
theorem QnR:Jc ["self"] ["self"] (Qm Qj1):=⟨rfl,rfl,rfl,by decide +kernel,rfl,by decide +kernel,by decide +kernel⟩
theorem QoH{f C:Addr}{fd:Qq}(F:Fun K "undo" "Bench.undo" Qj1 f fd)(T:Bcl K C){xc:Str->Addr}
  (mC:mg "NoDeed" = some (.ref (xc "deed")))(qC:PySem.W.excIn K (xc "deed") Rx.mroV "ValueError.__new__" = true) :
  FnOk P w K mg base (Rx.CXE P w) 1 f fd ["self"] (QbW C xc .undo):=by
 refine Rx.okE F QnR (λvs H Q E h=>?_) (λcdv A outer s H vs Q E hr h=>?_)
 ·obtain⟨b,l,es,k,rfl,_⟩:=h;rfl
 ·obtain⟨b,l,es,k,rfl,B,o,hl,po⟩:=h;have hU:=Room.u60 hr;have hI:=Room.i60 hr;refine⟨_,QR (Qbf (QdR (QfH (Qap (pv 0) rfl) (λ_=>rfl))) (Ji (Rx.QfI (C:=xc "deed") (E:=E) (λ_ _ h=>h) rfl rfl rfl rfl (by rfl) mC qC YY)) Z2)
   (Ji (Qik (pv 0) (QlG PySem.F.plainAttrs_list PySem.F.slot_list_pop PySem.F.type_list_pop Qrh (Qap (pv 0) rfl)) rfl)),?_⟩
  obtain⟨dx,kv,xs,e1,e2,d1,d2⟩:=B.at_;obtain⟨px,pn⟩:=po;have lx:xs.length=es.length:=by rw[d2.length,Qg]
  have bl:b≠l:=YB e1 e2 (λz=>nomatch z);have ed:Qe3 .undo es k=if es.isEmpty=true then some ("deed" : Str) else none:=rfl
  refine⟨_,rfl,b,C,dx,_,_,rfl,e1,T.cl,T.nE,Qed _ _,!xs.isEmpty,.inl ⟨xs,SqL.of e2,rfl⟩,?_⟩;cases xs with
  |nil=>
   have ee:es=[]:=QeC (by rw[<- lx];rfl);subst ee;exact px "deed" rfl H λ_ _ z=>z
  |cons x0 xr=>
   have ne:es.isEmpty=false:=by cases es with | nil=>cases lx | cons _ _=>rfl
   rw[ed,ne] at pn;obtain⟨ep,kl,rfl⟩:∃ep kl,es=ep++[kl]:=⟨es.dropLast,es.getLast (by intro z;rw[z] at ne;cases ne),(Zr _).symm⟩
   obtain⟨xp,xl,ex⟩:∃xp xl,x0::xr=xp++[xl]:=⟨(x0::xr).dropLast,(x0::xr).getLast (by simp),(Zr _).symm⟩
   rw[ex] at e2 d2;have dd:DAs N0 H xp (ep.map Bo.d)/\DA N0 H xl kl.d:=by
    rw[JF] at d2;have lp:xp.length=(ep.map Bo.d).length:=by
     have:=d2.length;rw[Qv,Qv] at this
     simpa using this
    constructor
    ·have:=d2.take xp.length;rw[Qca rfl,lp,Qca rfl] at this;exact this
    ·have:=d2.drop xp.length;rw[Qcd rfl,lp,Qcd rfl] at this;cases this with | cons q _=>exact q
   show if(false:Bool)=true then _ else _
   refine Qaw ?_
   refine⟨_,rfl,b,C,dx,_,_,rfl,e1,T.cl,T.nE,Qed _ _,.inl ⟨rfl,_,SqL.of e2⟩,l,xp++[xl],xl,rfl,rfl,e2,by rw[Qv];show(xp++[xl])[xp.length+1 - 1]? = _;simp,?_⟩;refine⟨_,rfl,b,C,dx,_,rfl,by rw[QU bl];exact e1,T.cl,T.nK,Qm9 _ _,?_⟩;rw[Yw];have kx:K2 b l H (upd (upd H l (.lst xp)) b (.ins C dx (QcT "kept" xl (bfl kv l)))):=λa o h1 h2 e=>by rw[QU h1,QU h2];exact e
   have tp:=kx.tups e1 e2;refine pn rfl _ kx ?_
   have es2:Qhr .undo (ep++[kl]) k=(ep,kl):=by
    show((ep++[kl]).dropLast,(ep++[kl]).getLastD k)=_;rw[Yw];simp
   rw[es2];exact⟨dx,xl,xp,by rw[upd_same,Qm8],by rw[QU bl.symm,upd_same],QgM tp dd.2,Qe4 tp dd.1⟩
theorem Qk9:Jc ["self"] ["self"] (Qm Qe9):=⟨rfl,rfl,rfl,by decide +kernel,rfl,by decide +kernel,by decide +kernel⟩
theorem Ql6{f C:Addr}{fd:Qq}(F:Fun K "board" "Bench.board" Qe9 f fd)(T:Bcl K C) :
  FnOk P w K mg base CX0 1 f fd ["self"] (Qhu C):=by
 refine F.ok Qk9 (λvs H Q E h=>?_) (λcdv A outer s H vs Q E hr h=>?_)
 ·obtain⟨b,l,es,k,rfl,_⟩:=h;rfl
 ·obtain⟨b,l,es,k,rfl,B,q⟩:=h;have hU:=Room.u60 hr;have hI:=Room.i60 hr;refine⟨_,Ji (Zy (Qap (pv 0) rfl)),?_⟩;obtain⟨dx,kv,xs,e1,e2,d1,d2⟩:=B.at_;exact⟨_,rfl,b,C,dx,_,_,rfl,e1,T.cl,T.nK,Yt _ _,q kv d1⟩
theorem Qjd:Jc ["self"] ["self"] (Qm Qc5):=⟨rfl,rfl,rfl,by decide +kernel,rfl,by decide +kernel,by decide +kernel⟩
theorem Qjs{f C:Addr}{fd:Qq}(F:Fun K "counts" "Bench.counts" Qc5 f fd)(T:Bcl K C)
  {f1:Addr} {fd1:Qq} (m1:mg "counts_stands" = some (.ref f1)) (G1:FnOk P w K mg base CX0 3 f1 fd1 ["board"] (ZE true Qf2)) (b1:Binds K fd1 ["board"] []) (k1:PySem.W.keepIn K (.ref f1)=true) :
  FnOk P w K mg base CX0 4 f fd ["self"] (Qft C):=by
 refine F.ok Qjd (λvs H Q E h=>?_) (λcdv A outer s H vs Q E hr h=>?_)
 ·obtain⟨b,l,es,k,rfl,_⟩:=h;rfl
 ·obtain⟨b,l,es,k,rfl,B,o,q⟩:=h;have hU:=Room.u60 hr;have hI:=Room.i60 hr;refine⟨_,Ji (Zy (pe_call G1 (hr.mono (by decide)) (by rfl) m1 k1 b1 .nil pass0 (pa_cons (Qap (pv 0) rfl) pa_nil))),?_⟩;obtain⟨dx,kv,xs,e1,e2,d1,d2⟩:=B.at_;refine⟨_,rfl,b,C,dx,_,_,rfl,e1,T.cl,T.nK,Yt _ _,?_⟩;refine spD (args:=[.v k.d]) (λd=>d=.list ((cIw k.f k.h k.w).map QD)) XF (.cons d1 .nil) ⟨k.h,k.w,_,rfl,o.h6,o.w6,(Bo.bds o).col,by show YC (QiI (cellsF k.h k.w k.f) k.h k.w)=_;unfold QiI cIw;rw[Q1];rfl⟩ (λd hd v3 H3 s3 dv3 fr=>?_) λD hD=>hD.elim
  subst hd;cases dv3 with
  |@lst t ys _ _ e qq=>
   have ey:ys=(cIw k.f k.h k.w).map V.int:=QmP qq;rw[ey] at e;exact q t H3 s3 (fr rfl t rfl ⟨_,e⟩) e
theorem QnV:Jc ["self"] ["self"] (Qm Qj5):=⟨rfl,rfl,rfl,by decide +kernel,rfl,by decide +kernel,by decide +kernel⟩
theorem QoL{f C:Addr}{fd:Qq}(F:Fun K "most" "Bench.most" Qj5 f fd)(T:Bcl K C)
  {f1:Addr} {fd1:Qq} (m1:mg "greatest_size" = some (.ref f1)) (G1:FnOk P w K mg base CX0 4 f1 fd1 ["board"] (ZE false QmC)) (b1:Binds K fd1 ["board"] []) (k1:PySem.W.keepIn K (.ref f1)=true) :
  FnOk P w K mg base CX0 5 f fd ["self"] (QkW C):=by
 refine F.ok QnV (λvs H Q E h=>?_) (λcdv A outer s H vs Q E hr h=>?_)
 ·obtain⟨b,l,es,k,rfl,_⟩:=h;rfl
 ·obtain⟨b,l,es,k,rfl,B,o,q⟩:=h;have hU:=Room.u60 hr;have hI:=Room.i60 hr;refine⟨_,Ji (Zy (pe_call G1 (hr.mono (by decide)) (by rfl) m1 k1 b1 .nil pass0 (pa_cons (Qap (pv 0) rfl) pa_nil))),?_⟩;obtain⟨dx,kv,xs,e1,e2,d1,d2⟩:=B.at_;refine⟨_,rfl,b,C,dx,_,_,rfl,e1,T.cl,T.nK,Yt _ _,?_⟩;refine spD (args:=[.v k.d]) (λd=>∃m:Nat,d=.int m/\Qf7 (cellsF k.h k.w k.f) k.h k.w m) XF (.cons d1 .nil) ⟨k.h,k.w,_,rfl,Bo.bds o,λm g=>⟨m,rfl,g⟩⟩ (λd hd v3 H3 s3 dv3 fr=>?_) λD hD=>hD.elim
  obtain⟨m,rfl,g⟩:=hd;cases dv3;exact q m H3 g s3
end
def Qrp:Option Str->V
 |none=>.non
 |some s=>.str s
def QfN(d:Deed)(es:List Bo)(k:Bo):List Bo×Bo:=match Qe3 d es k with
 |some _=>(es,k)
 |none=>Qhr d es k
theorem QfX{d:Deed}{es:List Bo}{k:Bo}(h:d.wd ≠ "undo"):Qe3 d es k=QjS d k:=by cases d<;>first | rfl | exact absurd rfl h
theorem Qfq{d:Deed}{es:List Bo}{k:Bo}(h:d.wd ≠ "undo"):Qhr d es k=(es++[k],Qbt d k):=by cases d<;>first | rfl | exact absurd rfl h
theorem Qcr{d:Deed}{es:List Bo}{k:Bo}{wd:Str}(h:Qe3 d es k=some wd):QfN d es k=(es,k):=by unfold QfN;rw[h]
theorem Qbu{d:Deed}{es:List Bo}{k:Bo}(h:Qe3 d es k=none):QfN d es k=Qhr d es k:=by unfold QfN;rw[h]
theorem QoO{d:Deed}{k:Bo}(o:k.ok)(h:QjS d k=none):(Qbt d k).ok:=by
 obtain⟨h1,h6,w1,w6⟩:=o;cases d with
 |put x y=>exact⟨h1,h6,w1,w6⟩
 |take x y=>exact⟨h1,h6,w1,w6⟩
 |row=>
  have z:¬k.h=6:=λz=>by
   have h:(if k.h=6 then some ("many" : Str) else none)=none:=h;rw[if_pos z] at h;cases h
  exact⟨by show 1<=k.h+1;omega,by show k.h+1<=6;omega,w1,w6⟩
 |col=>
  have z:¬k.w=6:=λz=>by
   have h:(if k.w=6 then some ("many" : Str) else none)=none:=h;rw[if_pos z] at h;cases h
  exact⟨h1,h6,by show 1<=k.w+1;omega,by show k.w+1<=6;omega⟩
 |turn=>exact⟨w1,w6,h1,h6⟩
 |rest=>exact⟨h1,h6,w1,w6⟩
 |undo=>exact⟨h1,h6,w1,w6⟩
structure RwAt (H:Hp) (r:Addr) (es:List Bo) (k:Bo):Prop where
 at_:∃xs v,H r=some (.lst (xs++[v]))/\DAs N0 H xs (es.map Bo.d)/\DA N0 H v k.d
def K1(r:Addr)(H H':Hp):Prop:=∀a o,a≠r->H a=some o->H' a=some o
def QkX:Sp:=λvs H Q _=>∃(r:Addr)(es:List Bo)(k:Bo)(d:Deed)(x:V),vs=[.ref r,.str d.wd,x]/\RwAt H r es k/\k.ok/\es.length<=900/\DA N0 H x (.list d.told)/\∀H',K1 r H H'->RwAt H' r (QfN d es k).1 (QfN d es k).2->Q (Qrp (Qe3 d es k)) H'
def QkZ(C:Addr):Sp:=λvs H Q _=>∃(b l:Addr)(es:List Bo)(k:Bo)(d:Deed)(x:V),vs=[.ref b,.str d.wd,x]/\BnAt C H b l es k/\k.ok/\es.length<=900/\DA N0 H x (.list d.told)/\∀H',K2 b l H H'->BnAt C H' b l (QfN d es k).1 (QfN d es k).2->Q (Qrp (Qe3 d es k)) H'
def Qfs(C:Addr):Sp:=λvs H Q _=>∃(b l:Addr)(es:List Bo)(k:Bo)(v:V)(deep:Bool),vs=[.ref b,v,.bl deep]/\BnAt C H b l es k/\k.ok/\DA N0 H v k.d/\∀H',Same H H'->Q (.bl true) H'
theorem QiG{H:Hp}{x:V}{a b:Qc}(q:DA N0 H x (.list [a,b])):∃t u v,x=.ref t/\H t=some (.lst [u,v])/\DA N0 H u a/\DA N0 H v b:=by
 cases q with
 |lst n e q=>cases q with
  |cons q1 q=>cases q with
   |cons q2 q=>cases q;exact⟨_,_,_,rfl,e,q1,q2⟩
theorem Qwe{H:Hp}{v:V}{o:Option Str}(q:DA N0 H v (Qv6 o)):v=Qrp o:=by
 cases o with
 |none=>cases q;rfl
 |some s=>cases q;rfl
theorem Qt9{k:Bo}(o:k.ok):nd k.d=true/\Qb7 3 k.d=true:=by
 have ln:(cellsF k.h k.w k.f).length<=36:=QL (ZZ k.w k.f k.h) (ZO o.h6 o.w6);constructor
 ·show(true&&(true&&(nds ((cellsF k.h k.w k.f).map pairD)&&true)))=true;rw[ZY];rfl
 ·show(decide (3<=1000)&&(true&&(true&&(Qb7 2 (.tuple ((cellsF k.h k.w k.f).map pairD))&&true))))=true;have e:Qb7 2 (.tuple ((cellsF k.h k.w k.f).map pairD))=true:=by
   show(decide (((cellsF k.h k.w k.f).map pairD).length<=1000)&&((cellsF k.h k.w k.f).map pairD).all (Qb7 1))=true;rw[Qg,decide_eq_true (by omega),Qay,Qki];exact J4.mpr λp _=>rfl
  rw[e];rfl
theorem Qmu{ns:List Int}(h:ns.length<=1000):nd (.list (ns.map QD))=true/\Qb7 3 (.list (ns.map QD))=true:=by
 constructor
 ·exact Qmc.mpr λd hd=>by obtain⟨n,_,rfl⟩:=QH.mp hd;rfl
 ·show(decide ((ns.map QD).length<=1000)&&(ns.map QD).all (Qb7 2))=true;rw[Qg,decide_eq_true h,Qay,Qki];exact J4.mpr λp _=>rfl
theorem Qt6(f:Nat->Nat->Bool)(h w:Nat):(cIw f h w).length=min h w+1:=by unfold cIw;rw[Qg,Q8]
theorem QjN{cs:List (Int×Int)}{h w m n:Nat}(a:Qf7 cs h w m)(b:Qf7 cs h w n):m=n:=by
 have h1:=a.2.2 n b.1 b.2.1;have h2:=b.2.2 m a.1 a.2.1;omega
theorem Qpj{A:Addr->Prop}{H:Hp}{xp:List V}{xl:V}{ep:List Bo}{kl:Bo}(d2:DAs A H (xp++[xl]) ((ep++[kl]).map Bo.d)):DAs A H xp (ep.map Bo.d)/\DA A H xl kl.d:=by
 rw[JF] at d2;have lp:xp.length=(ep.map Bo.d).length:=by
  have:=d2.length;rw[Qv,Qv] at this
  simpa using this
 constructor
 ·have:=d2.take xp.length;rw[Qca rfl,lp,Qca rfl] at this;exact this
 ·have:=d2.drop xp.length;rw[Qcd rfl,lp,Qcd rfl] at this;cases this with | cons q _=>exact q
theorem Qhm{d:Deed}(h:d.wd = "undo"):d=.undo:=by
 cases d with
 |undo=>rfl
 |put x y=>exact absurd (show("put" : Str) = "undo" from h) (by decide +kernel)
 |take x y=>exact absurd (show("take" : Str) = "undo" from h) (by decide +kernel)
 |row=>exact absurd (show("row" : Str) = "undo" from h) (by decide +kernel)
 |col=>exact absurd (show("column" : Str) = "undo" from h) (by decide +kernel)
 |turn=>exact absurd (show("turn" : Str) = "undo" from h) (by decide +kernel)
 |rest=>exact absurd (show("rest" : Str) = "undo" from h) (by decide +kernel)
theorem QuF(d:Deed):JO (.str d.wd)=true:=by
 cases d with
 |put x y=>exact(by decide +kernel:JO (.str "put")=true)
 |take x y=>exact(by decide +kernel:JO (.str "take")=true)
 |row=>exact(by decide +kernel:JO (.str "row")=true)
 |col=>exact(by decide +kernel:JO (.str "column")=true)
 |turn=>exact(by decide +kernel:JO (.str "turn")=true)
 |rest=>exact(by decide +kernel:JO (.str "rest")=true)
 |undo=>exact(by decide +kernel:JO (.str "undo")=true)
section
variable{P:Qw}{w:Ja}{K:PySem.W.Frag}{mg:Str->Option Value}{base:JR}
theorem Qk6:Jc ["_law_rows", "_law_word", "_law_told", "_law_due"] ["_law_rows", "_law_word", "_law_told"] (Qm QjD):=⟨rfl,rfl,rfl,by decide +kernel,rfl,by decide +kernel,by decide +kernel⟩
theorem Qth{f C:Addr}{fd:Qq}(F:Fun K "_law_kept" "_law_kept" QjD f fd)(Tg:GlbA mg)
  {f1:Addr} {fd1:Qq} (m1:mg "_law_refused_as" = some (.ref f1)) (G1:FnOk P w K mg base CX0 3 f1 fd1 ["_law_board", "_law_word", "_law_told"] (ZE false Qsg)) (b1:Binds K fd1 ["_law_board", "_law_word", "_law_told"] []) (k1:PySem.W.keepIn K (.ref f1)=true)
  {f2:Addr} {fd2:Qq} (m2:mg "_law_behind" = some (.ref f2)) (G2:FnOk P w K mg base CX0 2 f2 fd2 ["_law_board", "_law_word", "_law_told"] (ZE false QyD)) (b2:Binds K fd2 ["_law_board", "_law_word", "_law_told"] []) (k2:PySem.W.keepIn K (.ref f2)=true) :
  FnOk P w K mg base CX0 4 f fd ["_law_rows", "_law_word", "_law_told"] QkX:=by
 refine F.ok Qk6 (λvs H Q E h=>?_) (λcdv A outer s H vs Q E hr h=>?_)
 ·obtain⟨r,es,k,d,x,rfl,_⟩:=h;rfl
 ·obtain⟨r,es,k,d,x,rfl,W,o,hl,hx,k0⟩:=h;have hU:=Room.u60 hr;have hI:=Room.i60 hr;refine⟨_,QR (Qbf (ZS Qb3 (pv 1) YY (JN _)) (QR (Qbf (ZS Qb3 (pe_callB ZR (by rfl) Tg.len Qby (pa_cons (pv 0) pa_nil)) pe_int (JN _)) (Ji (Zy YY)) Z2)
    (QR (Z8 (QlG PySem.F.plainAttrs_list PySem.F.slot_list_pop PySem.F.type_list_pop Qrh (pv 0))) (Ji (Zy QeQ)))) Z2)
   (QR (ZQ (i:=3) Qk6.nd rfl (by first | exact QF rfl | exact QK rfl) (pe_call G1 (hr.mono (by decide)) (by rfl) m1 k1 b1 .nil pass0 (pa_cons (pe_ix ix_list (pv 0) (pe_un un_neg pe_int) (λ_ _=>rfl)) (pa_cons (pv 1) (pa_cons (pv 2) pa_nil)))))
   (QR (Qbf (ZS Qre (pv 3) QeQ (JN _)) (Ji (Z8 (Qjn PySem.F.plainAttrs_list PySem.F.slot_list_append PySem.F.type_list_append Qd1 (pv 0) (pa_cons (pe_call G2 (hr.mono (by decide)) (by rfl) m2 k2 b2 .nil pass0 (pa_cons (pe_ix ix_list (pv 0) (pe_un un_neg pe_int) (λ_ _=>rfl)) (pa_cons (pv 1) (pa_cons (pv 2) pa_nil)))) pa_nil)))) Z2)
   (Ji (Zy (pv 3))))),?_⟩
  obtain⟨xs,v,er,d2,d1⟩:=W.at_;have lx:xs.length=es.length:=by rw[d2.length,Qg]
  refine⟨_,rfl,rfl,_,rfl,?_⟩;by_cases hw:d.wd = "undo"
  ·have ed:d=.undo:=Qhm hw;subst ed;refine Qb5 ⟨_,rfl,r,_,rfl,.inl (SqL.of er),rfl,_,rfl,?_⟩;cases es with
   |nil=>
    have:xs=[]:=QeC lx;subst this;refine Qb5 (k0 H (λa o _ e=>e) ?_);exact⟨[],v,er,.nil,d1⟩
   |cons e0 er'=>
    have nz:¬(((xs++[v]).length:Nat):Int)=1:=by
     rw[Qv,lx];show ¬(((er'.length+1+1:Nat):Int)=1);omega
    have dz:decide (V.int ((xs++[v]).length:Int)=V.int 1)=false:=decide_eq_false λz=>nz (V.int.inj z)
    show if decide (V.int ((xs++[v]).length:Int)=V.int 1)=true then _ else _
    rw[dz];refine Qaw ⟨_,rfl,.inl ⟨rfl,_,SqL.of er⟩,r,xs++[v],v,rfl,rfl,er,by rw[Qv];show(xs++[v])[xs.length+1 - 1]? = _;simp,?_⟩;rw[Yw];have k1:K1 r H (upd H r (.lst xs)):=λa o h e=>by rw[QU h];exact e
    have tp:∀a ys,H a=some (.tup ys)->(upd H r (.lst xs)) a=some (.tup ys):=λa ys e=>k1 a _ (YB e er (λz=>nomatch z)) e
    refine k0 _ k1 ?_
    obtain⟨ep,kl,ee⟩:∃ep kl,e0::er'=ep++[kl]:=⟨(e0::er').dropLast,(e0::er').getLast (by simp),(Zr _).symm⟩
    rw[ee] at d2 lx ⊢;have en:QfN .undo (ep++[kl]) k=(ep,kl):=by
     rw[Qbu (show Qe3 .undo (ep++[kl]) k=none by rw[<- ee];rfl)];show((ep++[kl]).dropLast,(ep++[kl]).getLastD k)=_;rw[Yw];simp
    rw[en];obtain⟨xp,xl,rfl⟩:∃xp xl,xs=xp++[xl]:=⟨xs.dropLast,xs.getLast (by intro z;rw[z,Qv] at lx;simp at lx),(Zr _).symm⟩
    have dd:DAs N0 H xp (ep.map Bo.d)/\DA N0 H xl kl.d:=Qpj d2;exact⟨xp,xl,upd_same,Qe4 tp dd.1,QgM tp dd.2⟩
  ·have dz:decide (V.str d.wd=V.str "undo")=false:=decide_eq_false λz=>hw (V.str.inj z)
   show if decide (V.str d.wd=V.str "undo")=true then _ else _
   rw[dz];refine Qaw ?_
   refine⟨_,rfl,_,rfl,r,_,_,v,rfl,rfl,SqL.of er,QbI _ _,_,rfl,_,rfl,?_⟩;refine spD (args:=[.v k.d,.v (.str d.wd),.v (.list d.told)]) (λe=>e=Qv6 (QjS d k)) XF (.cons d1 (.cons (.str _ (QuF d)) (.cons hx .nil))) ⟨k,d,rfl,rfl⟩ (λe he v1 H1 s1 q1 _=>?_) λD hD=>hD.elim
   subst he;obtain rfl:=Qwe q1;have k0':=k0;rw[QfX hw] at k0;refine⟨_,rfl,rfl,_,rfl,?_⟩;cases zd:QjS d k with
   |some wd=>
    rw[zd] at k0;refine Qaw ⟨_,rfl,k0 H1 (λa o _ e=>s1 _ _ e) ?_⟩;rw[Qcr (by rw[QfX hw];exact zd)];exact⟨xs,v,s1 _ _ er,d2.same s1,d1.same s1⟩
   |none=>
    rw[zd] at k0;refine Qb5 ⟨_,rfl,.inl ⟨rfl,_,SqL.of (s1 _ _ er)⟩,?_⟩;refine⟨_,rfl,_,rfl,r,_,_,v,rfl,rfl,SqL.of (s1 _ _ er),QbI _ _,_,rfl,_,rfl,?_⟩;refine spD (args:=[.v k.d,.v (.str d.wd),.v (.list d.told)]) (λe=>e=(Qbt d k).d) XF (.cons (DA.same d1 s1) (.cons (.str _ (QuF d)) (.cons (DA.same hx s1) .nil))) ⟨k,d,rfl,o,zd,hw,rfl⟩ (λe he v2 H2 s2 q2 _=>?_) λD hD=>hD.elim
    subst he;have er2:=s2 _ _ (s1 _ _ er);refine⟨r,xs++[v],v2,rfl,rfl,er2,Qgr (by rw[Qv];show xs.length+1<=1000;omega),?_⟩;have k1:K1 r H (upd H2 r (.lst (xs++[v]++[v2]))):=λa o h e=>by rw[QU h];exact s2 _ _ (s1 _ _ e)
    have tp:∀a ys,H2 a=some (.tup ys)->(upd H2 r (.lst (xs++[v]++[v2]))) a=some (.tup ys):=λa ys e=>by rw[QU (YB e er2 (λz=>nomatch z))];exact e
    refine⟨_,rfl,k0 _ k1 ?_⟩;rw[Qbu (by rw[QfX hw];exact zd),Qfq hw];refine⟨xs++[v],v2,upd_same,?_,QgM tp q2⟩;show DAs N0 _ (xs++[v]) ((es++[k]).map Bo.d);rw[JF];exact(Qe4 tp ((d2.same s1).same s2)).app (.cons (QgM tp ((d1.same s1).same s2)) .nil)
end
theorem QtQ{d:Deed}{es:List Bo}{k:Bo}{wd:Str}(h:Qe3 d es k=some wd):wd = "place" ∨ wd = "double" ∨ wd = "cell" ∨ wd = "many" ∨ wd = "deed" := by
 cases d with
 |put x y=>
  have h:(if inP k x y=true then(if k.f (nI x) (nI y)=true then some ("double" : Str) else none) else some "place")=some wd:=h;split at h
  ·split at h
   ·cases h;exact .inr (.inl rfl)
   ·cases h
  ·cases h;exact .inl rfl
 |take x y=>
  have h:(if inP k x y=true then(if k.f (nI x) (nI y)=true then none else some ("cell" : Str)) else some "place")=some wd:=h;split at h
  ·split at h
   ·cases h
   ·cases h;exact .inr (.inr (.inl rfl))
  ·cases h;exact .inl rfl
 |row=>
  have h:(if k.h=6 then some ("many" : Str) else none)=some wd:=h;split at h
  ·cases h;exact .inr (.inr (.inr (.inl rfl)))
  ·cases h
 |col=>
  have h:(if k.w=6 then some ("many" : Str) else none)=some wd:=h;split at h
  ·cases h;exact .inr (.inr (.inr (.inl rfl)))
  ·cases h
 |turn=>cases h
 |rest=>cases h
 |undo=>
  have h:(if es.isEmpty=true then some ("deed" : Str) else none)=some wd:=h;split at h
  ·cases h;exact .inr (.inr (.inr (.inr rfl)))
  ·cases h
section
variable{P:Qw}{w:Ja}{K:PySem.W.Frag}{mg:Str->Option Value}{base:JR}
theorem Qk7:Jc ["_law_bench", "_law_word", "_law_told", "_law_e"] ["_law_bench", "_law_word", "_law_told"] (Qm QjE):=⟨rfl,rfl,rfl,by decide +kernel,rfl,by decide +kernel,by decide +kernel⟩
theorem Qtk{f C:Addr}{fd:Qq}(F:Fun K "_law_done" "_law_done" QjE f fd)(Tg:GlbA mg)(T:Bcl K C){xc:Str->Addr}
  {g1:Addr} {gd1:Qq} (n1:Meth K C "put" g1) (D1:FnOk P w K mg base (Rx.CXE P w) 5 g1 gd1 ["self", "row", "column"] (Qjb C xc .put)) (c1:Binds K gd1 ["self", "row", "column"] [])
  {g2:Addr} {gd2:Qq} (n2:Meth K C "take" g2) (D2:FnOk P w K mg base (Rx.CXE P w) 6 g2 gd2 ["self", "row", "column"] (Qjb C xc .take)) (c2:Binds K gd2 ["self", "row", "column"] [])
  {g3:Addr} {gd3:Qq} (n3:Meth K C "row" g3) (D3:FnOk P w K mg base (Rx.CXE P w) 3 g3 gd3 ["self"] (QbW C xc .row)) (c3:Binds K gd3 ["self"] [])
  {g4:Addr} {gd4:Qq} (n4:Meth K C "column" g4) (D4:FnOk P w K mg base (Rx.CXE P w) 3 g4 gd4 ["self"] (QbW C xc .col)) (c4:Binds K gd4 ["self"] [])
  {g5:Addr} {gd5:Qq} (n5:Meth K C "turn" g5) (D5:FnOk P w K mg base (Rx.CXE P w) 3 g5 gd5 ["self"] (QbW C xc .turn)) (c5:Binds K gd5 ["self"] [])
  {g6:Addr} {gd6:Qq} (n6:Meth K C "rest" g6) (D6:FnOk P w K mg base (Rx.CXE P w) 2 g6 gd6 ["self"] (QbW C xc .rest)) (c6:Binds K gd6 ["self"] [])
  {g7:Addr} {gd7:Qq} (n7:Meth K C "undo" g7) (D7:FnOk P w K mg base (Rx.CXE P w) 1 g7 gd7 ["self"] (QbW C xc .undo)) (c7:Binds K gd7 ["self"] [])
  {fK R:Addr} {cs:List Addr} {fdK:Qq} (mK:mg "_law_kind_of" = some (.ref fK)) (GK:Rx.FnM P w K mg base 1 fK fdK ["_law_e"] (Qgp K cs)) (bK:Binds K fdK ["_law_e"] []) (kK:PySem.W.keepIn K (.ref fK)=true) (mR:mg "RookError" = some (.ref R)) (ok_:∀wd:Str,wd = "place" ∨ wd = "double" ∨ wd = "cell" ∨ wd = "many" ∨ wd = "deed" -> KOk K cs R (xc wd) wd) :
  FnOk P w K mg base CX0 7 f fd ["_law_bench", "_law_word", "_law_told"] (QkZ C):=by
 refine F.ok Qk7 (λvs H Q E h=>?_) (λcdv A outer s H vs Q E hr h=>?_)
 ·obtain⟨b,l,es,k,d,x,rfl,_⟩:=h;rfl
 ·obtain⟨b,l,es,k,d,x,rfl,B,o,hl,hx,k0⟩:=h;have hU:=Room.u60 hr;have hI:=Room.i60 hr;refine⟨_,Ji (Rx.Qsv (i:=3) rfl rfl (Rx.QaO (Rx.QeP (ZS Qb3 (pv 1) YY (JN _)) (Rx.Qa3 (Rx.Qb1 (Rx.Qin (pv 0) T.cl n1 D1 (hr.mono (by decide)) c1 rfl (pa_cons (pe_ix ix_list (pv 2) pe_int (λ_ _=>rfl)) (pa_cons (pe_ix ix_list (pv 2) pe_int (λ_ _=>rfl)) pa_nil))))) Rx.QbD)
    (Rx.QaO (Rx.QeP (ZS Qb3 (pv 1) YY (JN _)) (Rx.Qa3 (Rx.Qb1 (Rx.Qin (pv 0) T.cl n2 D2 (hr.mono (by decide)) c2 rfl (pa_cons (pe_ix ix_list (pv 2) pe_int (λ_ _=>rfl)) (pa_cons (pe_ix ix_list (pv 2) pe_int (λ_ _=>rfl)) pa_nil))))) Rx.QbD)
    (Rx.QaO (Rx.QeP (ZS Qb3 (pv 1) YY (JN _)) (Rx.Qa3 (Rx.Qb1 (Rx.Qbq (pv 0) T.cl n3 D3 (hr.mono (by decide)) c3 rfl))) Rx.QbD)
    (Rx.QaO (Rx.QeP (ZS Qb3 (pv 1) YY (JN _)) (Rx.Qa3 (Rx.Qb1 (Rx.Qbq (pv 0) T.cl n4 D4 (hr.mono (by decide)) c4 rfl))) Rx.QbD)
    (Rx.QaO (Rx.QeP (ZS Qb3 (pv 1) YY (JN _)) (Rx.Qa3 (Rx.Qb1 (Rx.Qbq (pv 0) T.cl n5 D5 (hr.mono (by decide)) c5 rfl))) Rx.QbD)
    (Rx.QaO (Rx.QeP (ZS Qb3 (pv 1) YY (JN _)) (Rx.Qa3 (Rx.Qb1 (Rx.Qbq (pv 0) T.cl n6 D6 (hr.mono (by decide)) c6 rfl))) Rx.QbD)
    (Rx.Qa3 (Rx.Qb1 (Rx.Qbq (pv 0) T.cl n7 D7 (hr.mono (by decide)) c7 rfl)))))))))
   Qk7.nd rfl rfl (by rfl) mR (λe=>Rx.Qof GK (Rx.Room.m (hr.mono (by decide)) e) (by rfl) mK kK bK (pa_cons (pv 3) pa_nil))),?_⟩
  have h3:(3:Nat)<4:=by decide
  have fin:∀d',d'=d->QyH C xc H (λv H2=>Q v H2) (λcv _ H2=>∃D,cv=.ref D/\(Rx.ByC K D R/\∀a,H2 a=none->(Z1 (Yy 3) QbO) ((start ["_law_bench", "_law_word", "_law_told", "_law_e"] [.ref b,.str d.wd,x]).set 3 (some (.ref a))) (upd H2 a (Rx.exO a D)) λvs H3=>Qgp K cs vs H3 Q E0)) b l es k d':=by
   rintro d' rfl;refine⟨λwd hwd H1 s1=>⟨_,rfl,handled (ok_ wd (QtQ hwd)) h3 λH2 s2=>?_⟩,λhn H1 k1 B1=>?_⟩
   ·have:=k0 H2 (K2.of (s1.trans s2)) (by rw[Qcr hwd];exact B.same (s1.trans s2));rw[hwd] at this;exact this
   ·have:=k0 H1 k1 (by rw[Qbu hn];exact B1);rw[hn] at this;exact this
  obtain⟨dx,kv,xs,e1,e2,d1,d2⟩:=B.at_;cases d with
  |put u v=>
   obtain⟨t,x1,x2,rfl,et,q1,q2⟩:=QiG hx;exact⟨_,rfl,rfl,_,rfl,Qb5 ⟨_,rfl,b,dx,_,rfl,e1,YQ _ _ (by decide +kernel) (by decide +kernel),_,rfl,t,_,_,x1,rfl,rfl,SqL.of et,JB (j:=0) rfl,_,rfl,t,_,_,x2,rfl,rfl,SqL.of et,JB (j:=1) rfl,b,l,es,k,x1,x2,u,v,rfl,B,o,by omega,q1,q2,fin _ rfl⟩⟩
  |take u v=>
   obtain⟨t,x1,x2,rfl,et,q1,q2⟩:=QiG hx;exact⟨_,rfl,rfl,_,rfl,Qaw ⟨rfl,⟨_,rfl,rfl,_,rfl,Qb5 ⟨_,rfl,b,dx,_,rfl,e1,YQ _ _ (by decide +kernel) (by decide +kernel),_,rfl,t,_,_,x1,rfl,rfl,SqL.of et,JB (j:=0) rfl,_,rfl,t,_,_,x2,rfl,rfl,SqL.of et,JB (j:=1) rfl,b,l,es,k,x1,x2,u,v,rfl,B,o,by omega,q1,q2,fin _ rfl⟩⟩⟩⟩
  |row=>
   exact⟨_,rfl,rfl,_,rfl,Qaw ⟨rfl,⟨_,rfl,rfl,_,rfl,Qaw ⟨rfl,⟨_,rfl,rfl,_,rfl,Qb5 ⟨_,rfl,b,dx,_,rfl,e1,YQ _ _ (by decide +kernel) (by decide +kernel),b,l,es,k,rfl,B,o,by omega,fin _ rfl⟩⟩⟩⟩⟩⟩
  |col=>
   exact⟨_,rfl,rfl,_,rfl,Qaw ⟨rfl,⟨_,rfl,rfl,_,rfl,Qaw ⟨rfl,⟨_,rfl,rfl,_,rfl,Qaw ⟨rfl,⟨_,rfl,rfl,_,rfl,Qb5 ⟨_,rfl,b,dx,_,rfl,e1,YQ _ _ (by decide +kernel) (by decide +kernel),b,l,es,k,rfl,B,o,by omega,fin _ rfl⟩⟩⟩⟩⟩⟩⟩⟩
  |turn=>
   exact⟨_,rfl,rfl,_,rfl,Qaw ⟨rfl,⟨_,rfl,rfl,_,rfl,Qaw ⟨rfl,⟨_,rfl,rfl,_,rfl,Qaw ⟨rfl,⟨_,rfl,rfl,_,rfl,Qaw ⟨rfl,⟨_,rfl,rfl,_,rfl,Qb5 ⟨_,rfl,b,dx,_,rfl,e1,YQ _ _ (by decide +kernel) (by decide +kernel),b,l,es,k,rfl,B,o,by omega,fin _ rfl⟩⟩⟩⟩⟩⟩⟩⟩⟩⟩
  |rest=>
   exact⟨_,rfl,rfl,_,rfl,Qaw ⟨rfl,⟨_,rfl,rfl,_,rfl,Qaw ⟨rfl,⟨_,rfl,rfl,_,rfl,Qaw ⟨rfl,⟨_,rfl,rfl,_,rfl,Qaw ⟨rfl,⟨_,rfl,rfl,_,rfl,Qaw ⟨rfl,⟨_,rfl,rfl,_,rfl,Qb5 ⟨_,rfl,b,dx,_,rfl,e1,YQ _ _ (by decide +kernel) (by decide +kernel),b,l,es,k,rfl,B,o,by omega,fin _ rfl⟩⟩⟩⟩⟩⟩⟩⟩⟩⟩⟩⟩
  |undo=>
   exact⟨_,rfl,rfl,_,rfl,Qaw ⟨rfl,⟨_,rfl,rfl,_,rfl,Qaw ⟨rfl,⟨_,rfl,rfl,_,rfl,Qaw ⟨rfl,⟨_,rfl,rfl,_,rfl,Qaw ⟨rfl,⟨_,rfl,rfl,_,rfl,Qaw ⟨rfl,⟨_,rfl,rfl,_,rfl,Qaw ⟨rfl,⟨_,rfl,b,dx,_,rfl,e1,YQ _ _ (by decide +kernel) (by decide +kernel),b,l,es,k,rfl,B,o,by omega,fin _ rfl⟩⟩⟩⟩⟩⟩⟩⟩⟩⟩⟩⟩⟩
end
theorem Qla{H:Hp}{Q:VK}{Ex:XK}{x y:V}{d:Qc}(hx:DA N0 H x d)(hy:DA N0 H y d)(fl:nd d=true/\Qb7 3 d=true)(k:∀H',Same H H'->Q (.bl true) H'):ZE false (QnY 3) [x,y] H Q Ex:=
 spD (args:=[.v d,.v d]) (λe=>e=.bool true) XF (.cons hx (.cons hy .nil)) ⟨d,rfl,fl.1,fl.2,rfl⟩ (λe he v H' s q _=>by subst he;cases q;exact k H' s) λ_ z=>z.elim
theorem Qzd{H:Hp}{Q:VK}{Ex:XK}{v:V}{k:Bo}(o:k.ok)(hv:DA N0 H v k.d)(q:∀u H',Same H H'->DA N0 H' u (.list ((cIw k.f k.h k.w).map QD))->Q u H'):ZE true Qml [v] H Q Ex:=
 spD (args:=[.v k.d]) (λe=>e=.list ((cIw k.f k.h k.w).map QD)) XF (.cons hv .nil) ⟨k.h,k.w,k.f,rfl,o.h6,o.w6,rfl⟩ (λe he u H' s qq _=>by subst he;exact q u H' s qq) λ_ z=>z.elim
theorem Qye{H:Hp}{Q:VK}{Ex:XK}{v:V}{k:Bo}(o:k.ok)(hv:DA N0 H v k.d)(q:∀(m:Nat) H',Qf7 (cellsF k.h k.w k.f) k.h k.w m->Same H H'->Q (.int m) H'):ZE false Qit [v] H Q Ex:=
 spD (args:=[.v k.d]) (λe=>∃m:Nat,e=.int m/\Qf7 (cellsF k.h k.w k.f) k.h k.w m) XF (.cons hv .nil) ⟨k,rfl,o,λm g=>⟨m,rfl,g⟩⟩ (λe he u H' s qq _=>by obtain⟨m,rfl,g⟩:=he;cases qq;exact q m H' g s) λ_ z=>z.elim
section
variable{P:Qw}{w:Ja}{K:PySem.W.Frag}{mg:Str->Option Value}{base:JR}
theorem Qh8:Jc ["_law_bench", "_law_board", "_law_deep", "_law_found"] ["_law_bench", "_law_board", "_law_deep"] (Qm QeZ):=⟨rfl,rfl,rfl,by decide +kernel,rfl,by decide +kernel,by decide +kernel⟩
theorem QoC{f C:Addr}{fd:Qq}(F:Fun K "_law_right" "_law_right" QeZ f fd)(Tg:GlbA mg)(T:Bcl K C)
  {f1:Addr} {fd1:Qq} (m1:mg "_law_same" = some (.ref f1)) (G1:FnOk P w K mg base CX0 5 f1 fd1 ["_law_found", "_law_due"] (ZE false (QnY 3))) (b1:Binds K fd1 ["_law_found", "_law_due"] []) (k1:PySem.W.keepIn K (.ref f1)=true)
  {f2:Addr} {fd2:Qq} (m2:mg "_law_counts_by_rows" = some (.ref f2)) (G2:FnOk P w K mg base CX0 1 f2 fd2 ["_law_board"] (ZE true Qml)) (b2:Binds K fd2 ["_law_board"] []) (k2:PySem.W.keepIn K (.ref f2)=true)
  {f3:Addr} {fd3:Qq} (m3:mg "_law_most" = some (.ref f3)) (G3:FnOk P w K mg base CX0 2 f3 fd3 ["_law_board"] (ZE false Qit)) (b3:Binds K fd3 ["_law_board"] []) (k3:PySem.W.keepIn K (.ref f3)=true)
  {g1:Addr} {gd1:Qq} (n1:Meth K C "board" g1) (D1:FnOk P w K mg base CX0 1 g1 gd1 ["self"] (Qhu C)) (c1:Binds K gd1 ["self"] [])
  {g2:Addr} {gd2:Qq} (n2:Meth K C "counts" g2) (D2:FnOk P w K mg base CX0 4 g2 gd2 ["self"] (Qft C)) (c2:Binds K gd2 ["self"] [])
  {g3:Addr} {gd3:Qq} (n3:Meth K C "most" g3) (D3:FnOk P w K mg base CX0 5 g3 gd3 ["self"] (QkW C)) (c3:Binds K gd3 ["self"] []) :
  FnOk P w K mg base CX0 6 f fd ["_law_bench", "_law_board", "_law_deep"] (Qfs C):=by
 refine F.ok Qh8 (λvs H Q E h=>?_) (λcdv A outer s H vs Q E hr h=>?_)
 ·obtain⟨b,l,es,k,v,deep,rfl,_⟩:=h;rfl
 ·obtain⟨b,l,es,k,v,deep,rfl,B,o,hv,k0⟩:=h;have hU:=Room.u60 hr;have hI:=Room.i60 hr;refine⟨_,QR (Qbf (QdR (Qcp (pe_call G1 (hr.mono (by decide)) (by rfl) m1 k1 b1 .nil pass0 (pa_cons (Qcq (pv 0) T.cl n1 D1 (hr.mono (by decide)) c1 .nil pass0) (pa_cons (pv 1) pa_nil))))) (Ji (Zy QdU)) Z2)
   (QR (Qbf (QfH (pv 2) (λ_=>rfl))
    (QR (ZQ (i:=3) Qh8.nd rfl (by first | exact QF rfl | exact QK rfl) (Qcq (pv 0) T.cl n2 D2 (hr.mono (by decide)) c2 .nil pass0))
    (QR (Qbf (PW.pt (Qjl (QdR (Qcp (pe_call G1 (hr.mono (by decide)) (by rfl) m1 k1 b1 .nil pass0 (pa_cons (pv 3) (pa_cons (pe_call G2 (hr.mono (by decide)) (by rfl) m2 k2 b2 .nil pass0 (pa_cons (pv 1) pa_nil)) pa_nil))))) (Qgw (QdR (Qcp (pe_call G1 (hr.mono (by decide)) (by rfl) m1 k1 b1 .nil pass0 (pa_cons (Qcq (pv 0) T.cl n3 D3 (hr.mono (by decide)) c3 .nil pass0) (pa_cons (pe_call G3 (hr.mono (by decide)) (by rfl) m3 k3 b3 .nil pass0 (pa_cons (pv 1) pa_nil)) pa_nil)))))))) (Ji (Zy QdU)) Z2)
    (QR (Z8 (QlG PySem.F.plainAttrs_list PySem.F.slot_list_clear PySem.F.type_list_clear QoT (pv 3)))
    (Ji (Zy (Qdk (pe_call G1 (hr.mono (by decide)) (by rfl) m1 k1 b1 .nil pass0 (pa_cons (Qcq (pv 0) T.cl n2 D2 (hr.mono (by decide)) c2 .nil pass0) (pa_cons (pe_call G2 (hr.mono (by decide)) (by rfl) m2 k2 b2 .nil pass0 (pa_cons (pv 1) pa_nil)) pa_nil))) (Qdj (pe_call G1 (hr.mono (by decide)) (by rfl) m1 k1 b1 .nil pass0 (pa_cons (Qcq (pv 0) T.cl n1 D1 (hr.mono (by decide)) c1 .nil pass0) (pa_cons (pv 1) pa_nil)))))))))) Z2)
   (Ji (Zy QdU))),?_⟩
  obtain⟨dx,kv,xs,e1,e2,d1,d2⟩:=B.at_;have bf:=Qt9 o;have cf:=Qmu (ns:=cIw k.f k.h k.w) (by rw[Qt6];have:=o.h6;omega);have at_:∀{H'},Same H H'->H' b=some (.ins C dx (bfl kv l)):=λs=>s _ _ e1
  refine⟨_,rfl,b,dx,_,rfl,e1,YQ _ _ (by decide +kernel) (by decide +kernel),b,l,es,k,rfl,B,λv1 q1=>⟨_,rfl,Qla q1 hv bf λH1 s1=>⟨true,rfl,Qaw ?_⟩⟩⟩;refine⟨_,rfl,deep,rfl,?_⟩;cases deep with
  |false=>exact Qaw (k0 H1 s1)
  |true=>
   refine Qb5 ?_
   refine⟨_,rfl,b,dx,_,rfl,at_ s1,YQ _ _ (by decide +kernel) (by decide +kernel),b,l,es,k,rfl,B.same s1,o,λt H2 s2 n2 e2'=>?_⟩;have s12:=s1.trans s2;have nt:H t=none:=by
    cases z:H t with
    |none=>rfl
    |some u=>rw[s1 _ _ z] at n2;cases n2
   have dt:∀{H':Hp}{t:Addr},H' t=some (.lst ((cIw k.f k.h k.w).map V.int))->DA N0 H' (.ref t) (.list ((cIw k.f k.h k.w).map QD)):=λe=>.lst (λz=>z) e (QfQ _)
   refine⟨_,rfl,_,rfl,Qzd o (hv.same s12) λu3 H3 s3 q3=>Qla (dt (s3 _ _ e2')) q3 cf λH4 s4=>⟨true,rfl,Qaw ?_⟩⟩;have s14:=(s12.trans s3).trans s4;refine⟨_,rfl,b,dx,_,rfl,at_ s14,YQ _ _ (by decide +kernel) (by decide +kernel),b,l,es,k,rfl,B.same s14,o,λm H5 gm s5=>⟨_,rfl,Qye o ((hv.same s14).same s5) λm' H6 gm' s6=>?_⟩⟩;have em:=QjN gm gm';subst em;refine Qla (.int _) (.int _) ⟨rfl,rfl⟩ λH7 s7=>⟨true,rfl,Qaw ?_⟩
   have s17:=((s14.trans s5).trans s6).trans s7;have s27:Same H2 H7:=(((s3.trans s4).trans s5).trans s6).trans s7;have t7:=s27 _ _ e2';refine⟨_,rfl,.inl ⟨rfl,_,SqL.of t7⟩,t,_,rfl,rfl,t7,?_⟩;have s18:Same H (upd H7 t (.lst [])):=λa u e=>by rw[QU (λz=>by rw[z,nt] at e;cases e)];exact s17 _ _ e
   refine⟨_,rfl,b,dx,_,rfl,at_ s18,YQ _ _ (by decide +kernel) (by decide +kernel),b,l,es,k,rfl,B.same s18,o,λt9 H9 s9 n9 e9=>⟨_,rfl,Qzd o ((hv.same s18).same s9) λu10 H10 s10 q10=>Qla (dt (s10 _ _ e9)) q10 cf λH11 s11=>?_⟩⟩;have s111:=((s18.trans s9).trans s10).trans s11;refine⟨true,rfl,Qb5 ?_⟩;exact⟨_,rfl,b,dx,_,rfl,at_ s111,YQ _ _ (by decide +kernel) (by decide +kernel),b,l,es,k,rfl,B.same s111,λv12 q12=>⟨_,rfl,Qla q12 (hv.same s111) bf λH12 s12'=>k0 H12 (s111.trans s12')⟩⟩
end
theorem BnAt.keep{C:Addr}{H H':Hp}{b l:Addr}{es:List Bo}{k:Bo}(F:Addr->Prop)(x:BnAt C H b l es k)(kp:∀a o,¬F a->H a=some o->H' a=some o)(nb:¬F b)(nl:¬F l)(nt:∀a ys,H a=some (.tup ys)->¬F a):BnAt C H' b l es k:=by
 obtain⟨dx,v,xs,e1,e2,d1,d2⟩:=x.at_;have tp:∀a ys,H a=some (.tup ys)->H' a=some (.tup ys):=λa ys e=>kp a _ (nt a ys e) e
 exact⟨dx,v,xs,kp _ _ nb e1,kp _ _ nl e2,QgM tp d1,Qe4 tp d2⟩
theorem RwAt.keep{H H':Hp}{r:Addr}{es:List Bo}{k:Bo}(F:Addr->Prop)(x:RwAt H r es k)(kp:∀a o,¬F a->H a=some o->H' a=some o)(nr:¬F r)(nt:∀a ys,H a=some (.tup ys)->¬F a):RwAt H' r es k:=by
 obtain⟨xs,v,e,d2,d1⟩:=x.at_;have tp:∀a ys,H a=some (.tup ys)->H' a=some (.tup ys):=λa ys e=>kp a _ (nt a ys e) e
 exact⟨xs,v,kp _ _ nr e,Qe4 tp d2,QgM tp d1⟩
theorem RwAt.same{H H':Hp}{r:Addr}{es:List Bo}{k:Bo}(x:RwAt H r es k)(s:Same H H'):RwAt H' r es k:=x.keep (λ_=>False) (λa o _ e=>s a o e) id λ_ _ _=>id
structure Dst (H:Hp) (bl rl:Addr) (b l r:Bool->Addr):Prop where
 d1:∀i,b i≠b (!i)
 d2:∀i,l i≠l (!i)
 d3:∀i,r i≠r (!i)
 d4:∀i j,l i≠r j
 d5:∀i,bl≠l i/\bl≠r i/\rl≠l i/\rl≠r i
 nb:∀i,H (b i)=none
 nl:∀i,H (l i)=none
 nr:∀i,H (r i)=none
structure Wl (C:Addr) (H:Hp) (bl rl:Addr) (b l r:Bool->Addr) (S:Bool->List Bo×Bo) (n:Nat):Prop where
 hb:H bl=some (.lst [.ref (b false),.ref (b true)])
 hr:H rl=some (.lst [.ref (r false),.ref (r true)])
 bn:∀i,BnAt C H (b i) (l i) (S i).1 (S i).2
 rw:∀i,RwAt H (r i) (S i).1 (S i).2
 ok:∀i,∀k∈(S i).1++[(S i).2],k.ok
 len:∀i,(S i).1.length<=n
theorem Wl.same{C:Addr}{H H':Hp}{bl rl:Addr}{b l r:Bool->Addr}{S:Bool->List Bo×Bo}{n:Nat}(x:Wl C H bl rl b l r S n)(s:Same H H'):Wl C H' bl rl b l r S n:=
 ⟨s _ _ x.hb,s _ _ x.hr,λi=>(x.bn i).same s,λi=>(x.rw i).same s,x.ok,x.len⟩
theorem Wl.okk{C:Addr}{H:Hp}{bl rl:Addr}{b l r:Bool->Addr}{S:Bool->List Bo×Bo}{n:Nat}(x:Wl C H bl rl b l r S n)(i:Bool):(S i).2.ok:=x.ok i _ (by simp)
def Qr5(S:Bool->List Bo×Bo)(i:Bool)(s:List Bo×Bo):Bool->List Bo×Bo:=λj=>if j=i then s else S j
theorem QvM{d:Deed}{es:List Bo}{k:Bo}(h:∀x∈es++[k],x.ok):∀x∈(QfN d es k).1++[(QfN d es k).2],x.ok:=by
 cases hd:Qe3 d es k with
 |some wd=>rw[Qcr hd];exact h
 |none=>
  rw[Qbu hd];by_cases hu:d.wd = "undo"
  ·have e:=Qhm hu;subst e;cases es with
   |nil=>cases hd
   |cons a as=>
    obtain⟨ep,kl,ee⟩:∃ep kl,a::as=ep++[kl]:=⟨(a::as).dropLast,(a::as).getLast (by simp),(Zr _).symm⟩
    rw[ee] at h ⊢;have en:Qhr .undo (ep++[kl]) k=(ep,kl):=by
     show((ep++[kl]).dropLast,(ep++[kl]).getLastD k)=_;rw[Yw];simp
    rw[en];exact λx hx=>h x (ZA.mpr (.inl hx))
  ·rw[Qfq hu];rw[QfX hu] at hd;intro x hx;rcases ZA.mp hx with hx | hx
   ·exact h x hx
   ·rw[JL.mp hx];exact QoO (h k (by simp)) hd
theorem Qtq{d:Deed}{es:List Bo}{k:Bo}{n:Nat}(h:es.length<=n):(QfN d es k).1.length<=n+1:=by
 cases hd:Qe3 d es k with
 |some wd=>rw[Qcr hd];exact Qeo h
 |none=>
  rw[Qbu hd];by_cases hu:d.wd = "undo"
  ·have e:=Qhm hu;subst e;show es.dropLast.length<=n+1;rw[Qky];omega
  ·rw[Qfq hu];show(es++[k]).length<=n+1;rw[Qv];show es.length+1<=n+1;omega
def Qzm:TE:=λ_ H Q=>∀r H' v,Same H H'->H r=none->H' r=some (.lst [v])->DA N0 H' v B0.d->Q (.ref r) H'
theorem Qra{X:Cx}{j1 p1 j2 p2 x3 p3 x4 p4 p5}:PE X (.List [.Tuple [.Constant (.int 1) j1 p1,.Constant (.int 1) j2 p2,.Tuple [] x3 p3] x4 p4] p5) Qzm:=by
 refine PE.imp (pe_lstW (pa_c (Qa4 (pa_c pe_int (pa_c pe_int (pa_c (Qa4 pa_nil) pa_nil)))) pa_nil)) λσ H Q h=>?_
 refine⟨by show 0<=1000;decide,λt1 H1 s1 n1 a1=>⟨by show 3<=1000;decide,λt2 H2 s2 n2 a2=>⟨by show 1<=1000;decide,λr H3 s3 n3 a3=>?_⟩⟩⟩;refine h r H3 (.ref t2) ((s1.trans s2).trans s3) ?_ a3 (.tup (λz=>z) (s3 _ _ a2) (.cons (.int _) (.cons (.int _) (.cons (.tup (λz=>z) (s3 _ _ (s2 _ _ a1)) .nil) .nil))))
 cases z:H r with
 |none=>rfl
 |some o=>rw[s2 _ _ (s1 _ _ z)] at n3;cases n3
def bI(i:Bool):Int:=if i then 1 else 0
theorem Qpy(f:Bool->Addr)(i:Bool):atI [V.ref (f false),V.ref (f true)] (bI i)=some (.ref (f i)):=by
 cases i
 ·exact JB (j:=0) rfl
 ·exact JB (j:=1) rfl
theorem QyE{j:Nat}(h:j<2):∃i:Bool,(j:Int)=bI i:=by
 rcases(show j=0∨j=1 by omega) with rfl | rfl
 ·exact⟨false,rfl⟩
 ·exact⟨true,rfl⟩
theorem Wl.bn5{C:Addr}{H0 H4 H5:Hp}{bl rl:Addr}{b l r:Bool->Addr}{S:Bool->List Bo×Bo}{n:Nat}(D:Dst H0 bl rl b l r)(x:Wl C H4 bl rl b l r S n){w:Bool}(k5:K1 (r w) H4 H5)(j:Bool):BnAt C H5 (b j) (l j) (S j).1 (S j).2:=by
 obtain⟨xs,v,er,_,_⟩:=(x.rw w).at_;obtain⟨dx,v',xs',e1,e2,_,_⟩:=(x.bn j).at_;exact(x.bn j).keep (λa=>a=r w) (λa o h e=>k5 a o h e) (YB e1 er (λz=>nomatch z)) (D.d4 j w) λa ys e=>YB e er (λz=>nomatch z)
theorem Wl.step{C:Addr}{H0 H4 H5 H6:Hp}{bl rl:Addr}{b l r:Bool->Addr}{S:Bool->List Bo×Bo}{n:Nat}(D:Dst H0 bl rl b l r)(x:Wl C H4 bl rl b l r S n)(w:Bool)(d:Deed)(k5:K1 (r w) H4 H5)(R5:RwAt H5 (r w) (QfN d (S w).1 (S w).2).1 (QfN d (S w).1 (S w).2).2)
  (k6:K2 (b w) (l w) H5 H6)(B6:BnAt C H6 (b w) (l w) (QfN d (S w).1 (S w).2).1 (QfN d (S w).1 (S w).2).2):Wl C H6 bl rl b l r (Qr5 S w (QfN d (S w).1 (S w).2)) (n+1):=by
 obtain⟨dx,v',xs',e1,e2,_,_⟩:=(x.bn5 D k5 w).at_;have eb:=k5 _ _ (D.d5 w).2.1 x.hb;have er:=k5 _ _ (D.d5 w).2.2.2 x.hr;have nt:∀a ys,H5 a=some (.tup ys)->¬(a=b w∨a=l w):=λa ys e z=>by
  rcases z with z | z
  ·exact YB e e1 (λz=>nomatch z) z
  ·exact YB e e2 (λz=>nomatch z) z
 have nt4:∀a ys,H4 a=some (.tup ys)->¬a=r w:=λa ys e=>by
  obtain⟨xs,v,er,_,_⟩:=(x.rw w).at_;exact YB e er (λz=>nomatch z)
 have k6':∀a o,¬(a=b w∨a=l w)->H5 a=some o->H6 a=some o:=λa o h e=>k6 a o (λz=>h (.inl z)) (λz=>h (.inr z)) e
 have rn:∀j,RwAt H5 (r j) (Qr5 S w (QfN d (S w).1 (S w).2) j).1 (Qr5 S w (QfN d (S w).1 (S w).2) j).2:=λj=>by
  unfold Qr5;by_cases hj:j=w
  ·rw[if_pos hj,hj];exact R5
  ·rw[if_neg hj];refine(x.rw j).keep (λa=>a=r w) (λa o h e=>k5 a o h e) ?_ nt4
   have:=D.d3 j;rw[show(!j)=w by cases j<;>cases w<;>first | rfl | exact absurd rfl hj] at this;exact this
 refine⟨k6 _ _ (YB eb e1 (λz=>nomatch z)) (D.d5 w).1 eb,k6 _ _ (YB er e1 (λz=>nomatch z)) (D.d5 w).2.2.1 er,λj=>?_,λj=>?_,λj=>?_,λj=>?_⟩
 ·unfold Qr5;by_cases hj:j=w
  ·rw[if_pos hj,hj];exact B6
  ·rw[if_neg hj];have ew:(!j)=w:=by cases j<;>cases w<;>first | rfl | exact absurd rfl hj
   obtain⟨dx',v'',xs'',f1,f2,_,_⟩:=(x.bn5 D k5 j).at_;refine(x.bn5 D k5 j).keep (λa=>a=b w∨a=l w) k6' (λz=>?_) (λz=>?_) nt
   ·rcases z with z | z
    ·have:=D.d1 j;rw[ew] at this;exact this z
    ·exact YB f1 e2 (λz=>nomatch z) z
   ·rcases z with z | z
    ·exact YB f2 e1 (λz=>nomatch z) z
    ·have:=D.d2 j;rw[ew] at this;exact this z
 ·obtain⟨xs,v,f,_,_⟩:=(rn j).at_;refine(rn j).keep (λa=>a=b w∨a=l w) k6' (λz=>?_) nt;rcases z with z | z
  ·exact YB f e1 (λz=>nomatch z) z
  ·exact D.d4 w j z.symm
 ·unfold Qr5;by_cases hj:j=w
  ·rw[if_pos hj];exact QvM (x.ok w)
  ·rw[if_neg hj];exact x.ok j
 ·unfold Qr5;by_cases hj:j=w
  ·rw[if_pos hj];exact Qtq (x.len w)
  ·rw[if_neg hj];exact Qeo (x.len j)
theorem QnM(o:Option Str):scal (Qrp o) (Qrp o)=true:=by cases o<;>rfl
section
variable{P:Qw}{w:Ja}{K:PySem.W.Frag}{mg:Str->Option Value}{base:JR}
theorem QbQ:Jc ["_law_script", "_law_benches", "_law_rows", "_law_number", "_law_pot_here", "_law_which", "_law_word", "_law_told", "_law_due", "_law_turn"] ["_law_script"] (Qm sLaw):=⟨rfl,rfl,rfl,by decide +kernel,rfl,by decide +kernel,by decide +kernel⟩
theorem QvK{f C fI:Addr}{fd fdI:Qq}(F:Fun K "law" "law" sLaw f fd)(Tg:GlbA mg)(M:Mk K C fI)(GI:FnOk P w K mg base CX0 1 fI fdI ["self"] (QkY C))(bI_:Binds K fdI ["self"] [])(mB:mg "Bench" = some (.ref C))
  {f1:Addr} {fd1:Qq} (m1:mg "_law_cell_at" = some (.ref f1)) (G1:FnOk P w K mg base CX0 1 f1 fd1 ["_law_script", "_law_k"] (Qfu K)) (b1:Binds K fd1 ["_law_script", "_law_k"] []) (k1:PySem.W.keepIn K (.ref f1)=true)
  {f2:Addr} {fd2:Qq} (m2:mg "_law_pot" = some (.ref f2)) (G2:FnOk P w K mg base CX0 1 f2 fd2 ["_law_cell"] Qr2) (b2:Binds K fd2 ["_law_cell"] []) (k2:PySem.W.keepIn K (.ref f2)=true)
  {f3:Addr} {fd3:Qq} (m3:mg "_law_take" = some (.ref f3)) (G3:FnOk P w K mg base CX0 1 f3 fd3 ["_law_pot_here", "_law_far"] QdB) (b3:Binds K fd3 ["_law_pot_here", "_law_far"] []) (k3:PySem.W.keepIn K (.ref f3)=true)
  {f4:Addr} {fd4:Qq} (m4:mg "_law_deed" = some (.ref f4)) (G4:FnOk P w K mg base CX0 2 f4 fd4 ["_law_pot_here", "_law_board", "_law_odds"] (ZE false QtS)) (b4:Binds K fd4 ["_law_pot_here", "_law_board", "_law_odds"] []) (k4:PySem.W.keepIn K (.ref f4)=true)
  {f5:Addr} {fd5:Qq} (m5:mg "_law_kept" = some (.ref f5)) (G5:FnOk P w K mg base CX0 4 f5 fd5 ["_law_rows", "_law_word", "_law_told"] QkX) (b5:Binds K fd5 ["_law_rows", "_law_word", "_law_told"] []) (k5:PySem.W.keepIn K (.ref f5)=true)
  {f6:Addr} {fd6:Qq} (m6:mg "_law_done" = some (.ref f6)) (G6:FnOk P w K mg base CX0 7 f6 fd6 ["_law_bench", "_law_word", "_law_told"] (QkZ C)) (b6:Binds K fd6 ["_law_bench", "_law_word", "_law_told"] []) (k6:PySem.W.keepIn K (.ref f6)=true)
  {f7:Addr} {fd7:Qq} (m7:mg "_law_right" = some (.ref f7)) (G7:FnOk P w K mg base CX0 6 f7 fd7 ["_law_bench", "_law_board", "_law_deep"] (Qfs C)) (b7:Binds K fd7 ["_law_bench", "_law_board", "_law_deep"] []) (k7:PySem.W.keepIn K (.ref f7)=true) :
  FnOk P w K mg base CX0 8 f fd ["_law_script"] (Qh6 K):=by
 refine F.ok QbQ (λvs H Q E h=>?_) (λcdv A outer s H vs Q E hr h=>?_)
 ·obtain⟨a,ns,rfl,_⟩:=h;rfl
 ·obtain⟨a,ns,rfl,hS,hlen,k⟩:=h;have hU:=Room.u60 hr;have hI:=Room.i60 hr;refine' ⟨_,QR (ZQ (i:=1) QbQ.nd rfl (by first | exact QF rfl | exact QK rfl) (pe_lstW (pa_c (Qio M GI (hr.mono (by decide)) (by rfl) mB bI_ .nil pass0) (pa_c (Qio M GI (hr.mono (by decide)) (by rfl) mB bI_ .nil pass0) pa_nil)))) ?p1,?rd⟩
  case p1=>
   show PSs _ _ _;refine' QR ?a1 ?_
   case a1=>
    refine' ZQ (i:=2) (hs:=?hh) (hf:=?hf) ?hN ?hi ?hx ?he
    case hN=>exact QbQ.nd
    case hi=>exact rfl
    case hx=>exact QF rfl
    case hf=>exact QF rfl
    case hh=>kernel_rfl
    case he=>
     refine' pe_lstW ?ww
     case ww=>
      refine' pa_c ?w1 ?w2
      case w1=>exact Qra
      case w2=>
       refine' pa_c ?w3 ?w4
       case w3=>exact Qra
       case w4=>exact pa_nil
   show PSs _ _ _;refine' QR (Qdh Za rfl (Qbp (by rfl) Tg.range (pa_cons (pe_callB (QmZ rfl) (by rfl) Tg.max Qm1 (pa_cons pe_int (pa_cons (pe_callB (call_min2 rfl) (by rfl) Tg.min bt_min (pa_cons (pe_callB ZR (by rfl) Tg.len Qby (pa_cons (pv 0) pa_nil)) (pa_cons pe_int pa_nil))) pa_nil))) pa_nil)) (Zo (i:=3) QbQ.nd rfl (by first | exact QF rfl | exact QK rfl)) ?body) ?_
   case body=>
    show PSs _ _ _;refine' QR (ZQ (i:=4) QbQ.nd rfl (by first | exact QF rfl | exact QK rfl) (pe_call G2 (hr.mono (by decide)) (by rfl) m2 k2 b2 .nil pass0 (pa_cons (pe_call G1 (hr.mono (by decide)) (by rfl) m1 k1 b1 .nil pass0 (pa_cons (pv 0) (pa_cons (pv 3) pa_nil))) pa_nil))) ?_
    show PSs _ _ _;refine' QR (ZQ (i:=5) QbQ.nd rfl (by first | exact QF rfl | exact QK rfl) (QaP QgX (by rfl) Tg.int QgY (pa_cons (Qbr Qb3 (pe_call G3 (hr.mono (by decide)) (by rfl) m3 k3 b3 .nil pass0 (pa_cons (pv 4) (pa_cons pe_int pa_nil))) pe_int (JN _)) pa_nil))) ?_
    show PSs _ _ _;refine' QR (Qdi (pe_call G4 (hr.mono (by decide)) (by rfl) m4 k4 b4 .nil pass0 (pa_cons (pv 4) (pa_cons (pe_ix ix_list (pe_ix ix_list (pv 2) (pv 5) (λ_ _=>rfl)) (pe_un un_neg pe_int) (λ_ _=>rfl)) (pa_cons pe_int pa_nil)))) (QdT rfl (ZI (Zo (i:=6) QbQ.nd rfl (by first | exact QF rfl | exact QK rfl)) (ZI (Zo (i:=7) QbQ.nd rfl (by first | exact QF rfl | exact QK rfl)) Qb2)))) ?_
    show PSs _ _ _;refine' QR (ZQ (i:=8) QbQ.nd rfl (by first | exact QF rfl | exact QK rfl) (pe_call G5 (hr.mono (by decide)) (by rfl) m5 k5 b5 .nil pass0 (pa_cons (pe_ix ix_list (pv 2) (pv 5) (λ_ _=>rfl)) (pa_cons (pv 6) (pa_cons (QaP Qa5 (by rfl) Tg.list Qc3 (pa_cons (pv 7) pa_nil)) pa_nil))))) ?_
    show PSs _ _ _;refine' QR (Qbf (ZS QlT (pe_call G6 (hr.mono (by decide)) (by rfl) m6 k6 b6 .nil pass0 (pa_cons (pe_ix ix_list (pv 1) (pv 5) (λ_ _=>rfl)) (pa_cons (pv 6) (pa_cons (pv 7) pa_nil)))) (pv 8) (JN _)) (Ji (Zy QdU)) Z2) ?_
    show PSs _ _ _;refine' Ji (Qdh Za rfl (Qbp (by rfl) Tg.range (pa_cons pe_int pa_nil)) (Zo (i:=9) QbQ.nd rfl (by first | exact QF rfl | exact QK rfl)) ?fb);show PSs _ _ _;exact Ji (Qbf (QdR (Qcp (pe_call G7 (hr.mono (by decide)) (by rfl) m7 k7 b7 .nil pass0 (pa_cons (pe_ix ix_list (pv 1) (pv 9) (λ_ _=>rfl)) (pa_cons (pe_ix ix_list (pe_ix ix_list (pv 2) (pv 9) (λ_ _=>rfl)) (pe_un un_neg pe_int) (λ_ _=>rfl)) (pa_cons (Qdk (Qbr Qb3 (pv 9) (pv 5) (JN _)) (Qdj (Qbr Qb3 (pe_op QeV (pv 3) pe_int) pe_int (JN _)))) pa_nil)))))) (Ji (Zy QdU)) Z2)
   show PSs _ _ _;exact Ji (Zy (Qdk (pe_call G7 (hr.mono (by decide)) (by rfl) m7 k7 b7 .nil pass0 (pa_cons (pe_ix ix_list (pv 1) pe_int (λ_ _=>rfl)) (pa_cons (pe_ix ix_list (pe_ix ix_list (pv 2) pe_int (λ_ _=>rfl)) (pe_un un_neg pe_int) (λ_ _=>rfl)) (pa_cons QdU pa_nil)))) (Qdj (pe_call G7 (hr.mono (by decide)) (by rfl) m7 k7 b7 .nil pass0 (pa_cons (pe_ix ix_list (pv 1) pe_int (λ_ _=>rfl)) (pa_cons (pe_ix ix_list (pe_ix ix_list (pv 2) pe_int (λ_ _=>rfl)) (pe_un un_neg pe_int) (λ_ _=>rfl)) (pa_cons QdU pa_nil)))))))
  case rd=>
   intro b0 dx0 nb0 ndx0 ne0;refine⟨b0,dx0,rfl,upd_same,λl0 H1 nl0 kp1 B1=>⟨rfl,?_⟩⟩;have s0a:Same H (upd (upd H dx0 (.own b0)) b0 (.ins C dx0 [])):=λa u e=>by rw[QU (QP e nb0),QU (QP e ndx0)];exact e
   have s01:Same H H1:=λa u e=>kp1 a u (QP e nb0) (s0a a u e)
   have hl0:H l0=none:=by
    cases z:H l0 with
    |none=>rfl
    |some u=>rw[s0a _ _ z] at nl0;cases nl0
   intro b1 dx1 nb1 ndx1 ne1;refine⟨b1,dx1,rfl,upd_same,λl1 H2 nl1 kp2 B2=>⟨rfl,?_⟩⟩;have s1a:Same H1 (upd (upd H1 dx1 (.own b1)) b1 (.ins C dx1 [])):=λa u e=>by rw[QU (QP e nb1),QU (QP e ndx1)];exact e
   have s12:Same H1 H2:=λa u e=>kp2 a u (QP e nb1) (s1a a u e)
   have s02:=s01.trans s12;have up:∀{x:Addr},H1 x=none->H x=none:=λ{x} h=>by
    cases z:H x with
    |none=>rfl
    |some u=>rw[s01 _ _ z] at h;cases h
   have hl1:H1 l1=none:=by
    cases z:H1 l1 with
    |none=>rfl
    |some u=>rw[s1a _ _ z] at nl1;cases nl1
   obtain⟨dxa,va,xa,ea1,ea2,_,_⟩:=id B1.at_;obtain⟨dxb,vb,xb,eb1,eb2,_,_⟩:=id B2.at_;refine⟨by show 2<=1000;decide,λbl H3 s3 n3 e3=>?_⟩;refine λr0 H4 v0 s4 n4 e4 q4 r1 H5 v1 s5 n5 e5 q5=>⟨by show 2<=1000;decide,λrl H6 s6 n6 e6=>?_⟩
   have up3:∀{x:Addr},H3 x=none->H x=none:=λ{x} h=>by
    cases z:H x with
    |none=>rfl
    |some u=>rw[s3 _ _ (s02 _ _ z)] at h;cases h
   have n5':H3 r1=none:=by
    cases z:H3 r1 with
    |none=>rfl
    |some u=>rw[s4 _ _ z] at n5;cases n5
   have l0':=s3 _ _ (s12 _ _ ea2);have l1':=s3 _ _ eb2;have bb:b0≠b1:=QP ea1 nb1;have ll:l0≠l1:=QP ea2 hl1;have rr:r0≠r1:=QP e4 n5;have s46:=s5.trans s6;have s36:=s4.trans s46;have dst:Dst H bl rl (λi=>if i then b1 else b0) (λi=>if i then l1 else l0) (λi=>if i then r1 else r0):=by
    refine⟨λi=>?_,λi=>?_,λi=>?_,λi j=>?_,λi=>?_,λi=>?_,λi=>?_,λi=>?_⟩
    ·cases i
     ·exact bb
     ·exact bb.symm
    ·cases i
     ·exact ll
     ·exact ll.symm
    ·cases i
     ·exact rr
     ·exact rr.symm
    ·cases i<;>cases j
     ·exact QP l0' n4
     ·exact QP l0' n5'
     ·exact QP l1' n4
     ·exact QP l1' n5'
    ·cases i
     ·exact⟨(QP (s12 _ _ ea2) n3).symm,QP e3 n4,(QP (s5 _ _ (s4 _ _ l0')) n6).symm,(QP (s5 _ _ e4) n6).symm⟩
     ·exact⟨(QP eb2 n3).symm,QP e3 n5',(QP (s5 _ _ (s4 _ _ l1')) n6).symm,(QP e5 n6).symm⟩
    ·cases i
     ·exact nb0
     ·exact up nb1
    ·cases i
     ·exact hl0
     ·exact up hl1
    ·cases i
     ·exact up3 n4
     ·exact up3 n5'
   have w0:Wl C H6 bl rl (λi=>if i then b1 else b0) (λi=>if i then l1 else l0) (λi=>if i then r1 else r0) (λ_=>([],B0)) 0:=by
    refine⟨s36 _ _ e3,e6,λi=>?_,λi=>?_,λi k hk=>?_,λi=>Qh _⟩
    ·cases i
     ·exact(B1.same s12).same (s3.trans s36)
     ·exact B2.same (s3.trans s36)
    ·cases i
     ·exact⟨[],v0,s46 _ _ e4,.nil,q4.same s46⟩
     ·exact⟨[],v1,s6 _ _ e5,.nil,q5.same s6⟩
    ·rw[JL.mp hk];exact QyN
   generalize (λi=>if i=true then b1 else b0)=b at dst w0;generalize (λi=>if i=true then l1 else l0)=l at dst w0;generalize (λi=>if i=true then r1 else r0)=r at dst w0;have s06:=s02.trans (s3.trans s36);clear kp1 B1 kp2 B2 s0a s1a up up3 q4 q5;have mx:∀n:Int,0<=n->(if(if 40<n then 40 else n) > 1 then(if 40<n then 40 else n) else 1)<=40/\0<=(if(if 40<n then 40 else n) > 1 then(if 40<n then 40 else n) else 1):=λn hn=>by
    split<;>split<;>omega
   have mx:=mx ((ns.map V.int).length:Int) (by omega);refine⟨_,rfl,a,_,rfl,.inl (s06.seq hS),_,_,rfl,_,_,rfl,_,rfl,?lo,?hi,?lp⟩
   case lo=>have:=mx.2;omega
   case hi=>have:=mx.1;omega
   refine Qcw (λi σ H'=>∃S x3 x4 x5 x6 x7 x8 x9,σ=[some (.ref a),some (.ref bl),some (.ref rl),x3,x4,x5,x6,x7,x8,x9]/\Same H H'/\Wl C H' bl rl b l r S i) ⟨_,_,_,_,_,_,_,_,rfl,s06,w0⟩ ?_ ?_
   ·rintro i σ H' hi ⟨S,x3,x4,x5,x6,x7,x8,x9,rfl,sH,Wd⟩;have hi:i<40:=by have:=mx.1;have:=mx.2;omega
    clear w0 mx;refine⟨_,rfl,_,rfl,a,ns,_,rfl,sH.seq hS,by omega,by omega,λc=>⟨c,rfl,λp n np=>?_⟩⟩;refine⟨_,rfl,p,n,5,rfl,upd_same,by decide,by decide,λt m t0 t5=>⟨rfl,.inr ⟨_,rfl,?_⟩⟩⟩;rw[QrR];generalize decide (V.int t=V.int 0)=w;have s1:Same H' (upd H' p (.lst [.int m])):=λx u e=>by rw[QU (QP e np)];exact e
    have W1:=Wd.same s1;obtain⟨xs,v,er,dr2,dr1⟩:=(W1.rw w).at_;refine⟨_,rfl,_,rfl,_,rfl,rl,_,_,_,rfl,rfl,SqL.of W1.hr,Qpy r w,_,rfl,r w,_,_,v,rfl,rfl,SqL.of er,QbI _ _,?_⟩;have nl:∀i,l i≠p:=λi=>by
     obtain⟨_,_,_,_,e2,_,_⟩:=(Wd.bn i).at_;exact QP e2 np
    have nr:∀i,r i≠p:=λi=>by
     obtain⟨_,_,e,_,_⟩:=(Wd.rw i).at_;exact QP e np
    have dm:∀x,(x=p∨(∃i,x=l i)∨∃i,x=r i)->∃ys,(upd H' p (.lst [.int m])) x=some (.lst ys):=λx hx=>by
     rcases hx with rfl | ⟨i,rfl⟩ | ⟨i,rfl⟩
     ·exact⟨_,upd_same⟩
     ·obtain⟨_,_,xs,_,e2,_,_⟩:=(W1.bn i).at_;exact⟨xs,e2⟩
     ·obtain⟨xs,v,e,_,_⟩:=(W1.rw i).at_;exact⟨_,e⟩
    refine⟨λx=>x=p∨(∃i,x=l i)∨∃i,x=r i,λx=>x=p,[.pot,.v (S w).2.d,.v (.int 1)],λd=>∃D:Deed,d=.tuple [.str D.wd,.list D.told],XF,dm,λx hx=>⟨.inl hx,m,by rw[hx];exact upd_same⟩,.cons ⟨p,rfl,rfl⟩ (.cons (QtT (λ_ _ e=>e) dm _ _ (QtL _) dr1) (.cons (.int _) .nil)),⟨_,rfl,W1.okk w,λD=>⟨D,rfl⟩⟩,λd hd v3 H3 kq dv _=>?_,λ_ z=>z.elim⟩;obtain⟨D,rfl⟩:=hd;have s3:Same H' H3:=λx u e=>kq.1 x u (QP e np) (s1 _ _ e)
    have W3:=Wd.same s3;obtain⟨ct,x7',tl,ys,rfl,ec,rfl,et,dt⟩:∃ct x7' tl ys,v3=.ref ct/\H3 ct=some (.tup [.str D.wd,x7'])/\x7'=.ref tl/\H3 tl=some (.lst ys)/\DA (λx=>x=p∨(∃i,x=l i)∨∃i,x=r i) H3 (.ref tl) (.list D.told):=by
     cases dv with
     |tup _ e q=>cases q with
      |cons q1 q=>cases q with
       |cons q2 q=>
        cases q;cases q1;cases q2 with
        |lst n2 e2 q2=>exact⟨_,_,_,_,rfl,e,rfl,e2,.lst n2 e2 q2⟩
    refine⟨ct,_,rfl,SqT.of ec,rfl,_,_,rfl,_,_,rfl,rfl,?_⟩;refine⟨_,rfl,_,rfl,rl,_,_,_,rfl,rfl,SqL.of W3.hr,Qpy r w,_,rfl,_,rfl,tl,_,rfl,.inl (SqL.of et),λl' H4 s4 n4 e4=>?_⟩;have W4:=W3.same s4;have dl:DA N0 H4 (.ref l') (.list D.told):=by
     cases dt with
     |lst n2 e2 q2=>
      rw[et] at e2;cases e2;exact .lst (λz=>z) e4 ((q2.same s4).mv (λ_ _ _ e=>e) λ_ z=>z.elim)
    have dt4:=dt.same s4;refine⟨r w,(S w).1,(S w).2,D,.ref l',rfl,W4.rw w,W4.okk w,by have:=W4.len w;omega,dl,λH5 k5 R5=>?_⟩;have dt5:DA N0 H5 (.ref tl) (.list D.told):=dt4.mv (λx u hx e=>k5 x u (λz=>hx (.inr (.inr ⟨w,z⟩))) e) λ_ z=>z.elim
    have eb5:=k5 _ _ (dst.d5 w).2.1 W4.hb;refine⟨_,rfl,_,rfl,bl,_,_,_,rfl,rfl,SqL.of eb5,Qpy b w,_,rfl,_,rfl,?_⟩;refine⟨b w,l w,(S w).1,(S w).2,D,.ref tl,rfl,W4.bn5 dst k5 w,W4.okk w,by have:=W4.len w;omega,dt5,λH6 k6 B6=>?_⟩;have W6:=W4.step dst w D k5 R5 k6 B6;have s6:Same H H6:=λx u e=>by
     have h1:=s4 _ _ (s3 _ _ (sH _ _ e));exact k6 _ _ (λz=>by rw[z,dst.nb w] at e;cases e) (λz=>by rw[z,dst.nl w] at e;cases e) (k5 _ _ (λz=>by rw[z,dst.nr w] at e;cases e) h1)
    refine⟨_,rfl,QnM _,_,rfl,QjH rfl ?_⟩;refine⟨2,rfl,by decide,by decide,?_⟩;refine Qcw (n:=2) (λj σ H7=>∃x9,σ=[some (.ref a),some (.ref bl),some (.ref rl),some (.int (0+(i:Int))),some (.ref p),some (.int (bI w)),some (.str D.wd),some (.ref tl),some (Qrp (Qe3 D (S w).1 (S w).2)),x9]/\Same H6 H7) ⟨_,rfl,λ_ _ z=>z⟩ ?_ ?_
    ·rintro j σ H7 hj ⟨x9,rfl,s7⟩;obtain⟨q,hq⟩:=QyE hj;have W7:=W6.same s7;obtain⟨xs7,v7,e7,_,d7⟩:=(W7.rw q).at_;rw[show(0:Int)+(j:Int)=bI q by omega];refine⟨_,rfl,_,rfl,bl,_,_,_,rfl,rfl,SqL.of W7.hb,Qpy b q,_,rfl,_,rfl,rl,_,_,_,rfl,rfl,SqL.of W7.hr,Qpy r q,_,rfl,r q,_,_,v7,rfl,rfl,SqL.of e7,QbI _ _,?_⟩;have fin:∀deep,Qfs C [.ref (b q),v7,.bl deep] H7 (λx H8=>∃c,x=.bl c/\if(!c)=true then Q (.bl false) H8 else ∃x9,[some (V.ref a),some (V.ref bl),some (V.ref rl),some (V.int (0+(i:Int))),some (V.ref p),some (V.int (bI w)),some (V.str D.wd),some (V.ref tl),some (Qrp (Qe3 D (S w).1 (S w).2)),some (V.int (bI q))]=[some (.ref a),some (.ref bl),some (.ref rl),some (.int (0+(i:Int))),some (.ref p),some (.int (bI w)),some (.str D.wd),some (.ref tl),some (Qrp (Qe3 D (S w).1 (S w).2)),x9]/\Same H6 H8) E0:=λdeep=>
      ⟨b q,l q,_,_,v7,deep,rfl,W7.bn q,W7.okk q,d7,λH8 s8=>⟨true,rfl,Qaw ⟨_,rfl,s7.trans s8⟩⟩⟩
     refine⟨_,rfl,_,rfl,rfl,_,rfl,?_⟩;cases decide (V.int (bI q)=V.int (bI w)) with
     |false=>exact Qaw (fin false)
     |true=>exact Qb5 ⟨_,rfl,_,_,rfl,rfl,by show(0:Int)<4;decide,rfl,fin _⟩
    ·rintro σ H7 ⟨x9,rfl,s7⟩;exact⟨_,_,_,_,_,_,_,_,rfl,s6.trans s7,W6.same s7⟩
   ·rintro σ H' ⟨S,x3,x4,x5,x6,x7,x8,x9,rfl,sH,Wd⟩;obtain⟨xs7,v7,e7,_,d7⟩:=(Wd.rw false).at_;refine⟨_,rfl,bl,_,_,_,rfl,rfl,SqL.of Wd.hb,Qpy b false,_,rfl,rl,_,_,_,rfl,rfl,SqL.of Wd.hr,Qpy r false,_,rfl,r false,_,_,v7,rfl,rfl,SqL.of e7,QbI _ _,?_⟩;refine⟨b false,l false,_,_,v7,true,rfl,Wd.bn false,Wd.okk false,d7,λH8 s8=>⟨true,rfl,Qb5 ?_⟩⟩;have W8:=Wd.same s8;obtain⟨xs8,v8,e8,_,d8⟩:=(W8.rw true).at_;refine⟨_,rfl,bl,_,_,_,rfl,rfl,SqL.of W8.hb,Qpy b true,_,rfl,rl,_,_,_,rfl,rfl,SqL.of W8.hr,Qpy r true,_,rfl,r true,_,_,v8,rfl,rfl,SqL.of e8,QbI _ _,?_⟩;exact⟨b true,l true,_,_,v8,true,rfl,W8.bn true,W8.okk true,d8,λH9 s9=>k H9⟩
end
theorem QdA{D:Qf8}{wd:Str}{x0 x1 x2 x3 x4 x5 x6 x7 x8:Sl}{odd x y:Qc}{wh:Int}{bad:Bool}(v0:0<=wh)(v1:wh<2)(hR:∀x y,D.rt (.tuple [.str wd,.list [x,y]])) :
  (Qpm (dIf (dTru (dPk 11)) (Qwh 12 (dPk 10) (Qrs 9)) QgO) (Qe5 (dC (Q0 wd)) 12)) D [x0,x1,x2,x3,x4,x5,x6,x7,x8,.v odd,.v (.int wh),.v (.bool bad),.own [x,y]]:=by
 refine⟨Ju,ifC (λ_=>?_) λ_=>hR x y⟩;rcases(show wh=0∨wh=1 by omega) with rfl | rfl
 ·exact⟨0,rfl,hR odd y⟩
 ·exact⟨1,rfl,hR x odd⟩
theorem Qpi{R:Qc->Prop}{bd odd:Qc}{bh bw:Nat}{bf:Nat->Nat->Bool}{way r c wh:Int}{bad:Bool}(h6:bh<=6)(w6:bw<=6)(y0:0<=way)(y1:way<16)(r0:0<=r)(r1:r<6)(c0:0<=c)(c1:c<6)(v0:0<=wh)(v1:wh<2)(hR:∀d:Deed,R (.tuple [.str d.wd,.list d.told])) :
  (Qpm (Qpl 12 (Qwj (Qbx (Qrs 7) (Qbx (Qrs 8) Qpn))))
   (Qpm (dIf (dTst (dOp (ii0 λi j=>Y1 (decide (i<j))) (dPk 6) (dC (QD 8)))) (Qpm (dIf (dTru (dPk 11)) (Qwh 12 (dPk 10) (Qrs 9)) QgO) (Qe5 (dC (Q0 "put")) 12)) QgO)
   (Qpm (dIf (dTst (dOp (ii0 λi j=>Y1 (decide (i<j))) (dPk 6) (dC (QD 10))))
    (Qpm (dIf (Qyz (dTst (dOp neD (dPk 5) (Qw4 Qpn))) (dTst (dOp (ii0 λi j=>Y1 (decide (j<i))) (QjT QnF (QwT 0 (sV (dC (QD 4)) QxU))) (dC (QD 0)))))
     (Qpl 12 (dCB Qtx (Qbx (dOp ixD (dPk 5) (dOp (iiD (λ_ j=>0<j) λi j=>QD (i % j)) (dOp Qze (dOp Qy1 (dPk 7) (dPk 4)) (dPk 8)) (dCB Qyf (Qbx (dPk 5) Qpn)))) Qpn))) QgO)
     (Qpm (dIf (dTru (dPk 11)) (Qwh 12 (dPk 10) (Qrs 9)) QgO) (Qe5 (dC (Q0 "take")) 12))) QgO)
   (QtV (Qw4 (Qbx (dOp ixD (Qwj (Qbx (dC (Q0 "row")) (Qbx (dC (Q0 "column")) (Qbx (dC (Q0 "turn")) (Qbx (dC (Q0 "rest")) (Qbx (dC (Q0 "undo")) (Qbx (dC (Q0 "row")) Qpn))))))) (dOp (ii0 λi j=>QD (i - j)) (dPk 6) (dC (QD 10)))) (Qbx (Qwj Qpn) Qpn)))))))
  (QjR false R XF) [.pot,.v bd,.v (.int 1),.v (.int bh),.v (.int bw),.v (.tuple ((cellsF bh bw bf).map pairD)),.v (.int way),.v (.int r),.v (.int c),.v odd,.v (.int wh),.v (.bool bad),.no]:=by
 have ln:(cellsF bh bw bf).length<=36:=QL (ZZ bw bf bh) (ZO h6 w6);refine ifC (λz=>?_) λz=>?_
 ·exact QdA v0 v1 λx y=>hR (.put x y)
 ·refine ifC (λz2=>?_) λz2=>?_
  ·refine⟨⟨ZY _,rfl,.inr (by decide)⟩,?_⟩;refine ifC (λne=>⟨_,rfl,by decide,by decide,λq _ _=>ifC (λ_=>?_) λ_=>QdA v0 v1 λx y=>hR (.take x y)⟩) λ_=>QdA v0 v1 λx y=>hR (.take x y)
   have lp:0<((cellsF bh bw bf).map pairD).length:=by
    cases e:(cellsF bh bw bf).map pairD with
    |nil=>
     have ne:(!Jd (.tuple ((cellsF bh bw bf).map pairD)) (.tuple []))=true:=ne;rw[e] at ne;cases ne
    |cons a l=>exact Nat.succ_pos _
   refine⟨.inl (.inl ⟨by omega,by omega⟩),by show(0:Int)<(((cellsF bh bw bf).map pairD).length:Int);omega,QtC (QuD _ (by omega)) (QpL _ (by omega)) λd hd=>?_⟩;obtain⟨p,_,rfl⟩:=QH.mp hd;exact QdA v0 v1 λx y=>hR (.take x y)
  ·have z:=of_decide_eq_false z2;refine QtC (by omega) (by show _<(6:Int);omega) λwd hw=>?_
   obtain⟨d,rfl,e⟩:=Qc6 (p:=λwd=>∃d:Deed,wd=Q0 d.wd/\d.told=[]) ⟨.row,rfl,rfl⟩ (Qc6 ⟨.col,rfl,rfl⟩ (Qc6 ⟨.turn,rfl,rfl⟩ (Qc6 ⟨.rest,rfl,rfl⟩ (Qc6 ⟨.undo,rfl,rfl⟩ (Qc6 ⟨.row,rfl,rfl⟩ QwA))))) wd hw;have:=hR d;rw[e] at this;exact this
section
variable{P:Qw}{w:Ja}{K:PySem.W.Frag}{mg:Str->Option Value}{base:JR}
theorem Qal:Jc ["_law_pot_here", "_law_board", "_law_odds", "_law_high", "_law_wide", "_law_cells", "_law_way", "_law_row", "_law_column", "_law_odd", "_law_which", "_law_bad", "_law_told"] ["_law_pot_here", "_law_board", "_law_odds"] (Qm QjF):=⟨rfl,rfl,rfl,by decide +kernel,rfl,by decide +kernel,by decide +kernel⟩
theorem Qtl{f f1  : Addr}{fd fd1:Qq}(F:Fun K "_law_deed" "_law_deed" QjF f fd)(T:GlbA mg)
  (m1:mg "_law_take" = some (.ref f1))(G1:FnOk P w K mg base CX0 1 f1 fd1 ["_law_pot_here", "_law_far"] (ZE true QnF))(b1:Binds K fd1 ["_law_pot_here", "_law_far"] [])(k1:PySem.W.keepIn K (.ref f1)=true) :
  FnOk P w K mg base CX0 2 f fd ["_law_pot_here", "_law_board", "_law_odds"] (ZE false QtS):=by
 refine okQ false F Qal (λargs R EX h=>?_) (λcdv A outer s H E hr=>?_)
 ·obtain⟨b,rfl,_⟩:=h;rfl
 ·have hU:=Room.u60 hr;have hI:=Room.i60 hr;refine⟨_,Jf (QeN (qv 1) (Qbm rfl (Zb 3 (Zb 4 (Zb 5 Qbn Qal.nd rfl (by first | exact QF rfl | exact QK rfl)) Qal.nd rfl (by first | exact QF rfl | exact QK rfl)) Qal.nd rfl (by first | exact QF rfl | exact QK rfl))))
   (Jf (Qdf 6 (ZD (Qan G1 (hr.mono (by decide)) (by rfl) m1 k1 b1 QaD (QdQ 0 (Qbe JT Yf)))) Qal.nd)
   (Jf (Qu6 7 8 (ZF (ZD (Qan G1 (hr.mono (by decide)) (by rfl) m1 k1 b1 QaD (QdQ 0 (Qbe (qv 3) Yf)))) (ZF (ZD (Qan G1 (hr.mono (by decide)) (by rfl) m1 k1 b1 QaD (QdQ 0 (Qbe (qv 4) Yf)))) Jl)) Qal.nd)
   (Jf (Qdf 9 (QcS ZK YT (Jt (QfF (ZF (qv 3) (ZF (qv 4) (ZF (ZD (Qvc (Jq JT))) (ZF (ZD (Qad QlQ Ql9 (Jq JT) (Jq JT))) (ZF QwX (ZF QwX (ZF Qvb (ZF Qac (ZF (ZD (YS (ZF JT Jl))) (ZF (ZD (QfF (ZF JT Jl))) (ZF Qx0 (ZF JT Jl)))))))))))))) (Jt (Qan G1 (hr.mono (by decide)) (by rfl) m1 k1 b1 QaD (QdQ 0 (Qbe JT Yf)))) (λ_ _=>rfl)) Qal.nd)
   (Jf (Qdf 10 (ZD (Qan G1 (hr.mono (by decide)) (by rfl) m1 k1 b1 QaD (QdQ 0 (Qbe JT Yf)))) Qal.nd)
   (Jf (Qdf 11 (ZD (Qve Qjr QeW (Jt (Qan G1 (hr.mono (by decide)) (by rfl) m1 k1 b1 QaD (QdQ 0 (Qbe JT Yf)))) (qp 2) (JN _))) Qal.nd)
   (Jf (QdP 12 (QfF (ZF (qv 7) (ZF (qv 8) Jl))) Qal.nd)
   (Jf (QaN (ZP Qjr QeW (qp 6) (Jq JT) (JN _)) (Jf (QaN (Qlp (qp 11)) (Jo (Qp4 12 (qv 9) (qp 10))) ZJ)
   (Jo (Qih 12 Qac))) ZJ)
   (Jf (QaN (ZP Qjr QeW (qp 6) (Jq JT) (JN _)) (Jf (QaN (Qsq (Qln (ZP QgA (Ql8 hU) (qp 5) (Jt (YS Jl)) (JN _)) (Qhv (ZP Qs7 QeW (Jt (Qan G1 (hr.mono (by decide)) (by rfl) m1 k1 b1 QaD (QdQ 0 (Qbe JT Yf)))) (Jq JT) (JN _))))) (Jo (QdP 12 (Z5 Qa5 QmX (by rfl) T.list Qc3 (Qdg (Jq (QcS ZK YT (qp 5) (Jt (Qad QeV Ql9 (Jt (Qad QaE QbS (Jt (Qad QlU Qrg (qp 7) (qp 4))) (qp 8))) (Jt (Qao Qcz QiM (by rfl) T.len Qby (Qdg (qp 5) Jl))))) (λ_ _=>rfl))) Jl)) Qal.nd)) ZJ)
   (Jf (QaN (Qlp (qp 11)) (Jo (Qp4 12 (qv 9) (qp 10))) ZJ)
   (Jo (Qih 12 Qac)))) ZJ)
   (Jo (YJ (YS (ZF (QcS ZK YT (Jt (QfF (ZF Qac (ZF Qac (ZF Qac (ZF Qac (ZF Qac (ZF Qac Jl)))))))) (Jt (Qad QeT QdY (qp 6) (Jq JT))) (λ_ _=>rfl)) (ZF (ZD (QfF Jl)) Jl))))))))))))),λargs R EX h=>?_⟩
  obtain⟨b,rfl,o,hR⟩:=h;obtain⟨bh,bw,bf⟩:=b;obtain⟨h1,h6,w1,w6⟩:=o;have h1:1<=bh:=h1;have h6:bh<=6:=h6;have w1:1<=bw:=w1;have w6:bw<=6:=w6;have ln:(cellsF bh bw bf).length<=36:=QL (ZZ bw bf bh) (ZO h6 w6);refine⟨rfl,_,rfl,by decide,by decide,λway y0 y1=>?_⟩;refine⟨_,rfl,by show(0:Int)<(bh:Int);omega,by show(bh:Int)<=10^40;omega,λr r0 r1=>⟨_,rfl,by show(0:Int)<(bw:Int);omega,by show(bw:Int)<=10^40;omega,λc c0 c1=>?_⟩⟩;refine⟨⟨by decide,by decide⟩,_,rfl,by decide,by decide,λk k0 k1=>QtC k0 k1 λodd _=>?_⟩;refine⟨_,rfl,by decide,by decide,λwh v0 v1=>⟨_,rfl,by decide,by decide,λbad _ _=>?_⟩⟩;exact Qpi h6 w6 y0 y1 r0 (by omega) c0 (by omega) v0 v1 hR
end
section
variable{P:Qw}{w:Ja}{K:PySem.W.Frag}{mg:Str->Option Value}{base:JR}
theorem Qtt:(["_law_cell", "_law_told"]:List Str).Nodup:=by decide +kernel
theorem Qme:(["_law_row", "_law_column"]:List Str).Nodup:=by decide +kernel
theorem Qts:(["_law_column", "_law_cells", "_law_row"]:List Str).Nodup:=by decide +kernel
theorem QeI:Jc ["_law_board", "_law_word", "_law_told", "_law_high", "_law_wide", "_law_cells", "_law_places", "_law_row"] ["_law_board", "_law_word", "_law_told"] (Qm lBeh):=⟨rfl,rfl,rfl,by decide +kernel,rfl,by decide +kernel,by decide +kernel⟩
theorem QvL{f   : Addr}{fd  : Qq}(F:Fun K "_law_behind" "_law_behind" lBeh f fd)(T:GlbA mg) :
  FnOk P w K mg base CX0 2 f fd ["_law_board", "_law_word", "_law_told"] (ZE false QyD):=by
 refine okQ false F QeI (λargs R EX h=>?_) (λcdv A outer s H E hr=>?_)
 ·obtain⟨b,d,rfl,_⟩:=h;rfl
 ·have hU:=Room.u60 hr;have hI:=Room.i60 hr;refine⟨_,Jf (QeN (qv 0) (Qbm rfl (Zb 3 (Zb 4 (Zb 5 Qbn QeI.nd rfl (by first | exact QF rfl | exact QK rfl)) QeI.nd rfl (by first | exact QF rfl | exact QK rfl)) QeI.nd rfl (by first | exact QF rfl | exact QK rfl))))
   (Jf (QaN (ZP Qbs (QdZ hU) (qp 1) (Jq Qac) (JN _)) (Jo (YJ (YS (ZF (qv 3) (ZF (qv 4) (ZF (ZD (Z5 JD Ys (by rfl) T.tuple Zs (Qdg (Jt (Qao Qec QgS (by rfl) T.sorted QcA (Qdg (Jt (Qad QaE QbS (qp 5) (Jt (YS (ZF (ZD (Z5 JD Ys (by rfl) T.tuple Zs (Qdg (qp 2) Jl))) Jl))))) Jl))) Jl))) Jl)))))) ZJ)
   (Jf (QaN (ZP Qbs (QdZ hU) (qp 1) (Jq Qac) (JN _)) (Jo (YJ (YS (ZF (qv 3) (ZF (qv 4) (ZF (ZD (Z5 JD Ys (by rfl) T.tuple Zs (Qdg (Jt (QbR ["_law_cell", "_law_told"] [none,some 2] (Qgv (qp 5)) (λcl ex s3 H3 C=>⟨(Qam 0 Qtt rfl (QF rfl) (QK rfl)),(QbZ (ZP QgA (Ql8 hU) (qp 0) (Jt (Z5 JD Ys (by rfl) T.tuple Zs (Qdg (qp 1) Jl))) (JN _))),(qv 0)⟩))) Jl))) Jl)))))) ZJ)
   (Jf (QaN (ZP Qbs (QdZ hU) (qp 1) (Jq Qac) (JN _)) (Jo (YJ (YS (ZF (ZD (Qad QaE QbS (qp 3) (Jq JT))) (ZF (qv 4) (ZF (qv 5) Jl)))))) ZJ)
   (Jf (QaN (ZP Qbs (QdZ hU) (qp 1) (Jq Qac) (JN _)) (Jo (YJ (YS (ZF (qv 3) (ZF (ZD (Qad QaE QbS (qp 4) (Jq JT))) (ZF (qv 5) Jl)))))) ZJ)
   (Jf (QaN (ZP Qbs (QdZ hU) (qp 1) (Jq Qac) (JN _)) (Jo (YJ (YS (ZF (qv 4) (ZF (qv 3) (ZF (ZD (Z5 JD Ys (by rfl) T.tuple Zs (Qdg (Jt (Qao Qe8 cd_sortP (by rfl) T.sorted QcA (Qdg (Jt (QbR ["_law_row", "_law_column"] [none,none] (Qgv (qp 5)) (λcl ex s3 H3 C=>⟨(Qbm rfl (Zb 0 (Zb 1 Qbn Qme rfl (QF rfl) (QK rfl)) Qme rfl (QF rfl) (QK rfl))),QdO,(ZD (YS (ZF (qv 1) (ZF (qv 0) Jl))))⟩))) Jl))) Jl))) Jl)))))) ZJ)
   (Jf (QdP 6 (QfF Jl) QeI.nd)
   (Jf (Qii Za rfl (Qb0 (by rfl) T.range (qp 3)) (Qam 7 QeI.nd rfl (by first | exact QF rfl | exact QK rfl))
    (Jo (Qu8 6 (Jt (QbR ["_law_column", "_law_cells", "_law_row"] [none,some 5,some 7] (Qb0 (by rfl) T.range (qp 4)) (λcl ex s3 H3 C=>⟨(Qam 0 Qts rfl (QF rfl) (QK rfl)),(QbZ (ZP QdW (Qjt hI) (Jt (YS (ZF (qv 2) (ZF (qv 0) Jl)))) (qp 1) (by rfl))),(ZD (YS (ZF (qv 2) (ZF (qv 0) Jl))))⟩))))))
   (Jo (YJ (YS (ZF (qv 3) (ZF (qv 4) (ZF (ZD (Z5 JD Ys (by rfl) T.tuple Zs (Qdg (qp 6) Jl))) Jl))))))))))))),λargs R EX h=>?_⟩
  obtain⟨b,d,rfl,o,hd,hu,hR⟩:=h;obtain⟨bh,bw,bf⟩:=b;obtain⟨h1,h6,w1,w6⟩:=o;have h1:1<=bh:=h1;have h6:bh<=6:=h6;have w1:1<=bw:=w1;have w6:bw<=6:=w6;have ln:(cellsF bh bw bf).length<=36:=QL (ZZ bw bf bh) (ZO h6 w6);have hb:∀p∈cellsF bh bw bf,0<=p.1/\p.1<bh/\0<=p.2/\p.2<bw:=λp hp=>QaR hp
  cases d with
  |put x y=>
   obtain⟨r,c,rfl,rfl,hr,hc,hf⟩:=QtP hd;have hr:r<bh:=hr;have hc:c<bw:=hc;have hf:bf r c=false:=hf;have hR:R (bdD bh bw (cellsF bh bw (Qur bf r c true))):=hR;refine⟨rfl,?_⟩;refine⟨by show((cellsF bh bw bf).map pairD).length+1<=1000000;rw[Qg];omega,?_⟩;have es:(cellsF bh bw bf).map pairD++[QaJ [.int (r:Int),.int (c:Int)]]=(cellsF bh bw bf++[((r:Int),(c:Int))]).map pairD:=by rw[JF];rfl
   show QcN [.tuple ((cellsF bh bw bf).map pairD++[QaJ [.int (r:Int),.int (c:Int)]])] _;rw[es];refine Qgq (Qlx hf) (by rw[Qv];show _+1<64;omega) (λp hp=>?_) λM pM pw=>?_
   ·rcases ZA.mp hp with hp | hp
    ·have:=hb p hp;omega
    ·rw[JL.mp hp];show 0<=(c:Int)/\(c:Int)<64;omega
   ·rw[QgQ hr hc pM pw];exact hR
  |take x y=>
   obtain⟨r,c,rfl,rfl,hr,hc,hf⟩:=Qpf hd;have hR:R (bdD bh bw (cellsF bh bw (Qur bf r c false))):=hR;refine⟨rfl,?_⟩;refine QjW (λd=>if(λq:Int×Int => !decide (q=((r:Int),(c:Int)))) (toP d)=true then some d else none) (λd hd k1 k2 h1 h2=>?_) ?_
   ·obtain⟨q,_,rfl⟩:=QH.mp hd;have h1:(if(!decide (q=((r:Int),(c:Int))))=true then some (pairD q) else none)=none->k1:=h1;have h2:∀e,(if(!decide (q=((r:Int),(c:Int))))=true then some (pairD q) else none)=some e->k2 e:=h2
    refine⟨⟨rfl,rfl,.inl (by have:=YA q;omega)⟩,?_⟩;show if(!Jd (pairD q) (pairD ((r:Int),(c:Int))))=true then k2 (pairD q) else k1
    rw[Qcx];by_cases z:(!decide (q=((r:Int),(c:Int))))=true
    ·rw[if_pos z];exact h2 _ (if_pos z)
    ·rw[if_neg z];exact h1 (if_neg z)
   ·rw[Qiz (λq:Int×Int => !decide (q=((r:Int),(c:Int)))),QiK];exact hR
  |row=>
   have hR:R (bdD (bh+1:Nat) bw (cellsF (bh+1) bw λr c=>bf r c&&decide (r<bh))):=hR;rw[QgP] at hR;exact⟨rfl,hR⟩
  |col=>
   have hR:R (bdD bh (bw+1:Nat) (cellsF bh (bw+1) λr c=>bf r c&&decide (c<bw))):=hR;rw[QgR] at hR;exact⟨rfl,hR⟩
  |turn=>
   have hR:R (bdD bw bh (cellsF bw bh (tF bf))):=hR;refine⟨rfl,?_⟩;have hb:∀p∈cellsF bh bw bf,0<=p.1/\p.1<bh/\0<=p.2/\p.2<bw:=λp hp=>QaR hp
   have nd1:(cellsF bh bw bf).Nodup:=(pw_cellsF bw bf bh).imp QdS;have nd2:(cellsF bw bh (tF bf)).Nodup:=(pw_cellsF bh (tF bf) bw).imp QdS;have ln:(cellsF bh bw bf).length<=36:=QL (ZZ bw bf bh) (ZO h6 w6);have es:((cellsF bh bw bf).map pairD).map (λd=>pairD ((toP d).2,(toP d).1))=((cellsF bh bw bf).map λp=>(p.2,p.1)).map pairD:=by rw[Q1,Q1];rfl
   have nd3:((cellsF bh bw bf).map λp=>(p.2,p.1)).Nodup:=QpG.mpr (nd1.imp λ{a b} hne e=>hne (Qdw (Zu e).2 (Zu e).1));refine QiJ (λd=>pairD ((toP d).2,(toP d).1)) (λd hd k2 hk=>?_) ?_
   ·obtain⟨p,_,rfl⟩:=QH.mp hd;exact⟨rfl,hk⟩
   ·rw[es];refine sortP_of nd3 (by rw[Qg];omega) (λp hp=>?_) λM pM pw=>?_
    ·obtain⟨q,hq,rfl⟩:=QH.mp hp;have:=hb q hq;show 0<=q.1/\q.1<64;omega
    ·have pc:M.Perm (cellsF bw bh (tF bf)):=pM.trans ((QaU nd3 nd2).mpr λp=>by
      rw[QH,JK];constructor
      ·rintro⟨q,hq,rfl⟩;obtain⟨r,c,hr,hc,hf,rfl⟩:=JK.mp hq;exact⟨c,r,hc,hr,hf,rfl⟩
      ·rintro⟨r,c,hr,hc,hf,rfl⟩;exact⟨((c:Int),(r:Int)),JK.mpr ⟨c,r,hc,hr,hf,rfl⟩,rfl⟩)
     have eM:M=cellsF bw bh (tF bf):=Yx (le:=plt) (λa b _ _ h1 h2=>by rcases h1 with x | x<;>rcases h2 with y | y<;>omega) pw (pw_cellsF bh (tF bf) bw) pc;rw[eM];exact hR
  |rest=>
   have hR:R (bdD bh bw (cellsF bh bw (QgB bf))):=hR;refine⟨rfl,⟨by omega,by omega⟩,QtK (λi δ=>∃x7,δ=[.v (Bo.mk bh bw bf).d,.v (.str "rest"),.v (.list []),.v (.int bh),.v (.int bw),.v (.tuple ((cellsF bh bw bf).map pairD)),.own ((cellsF i bw (QgB bf)).map pairD),x7]) ⟨_,rfl⟩ ?_ ?_⟩
   ·rintro i δ hi ⟨x7,rfl⟩;rw[Qy] at hi;have fl:=ZZ bw (QgB bf) i;have fr:=Qid i bw (QgB bf);have fm:i*bw<=5*6:=ZO (by omega) w6;refine⟨⟨by omega,by omega⟩,QjW (λd=>match d with | .int c=>if(!bf i c.toNat)=true then some (pairD ((i:Int),c)) else none | _=>none) (λd hd k1 k2 h1 h2=>?_) ?_⟩
    ·obtain⟨c,hc⟩:=J7.mp hd;obtain⟨hc2,rfl⟩:=QbY hc;rw[Qy] at hc2;have h1:(if(!bf i (0+(c:Int)).toNat)=true then some (pairD ((i:Int),0+(c:Int))) else none)=none->k1:=h1;have h2:∀e,(if(!bf i (0+(c:Int)).toNat)=true then some (pairD ((i:Int),0+(c:Int))) else none)=some e->k2 e:=h2
     rw[show(0+(c:Int)).toNat=c by omega] at h1 h2;refine⟨⟨ZY _,rfl,by have:=YA ((0+(i:Int)),(0+(c:Int)));exact QL (Qah this) (by decide)⟩,?_⟩;show if(!((cellsF bh bw bf).map pairD).any λe=>Jd e (pairD (0+(i:Int),0+(c:Int))))=true then k2 (pairD (0+(i:Int),0+(c:Int))) else k1
     rw[QaS,show(0:Int)+(i:Int)=(i:Int) by omega,show(0:Int)+(c:Int)=(c:Int) by omega,Qmh hi hc2];rw[show(0:Int)+(c:Int)=(c:Int) by omega] at h1 h2;by_cases z:(!bf i c)=true
     ·rw[if_pos z];exact h2 _ (if_pos z)
     ·rw[if_neg z];exact h1 (if_neg z)
    ·have e:(QfC 0 (bw:Int).toNat).filterMap (λd=>match d with | .int c=>if(!bf i c.toNat)=true then some (pairD ((i:Int),c)) else none | _=>none)=(QdN i bw (QgB bf)).map pairD:=by
      unfold QfC QdN;rw[ZG,Q1,Qy];refine QhH λc _=>?_
      show(if(!bf i (0+(c:Int)).toNat)=true then some (pairD ((i:Int),0+(c:Int))) else none)=if(!bf i c)=true then some (pairD ((i:Int),(c:Int))) else none
      rw[show(0+(c:Int)).toNat=c by omega,show(0:Int)+(c:Int)=(c:Int) by omega]
     rw[e];refine⟨by rw[Qg,Qg];omega,.v (.int (0+(i:Int))),?_⟩;rw[YV,JF];rfl
   ·rintro δ ⟨x7,rfl⟩;rw[Qy];exact hR
  |undo=>exact absurd rfl hu
end
def QpY:Sp:=λvs H Q _=>∃(b:Addr)(h w:Nat)(f:Nat->Nat->Bool),vs=[.ref b]/\Dat H (.ref b) (bdD h w (cellsF h w f))/\h<=6/\w<=6/\∀t H',Same H H'->H t=none->H' t=some (.lst ((cIw f h w).map V.int))->Q (.ref t) H'
theorem Qyd(h w:Int)(cs:List (Int×Int)):nd (bdD h w cs)=true:=by
 show(true&&(true&&(nds (cs.map pairD)&&true)))=true;rw[ZY];rfl
theorem QyA{vs:List V}{H:Hp}{Q:VK}{Ex:XK}(h:ZE true Qml vs H Q Ex):QpY vs H Q Ex:=by
 obtain⟨A,pt,args,R,EX,dm,hp,q,⟨hh,w,f,rfl,h6,w6,hR⟩,k,_⟩:=h;cases q with
 |cons q1 q2=>
  cases q2;cases q1 with
  |@tup b xs ds nb e qq=>
   refine⟨b,hh,w,f,rfl,QgN _ _ (Qyd _ _ _) (DA.tup nb e qq),h6,w6,λt H' s n e'=>k _ hR _ H' ⟨λb o _ e=>s _ _ e,λp pp=>?_⟩ (Qd0 dm s n e' (QfQ _)) λ_=>QaF n⟩;obtain⟨_,m,em⟩:=hp p pp;exact⟨m,s _ _ em⟩
section
variable{P:Qw}{w:Ja}{K:PySem.W.Frag}{mg:Str->Option Value}{base:JR}
theorem Qak:Jc ["_law_board", "_law_ways", "_law_row", "_law_later", "_law_taken", "_law_line", "_law_column", "_law_more", "_law_found"] ["_law_board"] (Qm lCnt):=⟨rfl,rfl,rfl,by decide +kernel,rfl,by decide +kernel,by decide +kernel⟩
theorem Qtf{f   : Addr}{fd  : Qq}(zD:mg "dict" = none)(F:Fun K "_law_counts_by_rows" "_law_counts_by_rows" lCnt f fd)(T:GlbA mg) :
  FnOk P w K mg base CX0 1 f fd ["_law_board"] QpY:=by
 refine F.ok Qak (λvs H Q E h=>?_) (λcdv A outer s H vs Q E hr h=>?_)
 ·obtain⟨b,h,w,f,rfl,_⟩:=h;rfl
 ·obtain⟨b,h,w,f,rfl,hb,h6,w6,k⟩:=h;have un:=hr.units;refine⟨_,QR (ZQ (i:=1) Qak.nd rfl (by first | exact QF rfl | exact QK rfl) (Qoc (QjL hr) (Qa4 pa_nil) pe_int))
   (QR (Qdh Za rfl (Qbp (by rfl) T.range (pa_cons (pe_ix ix_tup (pv 0) pe_int (λ_ _=>rfl)) pa_nil)) (Zo (i:=2) Qak.nd rfl (by first | exact QF rfl | exact QK rfl))
    (QR (ZQ (i:=3) Qak.nd rfl (by first | exact QF rfl | exact QK rfl) (QaP QjZ (by rfl) zD Qt8 (pa_cons (pv 1) pa_nil)))
   (QR (Qdh Za rfl (QlD (pv 1)) (Zo (i:=4) Qak.nd rfl (by first | exact QF rfl | exact QK rfl))
    (Ji (Qdh Za rfl (Qp8 (pe_ix ix_tup (pv 0) pe_int (λ_ _=>rfl))) (QdT rfl (ZI (Zo (i:=5) Qak.nd rfl (by first | exact QF rfl | exact QK rfl)) (ZI (Zo (i:=6) Qak.nd rfl (by first | exact QF rfl | exact QK rfl)) Qb2)))
    (Ji (Qbf (PW.pt (Qp5 (ZS Qb3 (pv 5) (pv 2) (JN _)) (Qlw (ZS Qgz (pv 6) (pv 4) (by rfl))))) (QR (ZQ (i:=7) Qak.nd rfl (by first | exact QF rfl | exact QK rfl) (QaP JD (by rfl) T.tuple Zs (pa_cons (pe_callB QjX (by rfl) T.sorted L2.boot_sorted (pa_cons (pe_op QlX (pv 4) (Qa4 (pa_c (pv 6) pa_nil))) pa_nil)) pa_nil)))
   (Ji (Qsw (QjL hr) (pv 3) (pv 7) (pe_op op_add (Qod (QjL hr) (pv 3) (pv 7) pe_int ⟨rfl,rfl,rfl,rfl⟩) (Qhx (QjL hr) (pv 1) (pv 4) (λ_ _=>rfl))) rfl))) Z2)))))
   (Ji (ZQ (i:=1) Qak.nd rfl (by first | exact QF rfl | exact QK rfl) (pv 3))))))
   (QR (ZQ (i:=8) Qak.nd rfl (by first | exact QF rfl | exact QK rfl) (pe_op op_repW (pe_lstW (pa_c pe_int pa_nil)) (pe_op op_add (pe_callB (call_min2 rfl) (by rfl) T.min bt_min (pa_cons (pe_ix ix_tup (pv 0) pe_int (λ_ _=>rfl)) (pa_cons (pe_ix ix_tup (pv 0) pe_int (λ_ _=>rfl)) pa_nil))) pe_int)))
   (QR (Qdh Za rfl (QlD (pv 1)) (Zo (i:=4) Qak.nd rfl (by first | exact QF rfl | exact QK rfl))
    (Ji (Qdi (pe_op op_add (pe_ix ix_list (pv 8) (pe_callB ZR (by rfl) T.len Qby (pa_cons (pv 4) pa_nil)) (λ_ _=>rfl)) (Qhx (QjL hr) (pv 1) (pv 4) (λ_ _=>rfl))) (QlE (pv 8) (pe_callB ZR (by rfl) T.len Qby (pa_cons (pv 4) pa_nil)) QdC))))
   (Ji (Zy (pv 8)))))),?_⟩
  exact Bx.Qt7 h6 w6 (Bf.of hb) k
end
end Rk
namespace Rk
open L2 _root_.Rd
section
variable{P:Qw}{w:Ja}{K:PySem.W.Frag}{mg:Str->Option Value}{base:JR}
theorem Qdd:Jc ["_law_e", "_law_some", "_law_words"] ["_law_e"] (Qm QjC):=⟨rfl,rfl,rfl,by decide +kernel,rfl,by decide +kernel,by decide +kernel⟩
theorem Qtg{f c1 c2 c3 c4 c5 c6 c7 c8 c9 c10 c11 c12 c13 c14 c15 c16 c17 c18 c19:Addr}{fd:Qq}(F:Fun K "_law_kind_of" "_law_kind_of" QjC f fd)(T:GlbA mg)(mV:mg "ValueError" = none)
  (m1:mg "NoText" = some (.ref c1))(m2:mg "NoOrder" = some (.ref c2))(m3:mg "NoLines" = some (.ref c3))(m4:mg "TooFew" = some (.ref c4))(m5:mg "NoSize" = some (.ref c5))(m6:mg "TooMany" = some (.ref c6))(m7:mg "NoNumber" = some (.ref c7))(m8:mg "NoStand" = some (.ref c8))(m9:mg "NoCell" = some (.ref c9))(m10:mg "NotSquare" = some (.ref c10))(m11:mg "NoHits" = some (.ref c11))(m12:mg "NoCounts" = some (.ref c12))(m13:mg "NoStairs" = some (.ref c13))(m14:mg "NotAlike" = some (.ref c14))(m15:mg "NoParting" = some (.ref c15))(m16:mg "NoPlace" = some (.ref c16))(m17:mg "Double" = some (.ref c17))(m18:mg "NoDeed" = some (.ref c18))(m19:mg "NoRow" = some (.ref c19)) :
  Rx.FnM P w K mg base 1 f fd ["_law_e"] (Qgp K [c1,c2,c3,c4,c5,c6,c7,c8,c9,c10,c11,c12,c13,c14,c15,c16,c17,c18,c19]):=by
 refine Rx.okM F Qdd (λvs H Q E h=>?_) (λcdv A outer s H vs Q E hr h=>?_)
 ·obtain⟨a,C,bs,j,wd,rfl,_⟩:=h;rfl
 ·obtain⟨a,C,bs,j,wd,rfl,ha,hc,pb,eV,hcnt,hj,hm,hw,k⟩:=h;refine' ⟨_,QR (ZQ (i:=1) Qdd.nd rfl (QF rfl) (pe_lstW (QeS (x := "_law_e") (ns:=["NoText", "NoOrder", "NoLines", "TooFew"]) (cs:=[c1,c2,c3,c4]) rfl (QF rfl) (by decide) (by decide) (by rfl) T.isinstance (by decide +kernel) (by rfl) (.cons m1 (.cons m2 (.cons m3 (.cons m4 .nil))))))) ?p1,?rd⟩
  case p1=>
   show PSs _ _ _;refine' QR (ZQ (i:=1) Qdd.nd rfl (QF rfl) (pe_op QdX (pv 1) (pe_lstW (QeS (x := "_law_e") (ns:=["NoSize", "TooMany", "NoNumber", "NoStand"]) (cs:=[c5,c6,c7,c8]) rfl (QF rfl) (by decide) (by decide) (by rfl) T.isinstance (by decide +kernel) (by rfl) (.cons m5 (.cons m6 (.cons m7 (.cons m8 .nil)))))))) ?_
   show PSs _ _ _;refine' QR (ZQ (i:=1) Qdd.nd rfl (QF rfl) (pe_op QdX (pv 1) (pe_lstW (QeS (x := "_law_e") (ns:=["NoCell", "NotSquare", "NoHits", "NoCounts"]) (cs:=[c9,c10,c11,c12]) rfl (QF rfl) (by decide) (by decide) (by rfl) T.isinstance (by decide +kernel) (by rfl) (.cons m9 (.cons m10 (.cons m11 (.cons m12 .nil)))))))) ?_
   show PSs _ _ _;refine' QR (ZQ (i:=1) Qdd.nd rfl (QF rfl) (pe_op QdX (pv 1) (pe_lstW (QeS (x := "_law_e") (ns:=["NoStairs", "NotAlike", "NoParting", "NoPlace"]) (cs:=[c13,c14,c15,c16]) rfl (QF rfl) (by decide) (by decide) (by rfl) T.isinstance (by decide +kernel) (by rfl) (.cons m13 (.cons m14 (.cons m15 (.cons m16 .nil)))))))) ?_
   show PSs _ _ _;refine' QR (ZQ (i:=1) Qdd.nd rfl (QF rfl) (pe_op QdX (pv 1) (pe_lstW (QeS (x := "_law_e") (ns:=["Double", "NoDeed", "NoRow"]) (cs:=[c17,c18,c19]) rfl (QF rfl) (by decide) (by decide) (by rfl) T.isinstance (by decide +kernel) (by rfl) (.cons m17 (.cons m18 (.cons m19 .nil))))))) ?_
   show PSs _ _ _;refine' QR (Qbf (Qjl (ZS QlT (Qjn PySem.F.plainAttrs_list PySem.F.slot_list_count PySem.F.type_list_count Rx.QoS (pv 1) (pa_cons QdU pa_nil)) pe_int (JN _)) (Qgw (QdR (Qcp (pe_callB Rx.QgW (by rfl) T.isinstance JG (pa_cons (pv 0) (pa_cons (YK (v:=.ty "ValueError") (by rfl) mV QyB rfl) pa_nil))))))).pt (Ji (Zy YY)) Z2) ?_
   show PSs _ _ _;refine' QR ?a1 ?_
   case a1=>
    refine' ZQ (i:=2) (hs:=?hh) (hf:=?hf) ?hN ?hi ?hx ?he
    case hN=>exact Qdd.nd
    case hi=>exact rfl
    case hx=>exact QF rfl
    case hf=>exact QF rfl
    case hh=>kernel_rfl
    case he=>
     refine' pe_lstW ?ww
     case ww=>exact Qhy (ws:=Qgj.take 10) (by kernel_rfl)
   show PSs _ _ _;refine' QR ?a2 ?_
   case a2=>
    refine' ZQ (i:=2) (hs:=?hh) (hf:=?hf) ?hN ?hi ?hx ?he
    case hN=>exact Qdd.nd
    case hi=>exact rfl
    case hx=>exact QF rfl
    case hf=>exact QF rfl
    case hh=>kernel_rfl
    case he=>
     refine' pe_op QdX (pv 2) ?ww
     case ww=>
      refine' pe_lstW ?w2
      case w2=>exact Qhy (ws:=Qgj.drop 10) (by kernel_rfl)
   show PSs _ _ _;exact Ji (Zy (pe_ix ix_list (pv 2) (Qjn PySem.F.plainAttrs_list PySem.F.slot_list_index PySem.F.type_list_index Rx.QoR (pv 1) (pa_cons QdU pa_nil)) (λ_ _=>rfl)))
  obtain⟨b1,bs1,rfl,q1,pb1⟩:=Jx pb;obtain⟨b2,bs2,rfl,q2,pb2⟩:=Jx pb1;obtain⟨b3,bs3,rfl,q3,pb3⟩:=Jx pb2;obtain⟨b4,bs4,rfl,q4,pb4⟩:=Jx pb3;obtain⟨b5,bs5,rfl,q5,pb5⟩:=Jx pb4;obtain⟨b6,bs6,rfl,q6,pb6⟩:=Jx pb5;obtain⟨b7,bs7,rfl,q7,pb7⟩:=Jx pb6;obtain⟨b8,bs8,rfl,q8,pb8⟩:=Jx pb7;obtain⟨b9,bs9,rfl,q9,pb9⟩:=Jx pb8;obtain⟨b10,bs10,rfl,q10,pb10⟩:=Jx pb9;obtain⟨b11,bs11,rfl,q11,pb11⟩:=Jx pb10;obtain⟨b12,bs12,rfl,q12,pb12⟩:=Jx pb11;obtain⟨b13,bs13,rfl,q13,pb13⟩:=Jx pb12;obtain⟨b14,bs14,rfl,q14,pb14⟩:=Jx pb13;obtain⟨b15,bs15,rfl,q15,pb15⟩:=Jx pb14;obtain⟨b16,bs16,rfl,q16,pb16⟩:=Jx pb15;obtain⟨b17,bs17,rfl,q17,pb17⟩:=Jx pb16;obtain⟨b18,bs18,rfl,q18,pb18⟩:=Jx pb17;obtain⟨b19,bs19,rfl,q19,pb19⟩:=Jx pb18;cases Qjp pb19;refine⟨a,C,[b1,b2,b3,b4],rfl,ha,hc,(.cons q1 (.cons q2 (.cons q3 (.cons q4 .nil)))),by show 4<=1000;decide,λl1 H1 s1 n1 e_1=>?_⟩;have h1:=s1 _ _ ha;refine⟨_,rfl,a,C,[b5,b6,b7,b8],rfl,h1,hc,(.cons q5 (.cons q6 (.cons q7 (.cons q8 .nil)))),by show 4<=1000;decide,λl2 H2 s2 n2 e_2=>⟨l1,l2,_,_,rfl,rfl,s2 _ _ e_1,e_2,by show 8<=1000;decide,λl3 H3 s3 n3 e_3=>?_⟩⟩;have h3:=s3 _ _ (s2 _ _ h1);refine⟨_,rfl,a,C,[b9,b10,b11,b12],rfl,h3,hc,(.cons q9 (.cons q10 (.cons q11 (.cons q12 .nil)))),by show 4<=1000;decide,λl4 H4 s4 n4 e_4=>⟨l3,l4,_,_,rfl,rfl,s4 _ _ e_3,e_4,by show 12<=1000;decide,λl5 H5 s5 n5 e_5=>?_⟩⟩;have h5:=s5 _ _ (s4 _ _ h3);refine⟨_,rfl,a,C,[b13,b14,b15,b16],rfl,h5,hc,(.cons q13 (.cons q14 (.cons q15 (.cons q16 .nil)))),by show 4<=1000;decide,λl6 H6 s6 n6 e_6=>⟨l5,l6,_,_,rfl,rfl,s6 _ _ e_5,e_6,by show 16<=1000;decide,λl7 H7 s7 n7 e_7=>?_⟩⟩;have h7:=s7 _ _ (s6 _ _ h5);refine⟨_,rfl,a,C,[b17,b18,b19],rfl,h7,hc,(.cons q17 (.cons q18 (.cons q19 .nil))),by show 3<=1000;decide,λl8 H8 s8 n8 e_8=>⟨l7,l8,_,_,rfl,rfl,s8 _ _ e_7,e_8,by show 19<=1000;decide,λl9 H9 s9 n9 e_9=>?_⟩⟩;have h9:=s9 _ _ (s8 _ _ h7);have S:=((((((((s1.trans s2).trans s3).trans s4).trans s5).trans s6).trans s7).trans s8).trans s9);have EL:H9 l9=some (.lst (([b1,b2,b3,b4,b5,b6,b7,b8,b9,b10,b11,b12,b13,b14,b15,b16,b17,b18,b19]:List Bool).map V.bl)):=e_9;refine⟨_,rfl,.inl ⟨rfl,_,SqL.of EL⟩,l9,_,rfl,rfl,EL,rfl,_,rfl,?_⟩;rw[hcnt];refine QjH rfl ?_
  refine⟨_,rfl,a,C,.ty "ValueError",.type "ValueError",true,rfl,h9,hc,(λu r=>r),eV,_,rfl,?_⟩;refine⟨by show 10<=1000;decide,λl10 H10 s10 n10 e_10=>?_⟩;refine⟨_,rfl,by show 9<=1000;decide,λl11 H11 s11 n11 e_11=>⟨l10,l11,_,_,rfl,rfl,s11 _ _ e_10,e_11,by show 19<=1000;decide,λl12 H12 s12 n12 e_12=>?_⟩⟩;have EL2:=s12 _ _ (s11 _ _ (s10 _ _ EL));refine⟨_,rfl,_,rfl,.inl ⟨rfl,_,SqL.of EL2⟩,l9,_,j,rfl,rfl,EL2,hj,hm,?_⟩;have EW:H12 l12=some (.lst (Qgj.map V.str)):=e_12;exact⟨l12,_,_,.str wd,rfl,rfl,SqL.of EW,JB (by rw[QC,hw];rfl),k H12 (((S.trans s10).trans s11).trans s12)⟩
end
def QvT:Qc->Bool
 |.tuple _=>true
 |.list _=>true
 |_=>false
def QzD:Qc->Bool
 |.list _=>true
 |_=>false
def QzB:Qc->Bool
 |.tuple _=>true
 |_=>false
def QzE:Qc->Bool
 |.bool _=>true
 |_=>false
def QzC:Qc->Bool
 |.str _=>true
 |_=>false
theorem QuG{K:PySem.W.Frag}{H:Hp}:∀{x:V}{d:Qc},Dat H x d->∃t,TyOf K H x t/\PySem.W.kitAny K t [.type "list",.type "tuple"]=some (QvT d)/\PySem.W.kitOne K t (.type "list")=some (QzD d)/\PySem.W.kitOne K t (.type "tuple")=some (QzB d) /\
  PySem.W.kitOne K t (.type "bool")=some (QzE d)/\PySem.W.kitOne K t (.type "str")=some (QzC d)
 |_,_,.non=>⟨_,.non,rfl,rfl,rfl,rfl,rfl⟩
 |_,_,.bl _=>⟨_,.bl _,rfl,rfl,rfl,rfl,rfl⟩
 |_,_,.int _=>⟨_,.int _,rfl,rfl,rfl,rfl,rfl⟩
 |_,_,.str _ _=>⟨_,.str _,rfl,rfl,rfl,rfl,rfl⟩
 |_,_,.tup e _=>⟨_,.tup e,rfl,rfl,rfl,rfl,rfl⟩
 |_,_,.lst e _=>⟨_,.lst e,rfl,rfl,rfl,rfl,rfl⟩
theorem QvN:(["_law_one", "_law_other"]:List Str).Nodup:=by decide +kernel
def QkV:Sp:=λvs H Q _=>∃p x,vs=[x]/\Kn p H x/\Q (.bl (isI x)) H
section
variable{P:Qw}{w:Ja}{K:PySem.W.Frag}{mg:Str->Option Value}{base:JR}
theorem QnW:Jc ["_law_thing"] ["_law_thing"] (Qm Qdl):=⟨rfl,rfl,rfl,by decide +kernel,rfl,by decide +kernel,by decide +kernel⟩
theorem QlZ{f:Addr}{fd:Qq}(F:Fun K "_law_whole" "_law_whole" Qdl f fd)(T:GlbA mg):FnOk P w K mg base CX0 1 f fd ["_law_thing"] QkV:=by
 refine F.ok QnW (λvs H Q E h=>?_) (λcdv A outer s H vs Q E hr h=>?_)
 ·obtain⟨p,x,rfl,_⟩:=h;rfl
 ·obtain⟨p,x,rfl,kn,k⟩:=h;refine⟨_,Ji (Zy (Qdk (pe_callB Zq (by rfl) T.isinstance JG (pa_cons (pv 0) (pa_cons (YK (v:=.ty "int") (by rfl) T.int QgY rfl) pa_nil)))
   (Qdj (Qrb (pe_callB Zq (by rfl) T.isinstance JG (pa_cons (pv 0) (pa_cons (YK (v:=.ty "bool") (by rfl) T.bool Qc4 rfl) pa_nil))))))),?_⟩
  obtain⟨t,ty,e⟩:=Qo1 (K:=K) kn;obtain⟨t2,ty2,e2⟩:=Qmw (K:=K) kn;refine⟨_,rfl,_,t,_,_,rfl,ty,e,_,rfl,?_⟩;cases x with
  |int i=>exact Qb5 ⟨_,rfl,_,t2,_,_,rfl,ty2,e2,_,rfl,k⟩
  |bl i=>exact Qb5 ⟨_,rfl,_,t2,_,_,rfl,ty2,e2,_,rfl,k⟩
  |_=>exact Qaw k
theorem QuU:Jc ["_law_found", "_law_due"] ["_law_found", "_law_due"] (Qm QjA):=⟨rfl,rfl,rfl,by decide +kernel,rfl,by decide +kernel,by decide +kernel⟩
theorem Ql1{f f1:Addr}{fd fd1:Qq}(F:Fun K "_law_same" "_law_same" QjA f fd)(T:GlbA mg)(mf:mg "_law_same" = some (.ref f))(bf:Binds K fd ["_law_found", "_law_due"] [])(kf:PySem.W.keepIn K (.ref f)=true)
  (m1:mg "_law_whole" = some (.ref f1))(G1:FnOk P w K mg base CX0 1 f1 fd1 ["_law_thing"] QkV)(b1:Binds K fd1 ["_law_thing"] [])(k1:PySem.W.keepIn K (.ref f1)=true) :
  ∀n:Nat,FnOk P w K mg base CX0 (n+1) f fd ["_law_found", "_law_due"] (Qht n)
 |0=>⟨λ_ _ _ _ h=>h.elim,λ_ _ _ _ _ _ _ _ _ _ _ _ _ h=>h.elim⟩
 |n+1=>by
  have IH:=Ql1 F T mf bf kf m1 G1 b1 k1 n;refine F.ok QuU (λvs H Q E h=>?_) (λcdv A outer s H vs Q E hr h=>?_)
  ·obtain⟨x,y,d,rfl,_⟩:=h;rfl
  ·obtain⟨x,y,d,rfl,qx,qy,fl,k⟩:=h;have hr1:Room 1 _:=hr.mono (by omega);refine⟨_,QR (Qbf (Qcp (pe_callB QjY (by rfl) T.isinstance JG (pa_cons (pv 1) (pa_cons (Qa4 (pa_cons (YK (v:=.ty "list") (by rfl) T.list Qc3 rfl) (pa_cons (YK (v:=.ty "tuple") (by rfl) T.tuple Zs rfl) pa_nil))) pa_nil))))
     (QR (Qbf (Qjl (ZS QlT (pe_callB Zq (by rfl) T.isinstance JG (pa_cons (pv 1) (pa_cons (YK (v:=.ty "list") (by rfl) T.list Qc3 rfl) pa_nil))) (pe_callB Zq (by rfl) T.isinstance JG (pa_cons (pv 0) (pa_cons (YK (v:=.ty "list") (by rfl) T.list Qc3 rfl) pa_nil))) (JN _))
      (Qgw (ZS QlT (pe_callB Zq (by rfl) T.isinstance JG (pa_cons (pv 1) (pa_cons (YK (v:=.ty "tuple") (by rfl) T.tuple Zs rfl) pa_nil))) (pe_callB Zq (by rfl) T.isinstance JG (pa_cons (pv 0) (pa_cons (YK (v:=.ty "tuple") (by rfl) T.tuple Zs rfl) pa_nil))) (JN _)))).pt (Ji (Zy QdU)) Z2)
     (Ji (Zy (Qdk (Qbr Qb3 (pe_callB ZR (by rfl) T.len Qby (pa_cons (pv 0) pa_nil)) (pe_callB ZR (by rfl) T.len Qby (pa_cons (pv 1) pa_nil)) (JN _))
      (Qdj (pe_callB Qpu (by rfl) T.all Qwu (pa_cons (Qip (M:=["_law_one", "_law_other"]) (cap:=[none,none]) (g:=Qw2 K 2 (QjP (YN 0) (QjP (YN 1) Qw3))) (tc:=Qhq) (te:=QrW (Qht n) [] E0 (Z1 (Yy 0) (Z1 (Yy 1) QbO))) rfl (by rfl)
       (Qx2 (Qvh (by rfl) T.zip (pa_cons (pv 0) (pa_cons (pv 1) pa_nil))) (QsA (by rfl) T.zip (pa_cons (pv 0) (pa_cons (pv 1) pa_nil))))
       (λcl ex s3 H3 C=>⟨QdT rfl (ZI (Zo (i:=0) QvN rfl (QF rfl) (QK rfl)) (ZI (Zo (i:=1) QvN rfl (QF rfl) (QK rfl)) Qb2)),Qly,pe_call IH (hr.mono (Qh _)) (by rfl) mf kf bf .nil pass0 (pa_cons (pv 0) (pa_cons (pv 1) pa_nil))⟩)) pa_nil)))))))
     Z2)
    (QR (Qbf (Qjl (ZS Qre (pv 1) QeQ (JN _)) (Qjl (Qcp (pe_callB Zq (by rfl) T.isinstance JG (pa_cons (pv 1) (pa_cons (YK (v:=.ty "bool") (by rfl) T.bool Qc4 rfl) pa_nil)))) (Qgw (Qcp (pe_callB Zq (by rfl) T.isinstance JG (pa_cons (pv 1) (pa_cons (YK (v:=.ty "str") (by rfl) T.str Qwt rfl) pa_nil))))))).pt
     (Ji (Zy (Qdk (Qbr QlW (pv 0) (pv 1) (JN _)) (Qdj (Qbr Qb3 (pe_callB Zq (by rfl) T.isinstance JG (pa_cons (pv 0) (pa_cons (YK (v:=.ty "bool") (by rfl) T.bool Qc4 rfl) pa_nil))) (pe_callB Zq (by rfl) T.isinstance JG (pa_cons (pv 1) (pa_cons (YK (v:=.ty "bool") (by rfl) T.bool Qc4 rfl) pa_nil))) (JN _)))))) Z2)
    (Ji (Zy (Qdk (pe_call G1 hr1 (by rfl) m1 k1 b1 .nil pass0 (pa_cons (pv 0) pa_nil)) (Qdj (Qbr QlW (pv 0) (pv 1) (JN _))))))),?_⟩
   refine⟨_,rfl,by show 2<=1000;decide,λtp H1 s1 n1 e1=>?_⟩;have qx1:=qx.same s1;have qy1:=qy.same s1;obtain⟨t,ty,a1,a2,a3,a4,a5⟩:=QuG (K:=K) qy1;obtain⟨t',ty',a1',a2',a3',a4',a5'⟩:=QuG (K:=K) qx1;refine⟨y,t,tp,["list", "tuple"],_,d,rfl,e1,qy1,ty,a1,_,rfl,?_⟩;have k1':∀H',Same H1 H'->Q (.bl true) H':=λH' s'=>k H' (s1.trans s')
   cases d with
   |tuple ds=>
    obtain⟨m,rfl⟩:∃m,n=m+1:=by
     cases n with
     |zero=>cases fl
     |succ m=>exact⟨m,rfl⟩
    have fl':=Q4.mp (show(decide (ds.length<=1000)&&ds.all (Qb7 m))=true from fl);have hdl:ds.length<=1000:=of_decide_eq_true fl'.1;refine Qb5 ?_
    cases qy1 with
    |@tup b ys _ eb qs=>
    cases qx1 with
    |@tup a xs _ ea ps=>
    refine⟨_,rfl,_,t,_,_,rfl,ty,a2,_,rfl,_,t',_,_,rfl,ty',a2',rfl,_,rfl,QjH rfl ?_⟩;refine⟨_,rfl,_,t,_,_,rfl,ty,a3,_,rfl,_,t',_,_,rfl,ty',a3',rfl,_,rfl,QjH rfl ?_⟩;have hxl:=ps.length;have hyl:=qs.length;refine⟨_,rfl,a,xs,rfl,.inr (SqT.of ea),_,rfl,b,ys,rfl,.inr (SqT.of eb),rfl,_,rfl,?_⟩;rw[show decide (V.int (xs.length:Nat)=V.int (ys.length:Nat))=true from decide_eq_true (by rw[hxl,hyl])];refine Qb5 (.inl ⟨_,rfl,_,rfl,a,b,xs,ys,rfl,ea,eb,λp hp=>?_⟩);refine Qe6 ds.length (Qaq hdl) (λ_=>true) hp (λi H2 hi2 s2=>?_) (λH2 s2=>?_) λH2 s2 e2=>?_
    ·have hx:xs[i]? = some xs[i]:=Qi (by omega);have hy:ys[i]? = some ys[i]:=Qi (by omega);have ea2:=s2 a _ ea;have eb2:=s2 b _ eb;refine⟨⟨xs,ys,_,_,ea2,eb2,hx,hy⟩,λv H3 ⟨r,x',y',hr0,ex,ey,ev,eH⟩ kk hk=>?_⟩;have ex':=ex xs ea2;have ey':=ey ys eb2;rw[hx] at ex';rw[hy] at ey';cases ex';cases ey';subst ev eH;obtain⟨d1,hd1,q1⟩:=ps.get i _ hx;obtain⟨d2,hd2,q2⟩:=qs.get i _ hy;rw[hd1] at hd2;cases hd2;have fd1:Qb7 m d1=true:=J4.mp fl'.2 d1 (Q3 hd1);refine⟨r,[xs[i],ys[i]],rfl,SqT.of upd_same,rfl,xs[i],[ys[i]],rfl,ys[i],[],rfl,rfl,⟨trivial,?_⟩⟩;exact⟨_,rfl,_,rfl,xs[i],ys[i],d1,rfl,(q1.same s2).same (Jn hr0),(q2.same s2).same (Jn hr0),fd1,λH' s'=>hk H' ((Jn hr0).trans s')⟩
    ·refine⟨xs,ys,s2 a _ ea,s2 b _ eb,?_⟩;omega
    ·refine⟨p,_,rfl,SqL.of e2,rfl,?_⟩;have e3:((QY ds.length).map λ_=>true).all id=true:=by
      rw[J4];intro z hz;obtain⟨_,_,rfl⟩:=QH.mp hz;rfl
     rw[e3];exact k1' H2 s2
   |list ds=>
    obtain⟨m,rfl⟩:∃m,n=m+1:=by
     cases n with
     |zero=>cases fl
     |succ m=>exact⟨m,rfl⟩
    have fl':=Q4.mp (show(decide (ds.length<=1000)&&ds.all (Qb7 m))=true from fl);have hdl:ds.length<=1000:=of_decide_eq_true fl'.1;refine Qb5 ?_
    cases qy1 with
    |@lst b ys _ eb qs=>
    cases qx1 with
    |@lst a xs _ ea ps=>
    refine⟨_,rfl,_,t,_,_,rfl,ty,a2,_,rfl,_,t',_,_,rfl,ty',a2',rfl,_,rfl,QjH rfl ?_⟩;refine⟨_,rfl,_,t,_,_,rfl,ty,a3,_,rfl,_,t',_,_,rfl,ty',a3',rfl,_,rfl,QjH rfl ?_⟩;have hxl:=ps.length;have hyl:=qs.length;refine⟨_,rfl,a,xs,rfl,.inl (SqL.of ea),_,rfl,b,ys,rfl,.inl (SqL.of eb),rfl,_,rfl,?_⟩;rw[show decide (V.int (xs.length:Nat)=V.int (ys.length:Nat))=true from decide_eq_true (by rw[hxl,hyl])];refine Qb5 (.inr ⟨_,rfl,_,rfl,a,b,xs,ys,rfl,ea,eb,λp hp=>?_⟩);refine Qe6 ds.length (Qaq hdl) (λ_=>true) hp (λi H2 hi2 s2=>?_) (λH2 s2=>?_) λH2 s2 e2=>?_
    ·have hx:xs[i]? = some xs[i]:=Qi (by omega);have hy:ys[i]? = some ys[i]:=Qi (by omega);have ea2:=s2 a _ ea;have eb2:=s2 b _ eb;refine⟨⟨xs,ys,_,_,ea2,eb2,hx,hy⟩,λv H3 ⟨r,x',y',hr0,ex,ey,ev,eH⟩ kk hk=>?_⟩;have ex':=ex xs ea2;have ey':=ey ys eb2;rw[hx] at ex';rw[hy] at ey';cases ex';cases ey';subst ev eH;obtain⟨d1,hd1,q1⟩:=ps.get i _ hx;obtain⟨d2,hd2,q2⟩:=qs.get i _ hy;rw[hd1] at hd2;cases hd2;have fd1:Qb7 m d1=true:=J4.mp fl'.2 d1 (Q3 hd1);refine⟨r,[xs[i],ys[i]],rfl,SqT.of upd_same,rfl,xs[i],[ys[i]],rfl,ys[i],[],rfl,rfl,⟨trivial,?_⟩⟩;exact⟨_,rfl,_,rfl,xs[i],ys[i],d1,rfl,(q1.same s2).same (Jn hr0),(q2.same s2).same (Jn hr0),fd1,λH' s'=>hk H' ((Jn hr0).trans s')⟩
    ·refine⟨xs,ys,s2 a _ ea,s2 b _ eb,?_⟩;omega
    ·refine⟨p,_,rfl,SqL.of e2,rfl,?_⟩;have e3:((QY ds.length).map λ_=>true).all id=true:=by
      rw[J4];intro z hz;obtain⟨_,_,rfl⟩:=QH.mp hz;rfl
     rw[e3];exact k1' H2 s2
   |none=>
    refine Qaw ?_
    have hy:y=.non:=by cases qy1;rfl
    subst hy;refine⟨_,rfl,rfl,_,rfl,Qb5 (Qb5 ?_)⟩;refine⟨_,rfl,_,rfl,QcF,QcF,qx1,qy1,by rw[QeA];show _+J6 QcF<cLine;rw[show J6 QcF=0 from by simp[J6]];exact hr.units0,_,rfl,?_⟩;rw[QcE QcF rfl];refine Qb5 ?_
    refine⟨_,rfl,_,t',_,_,rfl,ty',a4',_,rfl,_,t,_,_,rfl,ty,a4,rfl,?_⟩;rw[show ∀b:Bool,decide (V.bl b=V.bl b)=true from λb=>decide_eq_true rfl];exact k1' H1 (Same.refl H1)
   |bool v=>
    refine Qaw ?_
    have hy:y=.bl v:=by cases qy1;rfl
    subst hy;refine⟨_,rfl,rfl,_,rfl,Qaw ?_⟩;refine⟨_,rfl,_,t,_,_,rfl,ty,a4,_,rfl,Qb5 (Qb5 ?_)⟩;refine⟨_,rfl,_,rfl,(Y1 v),(Y1 v),qx1,qy1,by rw[QeA];show _+J6 (Y1 v)<cLine;rw[show J6 (Y1 v)=0 from by simp[J6]];exact hr.units0,_,rfl,?_⟩;rw[QcE (Y1 v) rfl];refine Qb5 ?_
    refine⟨_,rfl,_,t',_,_,rfl,ty',a4',_,rfl,_,t,_,_,rfl,ty,a4,rfl,?_⟩;rw[show ∀b:Bool,decide (V.bl b=V.bl b)=true from λb=>decide_eq_true rfl];exact k1' H1 (Same.refl H1)
   |str v=>
    refine Qaw ?_
    have hy:y=.str v:=by cases qy1;rfl
    subst hy;have cl:JO (.str v)=true:=by cases qy1 with | str _ c=>exact c
    refine⟨_,rfl,rfl,_,rfl,Qaw ?_⟩;refine⟨_,rfl,_,t,_,_,rfl,ty,a4,_,rfl,Qaw ?_⟩;refine⟨_,rfl,_,t,_,_,rfl,ty,a5,_,rfl,Qb5 ?_⟩;refine⟨_,rfl,_,rfl,(Q0 v),(Q0 v),qx1,qy1,by rw[QeA];show _+J6 (Q0 v)<cLine;rw[show J6 (Q0 v)=0 from by simp[J6]];exact hr.units0,_,rfl,?_⟩;rw[QcE (Q0 v) cl];refine Qb5 ?_
    refine⟨_,rfl,_,t',_,_,rfl,ty',a4',_,rfl,_,t,_,_,rfl,ty,a4,rfl,?_⟩;rw[show ∀b:Bool,decide (V.bl b=V.bl b)=true from λb=>decide_eq_true rfl];exact k1' H1 (Same.refl H1)
   |int i=>
    refine Qaw ?_
    have hy:y=.int i:=by cases qy1;rfl
    have hx:x=.int i:=by cases qx1;rfl
    subst hy;subst hx;refine⟨_,rfl,rfl,_,rfl,Qaw ?_⟩;refine⟨_,rfl,_,t,_,_,rfl,ty,a4,_,rfl,Qaw ?_⟩;refine⟨_,rfl,_,t,_,_,rfl,ty,a5,_,rfl,Qaw ?_⟩;refine⟨_,rfl,0,.int i,rfl,trivial,_,rfl,Qb5 ?_⟩;refine⟨_,rfl,_,rfl,.int i,.int i,qx1,qy1,by rw[QeA];show _+J6 (.int i)<cLine;rw[show J6 (.int i)=0 from by simp[J6]];exact hr.units0,?_⟩;rw[QcE (.int i) rfl];exact k1' H1 (Same.refl H1)
   |dict ds=>cases qx
end
end Rk
def PySem.W.Fast.tw15700666018546216728:Nat:=0
def PySem.W.Fast.tw8363905947544655740:Nat:=0
def PySem.W.Fast.tw6366206830775316483:Nat:=0
def PySem.W.Fast.tw5977062676571765992:Nat:=0
def PySem.W.Fast.tw7200338516943392932:Nat:=0
def PySem.W.Fast.tw5010838448002919425:Nat:=0
def PySem.W.Fast.tw8198704034390785805:Nat:=0
def PySem.W.Fast.tw8867333858988715180:Nat:=0
def PySem.W.Fast.tw12043360792539617947:Nat:=0
def PySem.W.Fast.tw17803713561413856349:Nat:=0
def PySem.W.Fast.tw5002073231571359395:Nat:=0
def PySem.W.Fast.tw13898592502024419497:Nat:=0
def PySem.W.Fast.tw8592196966943844372:Nat:=0
def PySem.W.Fast.tw12570778066289519822:Nat:=0
def PySem.W.Fast.tw8426428680517267785:Nat:=0
def PySem.W.Fast.tw8695240368977111507:Nat:=0
def PySem.W.Fast.tw1079298377770887579:Nat:=0
def PySem.W.Fast.tw5599723300199782846:Nat:=0
def PySem.W.Fast.tw15287738168675149452:Nat:=0
def PySem.W.Fast.tw3748820725248459510:Nat:=0
def PySem.W.Fast.tw8152313160090119775:Nat:=0
def PySem.W.Fast.tw337528010562869011:Nat:=0
def PySem.W.Fast.tw1183812371412296486:Nat:=0
def PySem.W.Fast.tw17429979760839621602:Nat:=0
def PySem.W.Fast.tw1546835262599218488:Nat:=0
def PySem.W.Fast.tw8904163391245886892:Nat:=0
def PySem.W.Fast.tw2090453031121175804:Nat:=0
def PySem.W.Fast.tw14332893269250682144:Nat:=0
def PySem.W.Fast.tw1201957545163886130:Nat:=0
def PySem.W.Fast.tw9734813762986700910:Nat:=0
def PySem.W.Fast.tw4290842093283488898:Nat:=0
def PySem.W.Fast.tw6810291775688500357:Nat:=0
def PySem.W.Fast.tw6958256536720088788:Nat:=0
def PySem.W.Fast.tw4840476427676580892:Nat:=0
def PySem.W.Fast.tw18431476539718692350:Nat:=0
def PySem.W.Fast.tw6972713622415811897:Nat:=0
def PySem.W.Fast.tw16494132427423117672:Nat:=0
def PySem.W.Fast.tw15911184492840724935:Nat:=0
def PySem.W.Fast.tw11426989737160436789:Nat:=0
def PySem.W.Fast.tw3404537778724866288:Nat:=0
def PySem.W.Fast.tw12297353962869774418:Nat:=0
def PySem.W.Fast.tw14196048879446894492:Nat:=0
def PySem.W.Fast.tw897955759785739413:Nat:=0
def PySem.W.Fast.tw15422116628539254158:Nat:=0
def PySem.W.Fast.tw1421137497237807012:Nat:=0
def PySem.W.Fast.tw16994752621263684162:Nat:=0
def PySem.W.Fast.tw14424488599308480043:Nat:=0
def PySem.W.Fast.tw5029287544813810032:Nat:=0
def PySem.W.Fast.tw7507257624412257226:Nat:=0
def PySem.W.Fast.tw5431275603880122998:Nat:=0
def PySem.W.Fast.tw11175391255900197084:Nat:=0
def PySem.W.Fast.tw8502637165143340546:Nat:=0
def PySem.W.Fast.tw1961843500531249827:Nat:=0
def PySem.W.Fast.tw12412224370167162462:Nat:=0
def PySem.W.Fast.tw213850752854549598:Nat:=0
def PySem.W.Fast.tw17733656296079184481:Nat:=0
def PySem.W.Fast.tw9136259748351930356:Nat:=0
def PySem.W.Fast.tw5807665498596303176:Nat:=0
def PySem.W.Fast.tw11182721114942703736:Nat:=0
def PySem.W.Fast.tw13282715458594544661:Nat:=0
def PySem.W.Fast.tw12449850236235778060:Nat:=0
def PySem.W.Fast.tw5146854744129336994:Nat:=0
def PySem.W.Fast.tw15292958457299405655:Nat:=0
def PySem.W.Fast.tw3360494624486805902:Nat:=0
def PySem.W.Fast.tw11946704346647830471:Nat:=0
def PySem.W.Fast.tw278969292960131508:Nat:=0
def PySem.W.Fast.tw18339921187854867792:Nat:=0
def PySem.W.Fast.tw11114936129481487887:Nat:=0
def PySem.W.Fast.tw12275635210632166973:Nat:=0
def PySem.W.Fast.tw10768777203281022880:Nat:=0
def PySem.W.Fast.tw10945055021890543715:Nat:=0
def PySem.W.Fast.tw16598475601592146755:Nat:=0
def PySem.W.Fast.tw3106747366044663407:Nat:=0
def PySem.W.Fast.tw1347351121987962221:Nat:=0
def PySem.W.Fast.tw17678186961750706856:Nat:=0
def PySem.W.Fast.tw11015140672292275769:Nat:=0
def PySem.W.Fast.tw8661477039279051326:Nat:=0
def PySem.W.Fast.tw7830224358395789684:Nat:=0
def PySem.W.Fast.tw648696744166241758:Nat:=0
def PySem.W.Fast.tw7962473896962656260:Nat:=0
def PySem.W.Fast.tw4147331951746814126:Nat:=0
def PySem.W.Fast.tw12014612974880849136:Nat:=0
def PySem.W.Fast.tw11550816345760731355:Nat:=0
def PySem.W.Fast.tw3814169387790263481:Nat:=0
def PySem.W.Fast.tw1596229298224581331:Nat:=0
def PySem.W.Fast.tw13870946158364653436:Nat:=0
def PySem.W.Fast.tw4472350140915528217:Nat:=0
def PySem.W.Fast.tw18173935720622747977:Nat:=0
def PySem.W.Fast.tw11504504018921160675:Nat:=0
def PySem.W.Fast.tw10502817974953817335:Nat:=0
def PySem.W.Fast.tw12517724107163381415:Nat:=0
def PySem.W.Fast.tw9720595563159880189:Nat:=0
def PySem.W.Fast.tw372735127394818337:Nat:=0
def PySem.W.Fast.tw8475172759370169065:Nat:=0
def PySem.W.Fast.tw5800698075385013682:Nat:=0
def PySem.W.Fast.tw12701031182434155297:Nat:=0
def PySem.W.Fast.tw14037992780802808853:Nat:=0
def PySem.W.Fast.tw15714608233044924495:Nat:=0
def PySem.W.Fast.tw17514566408164556027:Nat:=0
def PySem.W.Fast.tw1724840219519290292:Nat:=0
def PySem.W.Fast.tw13525889085438520249:Nat:=0
def PySem.W.Fast.tw17516692332050508407:Nat:=0
def PySem.W.Fast.tw17552232198583587330:Nat:=0
def PySem.W.Fast.tw11241580069033152247:Nat:=0
def PySem.W.Fast.tw8986978007557430816:Nat:=0
def PySem.W.Fast.tw10055587097510510922:Nat:=0
def PySem.W.Fast.tw7617374690347477334:Nat:=0
def PySem.W.Fast.tw9204691166099169769:Nat:=0
def PySem.W.Fast.tw5182077057093933304:Nat:=0
def PySem.W.Fast.tw703079181384323362:Nat:=0
def PySem.W.Fast.tw10932054996470524228:Nat:=0
def PySem.W.Fast.tw12774835692295865570:Nat:=0
def PySem.W.Fast.tw1197292987489671578:Nat:=0
def PySem.W.Fast.tw12756089238320785055:Nat:=0
def PySem.W.Fast.tw6822258995824842703:Nat:=0
def PySem.W.Fast.tw14769007389735272054:Nat:=0
def PySem.W.Fast.tw12979264113689039209:Nat:=0
def PySem.W.Fast.tw18057792357409172382:Nat:=0
def PySem.W.Fast.tw5662174976861859853:Nat:=0
def PySem.W.Fast.tw5169367010284438204:Nat:=0
def PySem.W.Fast.tw17388419551801739766:Nat:=0
def PySem.W.Fast.tw6780171576832833392:Nat:=0
def PySem.W.Fast.tw16923910569724272460:Nat:=0
def PySem.W.Fast.tw9143699094142705786:Nat:=0
def PySem.W.Fast.tw9660882862795879669:Nat:=0
def PySem.W.Fast.tw4283063402109221240:Nat:=0
def PySem.W.Fast.tw5651714037360766715:Nat:=0
def PySem.W.Fast.tw3326575033231375517:Nat:=0
def PySem.W.Fast.tw7714915905949863848:Nat:=0
def PySem.W.Fast.tw17111591269836303806:Nat:=0
def PySem.W.Fast.tw10096365388112512826:Nat:=0
def PySem.W.Fast.tw9072256574445264299:Nat:=0
def PySem.W.Fast.tw4265445451287486217:Nat:=0
def PySem.W.Fast.tw11699507355016394445:Nat:=0
def PySem.W.Fast.tw15371972328397729397:Nat:=0
def PySem.W.Fast.tw6780762338362896661:Nat:=0
def PySem.W.Fast.tw16564030992284257334:Nat:=0
def PySem.W.Fast.tw9213161834589281540:Nat:=0
def PySem.W.Fast.tw3162017097158587228:Nat:=0
def PySem.W.Fast.tw9897967429573303893:Nat:=0
def PySem.W.Fast.tw15701249303680498815:Nat:=0
def PySem.W.Fast.tw4788029863630035544:Nat:=0
def PySem.W.Fast.tw9817367353616972827:Nat:=0
def PySem.W.Fast.tw16417211816272926249:Nat:=0
def PySem.W.Fast.tw10113474475977786903:Nat:=0
def PySem.W.Fast.tw11974308676962377128:Nat:=0
def PySem.W.Fast.tw8886609960940666771:Nat:=0
def PySem.W.Fast.tw5832445321906284227:Nat:=0
def PySem.W.Fast.tw11349426183073231670:Nat:=0
def PySem.W.Fast.tw1908270230446112536:Nat:=0
def PySem.W.Fast.tw3640545319994324754:Nat:=0
def PySem.W.Fast.tw6983353181129207610:Nat:=0
def PySem.W.Fast.tw18387664923039870602:Nat:=0
def PySem.W.Fast.tw866507994034673995:Nat:=0
def PySem.W.Fast.tw14745676401422950652:Nat:=0
def PySem.W.Fast.tw1754111795329772273:Nat:=0
def PySem.W.Fast.tw12881170711559553684:Nat:=0
def PySem.W.Fast.tw11158031186137720236:Nat:=0
def PySem.W.Fast.tw5813319834574905863:Nat:=0
def PySem.W.Fast.tw7780230335845626551:Nat:=0
def PySem.W.Fast.tw17214809255673577814:Nat:=0
def PySem.W.Fast.tw13945691175433409647:Nat:=0
def PySem.W.Fast.tw4756908971359927321:Nat:=0
def PySem.W.Fast.tw6074375070342092391:Nat:=0
def PySem.W.Fast.tw4254946244726816785:Nat:=0
def PySem.W.Fast.tw11031584776688526067:Nat:=0
def PySem.W.Fast.tw3142884245116763816:Nat:=0
def PySem.W.Fast.tw16279624914510997924:Nat:=0
def PySem.W.Fast.tw17613861698818557477:Nat:=0
def PySem.W.Fast.tw5223375071374723187:Nat:=0
def PySem.W.Fast.tw5335292070814724401:Nat:=0
def PySem.W.Fast.tw8571728194245669600:Nat:=0
def PySem.W.Fast.tw12421517236224119090:Nat:=0
def PySem.W.Fast.tw11397740288576788326:Nat:=0
def PySem.W.Fast.tw1109839969311553977:Nat:=0
def PySem.W.Fast.tw16238700989015746633:Nat:=0
def PySem.W.Fast.tw7559943158825411584:Nat:=0
def PySem.W.Fast.tw4262614062673508950:Nat:=0
def PySem.W.Fast.tw15667529107492353864:Nat:=0
def PySem.W.Fast.tw3184355027121163020:Nat:=0
def PySem.W.Fast.tw15511546247595044736:Nat:=0
def PySem.W.Fast.tw17979296632510974060:Nat:=0
def PySem.W.Fast.tw283531601749894423:Nat:=0
def PySem.W.Fast.tw17530167010374775616:Nat:=0
def PySem.W.Fast.tw18425795219436361454:Nat:=0
def PySem.W.Fast.tw14595784248916657838:Nat:=0
def PySem.W.Fast.tw10332969807646442341:Nat:=0
def PySem.W.Fast.tw6491261485037963947:Nat:=0
def PySem.W.Fast.tw12291481508774504881:Nat:=0
def PySem.W.Fast.tw6423073351701808503:Nat:=0
def PySem.W.Fast.tw17050103366736563910:Nat:=0
def PySem.W.Fast.tw6687263231441523639:Nat:=0
def PySem.W.Fast.tw4266335195806496918:Nat:=0
def PySem.W.Fast.tw10987539735126856433:Nat:=0
def PySem.W.Fast.tw10485361841967168102:Nat:=0
def PySem.W.Fast.tw14887363660041428839:Nat:=0
def PySem.W.Fast.tw18427763542951413849:Nat:=0
def PySem.W.Fast.tw9649017834958353447:Nat:=0
def PySem.W.Fast.tw127523388346801291:Nat:=0
def PySem.W.Fast.tw9328409751248640119:Nat:=0
def PySem.W.Fast.tw14409217570485516914:Nat:=0
def PySem.W.Fast.tw2090823944542555676:Nat:=0
def PySem.W.Fast.tw3565730947128895635:Nat:=0
def PySem.W.Fast.tw13372161954114854805:Nat:=0
def PySem.W.Fast.tw11072392731607533468:Nat:=0
def PySem.W.Fast.tw9737984372230219415:Nat:=0
def PySem.W.Fast.tw6988051578811624944:Nat:=0
def PySem.W.Fast.tw5600468280410709953:Nat:=0
def PySem.W.Fast.tw18171570437193969484:Nat:=0
def PySem.W.Fast.tw15156851047076252138:Nat:=0
def PySem.W.Fast.tw13826253542151627115:Nat:=0
def PySem.W.Fast.tw12489156969634903973:Nat:=0
def PySem.W.Fast.tw17395102884021963100:Nat:=0
def PySem.W.Fast.tw2910324781905788224:Nat:=0
def PySem.W.Fast.tw13260685371503396865:Nat:=0
def PySem.W.Fast.tw12676053211990999821:Nat:=0
def PySem.W.Fast.tw277343182342675441:Nat:=0
def PySem.W.Fast.tw11986006689512319519:Nat:=0
def PySem.W.Fast.tw8765150603047438077:Nat:=0
def PySem.W.Fast.tw17420600486473353825:Nat:=0
def PySem.W.Fast.tw10770945437575152263:Nat:=0
def PySem.W.Fast.tw3394403378699979185:Nat:=0
def PySem.W.Fast.tw1577823642823798525:Nat:=0
def PySem.W.Fast.tw15339658418606035495:Nat:=0
def PySem.W.Fast.tw2644804548471983032:Nat:=0
def PySem.W.Fast.tw10231505369551074714:Nat:=0
def PySem.W.Fast.tw17974948353593093053:Nat:=0
def PySem.W.Fast.tw8511996174022114656:Nat:=0
def PySem.W.Fast.tw11147119657528077969:Nat:=0
def PySem.W.Fast.tw4103936403666968200:Nat:=0
def PySem.W.Fast.tw9042000710356018741:Nat:=0
def PySem.W.Fast.tw4241230289181240927:Nat:=0
def PySem.W.Fast.tw7985870551278656103:Nat:=0
def PySem.W.Fast.tw17406258161711415952:Nat:=0
def PySem.W.Fast.tw13263627563338786655:Nat:=0
def PySem.W.Fast.tw8165233414596960110:Nat:=0
def PySem.W.Fast.tw6097371525065809665:Nat:=0
def PySem.W.Fast.tw4474838878679325206:Nat:=0
def PySem.W.Fast.tw16240428309307362776:Nat:=0
def PySem.W.Fast.tw17500141834920076965:Nat:=0
def PySem.W.Fast.tw8706975088754548839:Nat:=0
def PySem.W.Fast.tw11327393856547754311:Nat:=0
def PySem.W.Fast.tw465360521805441077:Nat:=0
def PySem.W.Fast.tw9105271697243059202:Nat:=0
def PySem.W.Fast.tw9322429410802395827:Nat:=0
def PySem.W.Fast.tw4333208583683713687:Nat:=0
def PySem.W.Fast.tw17354393958049665251:Nat:=0
def PySem.W.Fast.tw5257496206946006413:Nat:=0
def PySem.W.Fast.tw5065871892150094340:Nat:=0
def PySem.W.Fast.tw4598665012315208373:Nat:=0
def PySem.W.Fast.tw6255922922592065372:Nat:=0
def PySem.W.Fast.tw8395423544191633627:Nat:=0
def PySem.W.Fast.tw18435070778907956285:Nat:=0
def PySem.W.Fast.tw1621361175309891731:Nat:=0
def PySem.W.Fast.tw7131406522127341213:Nat:=0
def PySem.W.Fast.tw2930538321418949385:Nat:=0
def PySem.W.Fast.tw6279328052287591890:Nat:=0
def PySem.W.Fast.tw17088585642059334659:Nat:=0
def PySem.W.Fast.tw6270096895568161506:Nat:=0
def PySem.W.Fast.tw9552378118392484778:Nat:=0
def PySem.W.Fast.tw145273089477513336:Nat:=0
def PySem.W.Fast.tw1954590869129777905:Nat:=0
def PySem.W.Fast.tw17112406184099208118:Nat:=0
def PySem.W.Fast.tw15778460011791901946:Nat:=0
def PySem.W.Fast.tw8330869225987390545:Nat:=0
def PySem.W.Fast.tw8574154830124432859:Nat:=0
def PySem.W.Fast.tw4845234345414743512:Nat:=0
def PySem.W.Fast.tw10464928633613352632:Nat:=0
def PySem.W.Fast.tw10314335388945639030:Nat:=0
def PySem.W.Fast.tw5788102891947536050:Nat:=0
def PySem.W.Fast.tw3366460710821027145:Nat:=0
def PySem.W.Fast.tw3327290143331725057:Nat:=0
def PySem.W.Fast.tw7675157999764210034:Nat:=0
def PySem.W.Fast.tw1467084608423828605:Nat:=0
def PySem.W.Fast.tw14832869759473405509:Nat:=0
def PySem.W.Fast.tw416682798586854166:Nat:=0
def PySem.W.Fast.tw11081560891550689497:Nat:=0
def PySem.W.Fast.tw6544349943929260291:Nat:=0
def PySem.W.Fast.tw635054937660083360:Nat:=0
def PySem.W.Fast.tw5612529934289323267:Nat:=0
def PySem.W.Fast.tw15309737686967244995:Nat:=0
def PySem.W.Fast.tw491212031098031710:Nat:=0
def PySem.W.Fast.tw10122768261670874637:Nat:=0
def PySem.W.Fast.tw13454768249511364487:Nat:=0
def PySem.W.Fast.tw16670335120937896186:Nat:=0
def PySem.W.Fast.tw4674926146659413426:Nat:=0
def PySem.W.Fast.tw16448390488092579564:Nat:=0
def PySem.W.Fast.tw14819116502420688627:Nat:=0
def PySem.W.Fast.tw15498231144018330122:Nat:=0
def PySem.W.Fast.tw10893037878530927854:Nat:=0
def PySem.W.Fast.tw6593782897050219468:Nat:=0
def PySem.W.Fast.tw11246032373151343278:Nat:=0
def PySem.W.Fast.tw233442541284681167:Nat:=0
def PySem.W.Fast.tw16496922861507931337:Nat:=0
def PySem.W.Fast.tw15736925017944977988:Nat:=0
def PySem.W.Fast.tw9176817855480766738:Nat:=0
def PySem.W.Fast.tw13217486239319486558:Nat:=0
def PySem.W.Fast.tw7442649688802531139:Nat:=0
def PySem.W.Fast.tw2469017305152245913:Nat:=0
def PySem.W.Fast.tw10171319928248266793:Nat:=0
def PySem.W.Fast.tw8428242972970863660:Nat:=0
def PySem.W.Fast.tw1330929264796469342:Nat:=0
def PySem.W.Fast.tw15779848397672966894:Nat:=0
def PySem.W.Fast.tw7699335830225682465:Nat:=0
def PySem.W.Fast.tw5859318070079580977:Nat:=0
def PySem.W.Fast.tw1548799857030176090:Nat:=0
def PySem.W.Fast.tw2132647736963796787:Nat:=0
def PySem.W.Fast.tw12530129141572127793:Nat:=0
def PySem.W.Fast.tw7181860254119760136:Nat:=0
def PySem.W.Fast.tw10872395730284268217:Nat:=0
def PySem.W.Fast.tw5077923167915731238:Nat:=0
def PySem.W.Fast.tw14818774095492590479:Nat:=0
def PySem.W.Fast.tw14480716409341361207:Nat:=0
def PySem.W.Fast.tw8554704312746793828:Nat:=0
def PySem.W.Fast.tw4613032917389741495:Nat:=0
def PySem.W.Fast.tw5115705249314603301:Nat:=0
def PySem.W.Fast.tw14103756290185532342:Nat:=0
def PySem.W.Fast.tw3578467478607521403:Nat:=0
def PySem.W.Fast.tw14415098338105150999:Nat:=0
def PySem.W.Fast.tw18082298364860740184:Nat:=0
def PySem.W.Fast.tw8044353752226028281:Nat:=0
def PySem.W.Fast.tw240860787048017708:Nat:=0
def PySem.W.Fast.tw11730177728651230493:Nat:=0
def PySem.W.Fast.tw16186996980337880063:Nat:=0
def PySem.W.Fast.tw3814983864843250598:Nat:=0
def PySem.W.Fast.tw2228562981193440230:Nat:=0
namespace Rk
open L2 Dl
def Qek(p d c m u:Addr):Str->Addr:=λs=>if s = "place" then p else if s = "double" then d else if s = "cell" then c else if s = "many" then m else u
theorem QnA(p d c m u:Addr):Qek p d c m u "place" = p:=if_pos rfl
theorem QkC(p d c m u:Addr):Qek p d c m u "double" = d:=(if_neg (by decide +kernel)).trans (if_pos rfl)
theorem QrN(p d c m u:Addr):Qek p d c m u "cell" = c:=(if_neg (by decide +kernel)).trans ((if_neg (by decide +kernel)).trans (if_pos rfl))
theorem QrL(p d c m u:Addr):Qek p d c m u "many" = m:=(if_neg (by decide +kernel)).trans ((if_neg (by decide +kernel)).trans ((if_neg (by decide +kernel)).trans (if_pos rfl)))
theorem QrM(p d c m u:Addr):Qek p d c m u "deed" = u:=(if_neg (by decide +kernel)).trans ((if_neg (by decide +kernel)).trans ((if_neg (by decide +kernel)).trans (if_neg (by decide +kernel))))
theorem Qwz{l:PySem.W.OpenLaw}{w:Ja}{K:PySem.W.Frag}{h:JR}{mg:Str->Option Value}{fa f1 f2 f3 f4 f5 f6 f7 f8 f9 f10 f11 f12 f13 f14 f15 f16 f17 f18 f19 f20 f21 f22 f23 f24 f25 f26 f27 f28 f29 f30 f31 f32 f33 f34 f35 f36 f37 f38 f39 f40 f41 f42:Addr}(X:K.In h)(G:h.Ns mainGlobals mg)(hfa:mg "law" = some (.ref fa))
  {od1 an1 od2 an2 od3 an3 od4 an4 od5 an5 od6 an6 od7 an7 od8 an8 od9 an9 od10 an10 od11 an11 od12 an12 od13 an13 od14 an14 od15 an15 od16 an16 od17 an17 od18 an18 od19 an19 od20 an20 od21 an21 od22 an22 od23 an23 od24 an24 od25 an25 od26 an26 od27 an27 od28 an28 od29 an29 od30 an30 od31 an31 od32 an32 od33 an33 od34 an34 od35 an35 od36 an36 od37 an37 od38 an38 od39 an39 od40 an40 od41 an41 od42 an42:Option Addr} {sl1 sl2 sl3 sl4 sl5 sl6 sl7 sl8 sl9 sl10 sl11 sl12 sl13 sl14 sl15 sl16 sl17 sl18 sl19 sl20 sl21 sl22 sl23 sl24 sl25 sl26 sl27 sl28 sl29 sl30 sl31 sl32 sl33 sl34 sl35 sl36 sl37 sl38 sl39 sl40 sl41 sl42:Array (Option Value)} {oc1 kV1 dc1 pm1 cd1 ct1 oc2 kV2 dc2 pm2 cd2 ct2 oc3 kV3 dc3 pm3 cd3 ct3 oc4 kV4 dc4 pm4 cd4 ct4 oc5 kV5 dc5 pm5 cd5 ct5 oc6 kV6 dc6 pm6 cd6 ct6 oc7 kV7 dc7 pm7 cd7 ct7 oc8 kV8 dc8 pm8 cd8 ct8 oc9 kV9 dc9 pm9 cd9 ct9 oc10 kV10 dc10 pm10 cd10 ct10 oc11 kV11 dc11 pm11 cd11 ct11 oc12 kV12 dc12 pm12 cd12 ct12 oc13 kV13 dc13 pm13 cd13 ct13 oc14 kV14 dc14 pm14 cd14 ct14 oc15 kV15 dc15 pm15 cd15 ct15 oc16 kV16 dc16 pm16 cd16 ct16 oc17 kV17 dc17 pm17 cd17 ct17 oc18 kV18 dc18 pm18 cd18 ct18 oc19 kV19 dc19 pm19 cd19 ct19 oc20 kV20 dc20 pm20 cd20 ct20 oc21 kV21 dc21 pm21 cd21 ct21 oc22 kV22 dc22 pm22 cd22 ct22 oc23 kV23 dc23 pm23 cd23 ct23 oc24 kV24 dc24 pm24 cd24 ct24 oc25 kV25 dc25 pm25 cd25 ct25 oc26 kV26 dc26 pm26 cd26 ct26 oc27 kV27 dc27 pm27 cd27 ct27 oc28 kV28 dc28 pm28 cd28 ct28 oc29 kV29 dc29 pm29 cd29 ct29 oc30 kV30 dc30 pm30 cd30 ct30 oc31 kV31 dc31 pm31 cd31 ct31 oc32 kV32 dc32 pm32 cd32 ct32 oc33 kV33 dc33 pm33 cd33 ct33 oc34 kV34 dc34 pm34 cd34 ct34 oc35 kV35 dc35 pm35 cd35 ct35 oc36 kV36 dc36 pm36 cd36 ct36 oc37 kV37 dc37 pm37 cd37 ct37 oc38 kV38 dc38 pm38 cd38 ct38 oc39 kV39 dc39 pm39 cd39 ct39 oc40 kV40 dc40 pm40 cd40 ct40 oc41 kV41 dc41 pm41 cd41 ct41 oc42 kV42 dc42 pm42 cd42 ct42:Value}
  {CBench:Addr} (aCBench:PySem.W.nsIn K mainGlobals "Bench" = some (some (.ref CBench)))
  (pgBench:PySem.W.plainGet K CBench Str.empty=true)
  (hdBench:PySem.W.hasDictIn K CBench=true)
  (poBench:PySem.W.plainOver K CBench=true)
  (saBench:PySem.W.findIn K (.ref CBench) "__setattr__" = some (some (.builtin "object.__setattr__")))
  (mkBench:PySem.W.makesIn K CBench=true)
  (kcBench:PySem.W.keepIn K (.ref CBench)=true)
  (naBenchkept:PySem.W.findIn K (.ref CBench) "kept" = some none)
  (naBenchearlier:PySem.W.findIn K (.ref CBench) "earlier" = some none)
  (a1:PySem.W.nsIn K mainGlobals "is_whole" = some (some (.ref f1)))(l1:K.lookup f1=some ⟨oc1,od1,.func (PySem.W.fnOf "is_whole" "is_whole" (Jk QeJ) (Q7 QeJ) (Qm QeJ) .none kV1 dc1 pm1 an1 cd1 ct1),sl1⟩)(c1:PySem.W.codeIn K cd1 "is_whole" = true)(k1:PySem.W.keepIn K (.ref f1)=true)
  (a2:PySem.W.nsIn K mainGlobals "is_whole_within" = some (some (.ref f2)))(l2:K.lookup f2=some ⟨oc2,od2,.func (PySem.W.fnOf "is_whole_within" "is_whole_within" (Jk QcP) (Q7 QcP) (Qm QcP) .none kV2 dc2 pm2 an2 cd2 ct2),sl2⟩)(c2:PySem.W.codeIn K cd2 "is_whole_within" = true)(k2:PySem.W.keepIn K (.ref f2)=true)
  (a3:PySem.W.nsIn K mainGlobals "is_place" = some (some (.ref f3)))(l3:K.lookup f3=some ⟨oc3,od3,.func (PySem.W.fnOf "is_place" "is_place" (Jk QeL) (Q7 QeL) (Qm QeL) .none kV3 dc3 pm3 an3 cd3 ct3),sl3⟩)(c3:PySem.W.codeIn K cd3 "is_place" = true)(k3:PySem.W.keepIn K (.ref f3)=true)
  (a4:PySem.W.nsIn K mainGlobals "turned" = some (some (.ref f4)))(l4:K.lookup f4=some ⟨oc4,od4,.func (PySem.W.fnOf "turned" "turned" (Jk Qjg) (Q7 Qjg) (Qm Qjg) .none kV4 dc4 pm4 an4 cd4 ct4),sl4⟩)(c4:PySem.W.codeIn K cd4 "turned" = true)(k4:PySem.W.keepIn K (.ref f4)=true)
  (a5:PySem.W.nsIn K mainGlobals "rest" = some (some (.ref f5)))(l5:K.lookup f5=some ⟨oc5,od5,.func (PySem.W.fnOf "rest" "rest" (Jk QeK) (Q7 QeK) (Qm QeK) .none kV5 dc5 pm5 an5 cd5 ct5),sl5⟩)(c5:PySem.W.codeIn K cd5 "rest" = true)(k5:PySem.W.keepIn K (.ref f5)=true)
  (a6:PySem.W.nsIn K mainGlobals "without" = some (some (.ref f6)))(l6:K.lookup f6=some ⟨oc6,od6,.func (PySem.W.fnOf "without" "without" (Jk sWo) (Q7 sWo) (Qm sWo) .none kV6 dc6 pm6 an6 cd6 ct6),sl6⟩)(c6:PySem.W.codeIn K cd6 "without" = true)(k6:PySem.W.keepIn K (.ref f6)=true)
  (a7:PySem.W.nsIn K mainGlobals "refuse_no_cell" = some (some (.ref f7)))(l7:K.lookup f7=some ⟨oc7,od7,.func (PySem.W.fnOf "refuse_no_cell" "refuse_no_cell" (Jk Qjh) (Q7 Qjh) (Qm Qjh) .none kV7 dc7 pm7 an7 cd7 ct7),sl7⟩)(c7:PySem.W.codeIn K cd7 "refuse_no_cell" = true)(k7:PySem.W.keepIn K (.ref f7)=true)
  (a8:PySem.W.nsIn K mainGlobals "counts" = some (some (.ref f8)))(l8:K.lookup f8=some ⟨oc8,od8,.func (PySem.W.fnOf "counts" "counts" (Jk QcQ) (Q7 QcQ) (Qm QcQ) .none kV8 dc8 pm8 an8 cd8 ct8),sl8⟩)(c8:PySem.W.codeIn K cd8 "counts" = true)(k8:PySem.W.keepIn K (.ref f8)=true)
  (a9:PySem.W.nsIn K mainGlobals "most_size" = some (some (.ref f9)))(l9:K.lookup f9=some ⟨oc9,od9,.func (PySem.W.fnOf "most_size" "most_size" (Jk Qji) (Q7 Qji) (Qm Qji) .none kV9 dc9 pm9 an9 cd9 ct9),sl9⟩)(c9:PySem.W.codeIn K cd9 "most_size" = true)(k9:PySem.W.keepIn K (.ref f9)=true)
  (a10:PySem.W.nsIn K mainGlobals "ways_to_go_on" = some (some (.ref f10)))(l10:K.lookup f10=some ⟨oc10,od10,.func (PySem.W.fnOf "ways_to_go_on" "ways_to_go_on" (Jk Qjf) (Q7 Qjf) (Qm Qjf) .none kV10 dc10 pm10 an10 cd10 ct10),sl10⟩)(c10:PySem.W.codeIn K cd10 "ways_to_go_on" = true)(k10:PySem.W.keepIn K (.ref f10)=true)
  (a11:PySem.W.nsIn K mainGlobals "ways_with_row" = some (some (.ref f11)))(l11:K.lookup f11=some ⟨oc11,od11,.func (PySem.W.fnOf "ways_with_row" "ways_with_row" (Jk sRow) (Q7 sRow) (Qm sRow) .none kV11 dc11 pm11 an11 cd11 ct11),sl11⟩)(c11:PySem.W.codeIn K cd11 "ways_with_row" = true)(k11:PySem.W.keepIn K (.ref f11)=true)
  (a12:PySem.W.nsIn K mainGlobals "greatest_size" = some (some (.ref f12)))(l12:K.lookup f12=some ⟨oc12,od12,.func (PySem.W.fnOf "greatest_size" "greatest_size" (Jk QeM) (Q7 QeM) (Qm QeM) .none kV12 dc12 pm12 an12 cd12 ct12),sl12⟩)(c12:PySem.W.codeIn K cd12 "greatest_size" = true)(k12:PySem.W.keepIn K (.ref f12)=true)
  (a13:PySem.W.nsIn K mainGlobals "refuse_no_place" = some (some (.ref f13)))(l13:K.lookup f13=some ⟨oc13,od13,.func (PySem.W.fnOf "refuse_no_place" "refuse_no_place" (Jk sRnp) (Q7 sRnp) (Qm sRnp) .none kV13 dc13 pm13 an13 cd13 ct13),sl13⟩)(c13:PySem.W.codeIn K cd13 "refuse_no_place" = true)(k13:PySem.W.keepIn K (.ref f13)=true)
  (a14:PySem.W.nsIn K mainGlobals "refuse_too_many" = some (some (.ref f14)))(l14:K.lookup f14=some ⟨oc14,od14,.func (PySem.W.fnOf "refuse_too_many" "refuse_too_many" (Jk sRtm) (Q7 sRtm) (Qm sRtm) .none kV14 dc14 pm14 an14 cd14 ct14),sl14⟩)(c14:PySem.W.codeIn K cd14 "refuse_too_many" = true)(k14:PySem.W.keepIn K (.ref f14)=true)
  (a15:PySem.W.findIn K (.ref CBench) "__init__" = some (some (.ref f15)))(i15:PySem.W.isFn K (.ref f15)=true)(l15:K.lookup f15=some ⟨oc15,od15,.func (PySem.W.fnOf "__init__" "Bench.__init__" (Jk Qj7) (Q7 Qj7) (Qm Qj7) .none kV15 dc15 pm15 an15 cd15 ct15),sl15⟩)(c15:PySem.W.codeIn K cd15 "Bench.__init__" = true)(k15:PySem.W.keepIn K (.ref f15)=true)
  (a16:PySem.W.findIn K (.ref CBench) "put" = some (some (.ref f16)))(i16:PySem.W.isFn K (.ref f16)=true)(l16:K.lookup f16=some ⟨oc16,od16,.func (PySem.W.fnOf "put" "Bench.put" (Jk bPut) (Q7 bPut) (Qm bPut) .none kV16 dc16 pm16 an16 cd16 ct16),sl16⟩)(c16:PySem.W.codeIn K cd16 "Bench.put" = true)(k16:PySem.W.keepIn K (.ref f16)=true)
  (a17:PySem.W.findIn K (.ref CBench) "take" = some (some (.ref f17)))(i17:PySem.W.isFn K (.ref f17)=true)(l17:K.lookup f17=some ⟨oc17,od17,.func (PySem.W.fnOf "take" "Bench.take" (Jk Qj3) (Q7 Qj3) (Qm Qj3) .none kV17 dc17 pm17 an17 cd17 ct17),sl17⟩)(c17:PySem.W.codeIn K cd17 "Bench.take" = true)(k17:PySem.W.keepIn K (.ref f17)=true)
  (a18:PySem.W.findIn K (.ref CBench) "row" = some (some (.ref f18)))(i18:PySem.W.isFn K (.ref f18)=true)(l18:K.lookup f18=some ⟨oc18,od18,.func (PySem.W.fnOf "row" "Bench.row" (Jk bRow) (Q7 bRow) (Qm bRow) .none kV18 dc18 pm18 an18 cd18 ct18),sl18⟩)(c18:PySem.W.codeIn K cd18 "Bench.row" = true)(k18:PySem.W.keepIn K (.ref f18)=true)
  (a19:PySem.W.findIn K (.ref CBench) "column" = some (some (.ref f19)))(i19:PySem.W.isFn K (.ref f19)=true)(l19:K.lookup f19=some ⟨oc19,od19,.func (PySem.W.fnOf "column" "Bench.column" (Jk bCol) (Q7 bCol) (Qm bCol) .none kV19 dc19 pm19 an19 cd19 ct19),sl19⟩)(c19:PySem.W.codeIn K cd19 "Bench.column" = true)(k19:PySem.W.keepIn K (.ref f19)=true)
  (a20:PySem.W.findIn K (.ref CBench) "turn" = some (some (.ref f20)))(i20:PySem.W.isFn K (.ref f20)=true)(l20:K.lookup f20=some ⟨oc20,od20,.func (PySem.W.fnOf "turn" "Bench.turn" (Jk Qj2) (Q7 Qj2) (Qm Qj2) .none kV20 dc20 pm20 an20 cd20 ct20),sl20⟩)(c20:PySem.W.codeIn K cd20 "Bench.turn" = true)(k20:PySem.W.keepIn K (.ref f20)=true)
  (a21:PySem.W.findIn K (.ref CBench) "rest" = some (some (.ref f21)))(i21:PySem.W.isFn K (.ref f21)=true)(l21:K.lookup f21=some ⟨oc21,od21,.func (PySem.W.fnOf "rest" "Bench.rest" (Jk Qj4) (Q7 Qj4) (Qm Qj4) .none kV21 dc21 pm21 an21 cd21 ct21),sl21⟩)(c21:PySem.W.codeIn K cd21 "Bench.rest" = true)(k21:PySem.W.keepIn K (.ref f21)=true)
  (a22:PySem.W.findIn K (.ref CBench) "undo" = some (some (.ref f22)))(i22:PySem.W.isFn K (.ref f22)=true)(l22:K.lookup f22=some ⟨oc22,od22,.func (PySem.W.fnOf "undo" "Bench.undo" (Jk Qj1) (Q7 Qj1) (Qm Qj1) .none kV22 dc22 pm22 an22 cd22 ct22),sl22⟩)(c22:PySem.W.codeIn K cd22 "Bench.undo" = true)(k22:PySem.W.keepIn K (.ref f22)=true)
  (a23:PySem.W.findIn K (.ref CBench) "keep" = some (some (.ref f23)))(i23:PySem.W.isFn K (.ref f23)=true)(l23:K.lookup f23=some ⟨oc23,od23,.func (PySem.W.fnOf "keep" "Bench.keep" (Jk Qj6) (Q7 Qj6) (Qm Qj6) .none kV23 dc23 pm23 an23 cd23 ct23),sl23⟩)(c23:PySem.W.codeIn K cd23 "Bench.keep" = true)(k23:PySem.W.keepIn K (.ref f23)=true)
  (a24:PySem.W.findIn K (.ref CBench) "board" = some (some (.ref f24)))(i24:PySem.W.isFn K (.ref f24)=true)(l24:K.lookup f24=some ⟨oc24,od24,.func (PySem.W.fnOf "board" "Bench.board" (Jk Qe9) (Q7 Qe9) (Qm Qe9) .none kV24 dc24 pm24 an24 cd24 ct24),sl24⟩)(c24:PySem.W.codeIn K cd24 "Bench.board" = true)(k24:PySem.W.keepIn K (.ref f24)=true)
  (a25:PySem.W.findIn K (.ref CBench) "counts" = some (some (.ref f25)))(i25:PySem.W.isFn K (.ref f25)=true)(l25:K.lookup f25=some ⟨oc25,od25,.func (PySem.W.fnOf "counts" "Bench.counts" (Jk Qc5) (Q7 Qc5) (Qm Qc5) .none kV25 dc25 pm25 an25 cd25 ct25),sl25⟩)(c25:PySem.W.codeIn K cd25 "Bench.counts" = true)(k25:PySem.W.keepIn K (.ref f25)=true)
  (a26:PySem.W.findIn K (.ref CBench) "most" = some (some (.ref f26)))(i26:PySem.W.isFn K (.ref f26)=true)(l26:K.lookup f26=some ⟨oc26,od26,.func (PySem.W.fnOf "most" "Bench.most" (Jk Qj5) (Q7 Qj5) (Qm Qj5) .none kV26 dc26 pm26 an26 cd26 ct26),sl26⟩)(c26:PySem.W.codeIn K cd26 "Bench.most" = true)(k26:PySem.W.keepIn K (.ref f26)=true)
  (a27:PySem.W.nsIn K mainGlobals "_law_cell_at" = some (some (.ref f27)))(l27:K.lookup f27=some ⟨oc27,od27,.func (PySem.W.fnOf "_law_cell_at" "_law_cell_at" (Jk QcX) (Q7 QcX) (Qm QcX) .none kV27 dc27 pm27 an27 cd27 ct27),sl27⟩)(c27:PySem.W.codeIn K cd27 "_law_cell_at" = true)(k27:PySem.W.keepIn K (.ref f27)=true)
  (a28:PySem.W.nsIn K mainGlobals "_law_pot" = some (some (.ref f28)))(l28:K.lookup f28=some ⟨oc28,od28,.func (PySem.W.fnOf "_law_pot" "_law_pot" (Jk lPot) (Q7 lPot) (Qm lPot) .none kV28 dc28 pm28 an28 cd28 ct28),sl28⟩)(c28:PySem.W.codeIn K cd28 "_law_pot" = true)(k28:PySem.W.keepIn K (.ref f28)=true)
  (a29:PySem.W.nsIn K mainGlobals "_law_take" = some (some (.ref f29)))(l29:K.lookup f29=some ⟨oc29,od29,.func (PySem.W.fnOf "_law_take" "_law_take" (Jk Qjz) (Q7 Qjz) (Qm Qjz) .none kV29 dc29 pm29 an29 cd29 ct29),sl29⟩)(c29:PySem.W.codeIn K cd29 "_law_take" = true)(k29:PySem.W.keepIn K (.ref f29)=true)
  (a30:PySem.W.nsIn K mainGlobals "_law_deed" = some (some (.ref f30)))(l30:K.lookup f30=some ⟨oc30,od30,.func (PySem.W.fnOf "_law_deed" "_law_deed" (Jk QjF) (Q7 QjF) (Qm QjF) .none kV30 dc30 pm30 an30 cd30 ct30),sl30⟩)(c30:PySem.W.codeIn K cd30 "_law_deed" = true)(k30:PySem.W.keepIn K (.ref f30)=true)
  (a31:PySem.W.nsIn K mainGlobals "_law_whole" = some (some (.ref f31)))(l31:K.lookup f31=some ⟨oc31,od31,.func (PySem.W.fnOf "_law_whole" "_law_whole" (Jk Qdl) (Q7 Qdl) (Qm Qdl) .none kV31 dc31 pm31 an31 cd31 ct31),sl31⟩)(c31:PySem.W.codeIn K cd31 "_law_whole" = true)(k31:PySem.W.keepIn K (.ref f31)=true)
  (a32:PySem.W.nsIn K mainGlobals "_law_is_place" = some (some (.ref f32)))(l32:K.lookup f32=some ⟨oc32,od32,.func (PySem.W.fnOf "_law_is_place" "_law_is_place" (Jk Qe0) (Q7 Qe0) (Qm Qe0) .none kV32 dc32 pm32 an32 cd32 ct32),sl32⟩)(c32:PySem.W.codeIn K cd32 "_law_is_place" = true)(k32:PySem.W.keepIn K (.ref f32)=true)
  (a33:PySem.W.nsIn K mainGlobals "_law_refused_as" = some (some (.ref f33)))(l33:K.lookup f33=some ⟨oc33,od33,.func (PySem.W.fnOf "_law_refused_as" "_law_refused_as" (Jk lRef) (Q7 lRef) (Qm lRef) .none kV33 dc33 pm33 an33 cd33 ct33),sl33⟩)(c33:PySem.W.codeIn K cd33 "_law_refused_as" = true)(k33:PySem.W.keepIn K (.ref f33)=true)
  (a34:PySem.W.nsIn K mainGlobals "_law_behind" = some (some (.ref f34)))(l34:K.lookup f34=some ⟨oc34,od34,.func (PySem.W.fnOf "_law_behind" "_law_behind" (Jk lBeh) (Q7 lBeh) (Qm lBeh) .none kV34 dc34 pm34 an34 cd34 ct34),sl34⟩)(c34:PySem.W.codeIn K cd34 "_law_behind" = true)(k34:PySem.W.keepIn K (.ref f34)=true)
  (a35:PySem.W.nsIn K mainGlobals "_law_kept" = some (some (.ref f35)))(l35:K.lookup f35=some ⟨oc35,od35,.func (PySem.W.fnOf "_law_kept" "_law_kept" (Jk QjD) (Q7 QjD) (Qm QjD) .none kV35 dc35 pm35 an35 cd35 ct35),sl35⟩)(c35:PySem.W.codeIn K cd35 "_law_kept" = true)(k35:PySem.W.keepIn K (.ref f35)=true)
  (a36:PySem.W.nsIn K mainGlobals "_law_counts_by_rows" = some (some (.ref f36)))(l36:K.lookup f36=some ⟨oc36,od36,.func (PySem.W.fnOf "_law_counts_by_rows" "_law_counts_by_rows" (Jk lCnt) (Q7 lCnt) (Qm lCnt) .none kV36 dc36 pm36 an36 cd36 ct36),sl36⟩)(c36:PySem.W.codeIn K cd36 "_law_counts_by_rows" = true)(k36:PySem.W.keepIn K (.ref f36)=true)
  (a37:PySem.W.nsIn K mainGlobals "_law_most" = some (some (.ref f37)))(l37:K.lookup f37=some ⟨oc37,od37,.func (PySem.W.fnOf "_law_most" "_law_most" (Jk QjB) (Q7 QjB) (Qm QjB) .none kV37 dc37 pm37 an37 cd37 ct37),sl37⟩)(c37:PySem.W.codeIn K cd37 "_law_most" = true)(k37:PySem.W.keepIn K (.ref f37)=true)
  (a38:PySem.W.nsIn K mainGlobals "_law_kind_of" = some (some (.ref f38)))(l38:K.lookup f38=some ⟨oc38,od38,.func (PySem.W.fnOf "_law_kind_of" "_law_kind_of" (Jk QjC) (Q7 QjC) (Qm QjC) .none kV38 dc38 pm38 an38 cd38 ct38),sl38⟩)(c38:PySem.W.codeIn K cd38 "_law_kind_of" = true)(k38:PySem.W.keepIn K (.ref f38)=true)
  (a39:PySem.W.nsIn K mainGlobals "_law_same" = some (some (.ref f39)))(l39:K.lookup f39=some ⟨oc39,od39,.func (PySem.W.fnOf "_law_same" "_law_same" (Jk QjA) (Q7 QjA) (Qm QjA) .none kV39 dc39 pm39 an39 cd39 ct39),sl39⟩)(c39:PySem.W.codeIn K cd39 "_law_same" = true)(k39:PySem.W.keepIn K (.ref f39)=true)
  (a40:PySem.W.nsIn K mainGlobals "_law_done" = some (some (.ref f40)))(l40:K.lookup f40=some ⟨oc40,od40,.func (PySem.W.fnOf "_law_done" "_law_done" (Jk QjE) (Q7 QjE) (Qm QjE) .none kV40 dc40 pm40 an40 cd40 ct40),sl40⟩)(c40:PySem.W.codeIn K cd40 "_law_done" = true)(k40:PySem.W.keepIn K (.ref f40)=true)
  (a41:PySem.W.nsIn K mainGlobals "_law_right" = some (some (.ref f41)))(l41:K.lookup f41=some ⟨oc41,od41,.func (PySem.W.fnOf "_law_right" "_law_right" (Jk QeZ) (Q7 QeZ) (Qm QeZ) .none kV41 dc41 pm41 an41 cd41 ct41),sl41⟩)(c41:PySem.W.codeIn K cd41 "_law_right" = true)(k41:PySem.W.keepIn K (.ref f41)=true)
  (a42:PySem.W.nsIn K mainGlobals "law" = some (some (.ref f42)))(l42:K.lookup f42=some ⟨oc42,od42,.func (PySem.W.fnOf "law" "law" (Jk sLaw) (Q7 sLaw) (Qm sLaw) .none kV42 dc42 pm42 an42 cd42 ct42),sl42⟩)(c42:PySem.W.codeIn K cd42 "law" = true)(k42:PySem.W.keepIn K (.ref f42)=true)
  (z1:PySem.W.nsIn K mainGlobals "isinstance" = some none)
  (z2:PySem.W.nsIn K mainGlobals "int" = some none)
  (z3:PySem.W.nsIn K mainGlobals "bool" = some none)
  (z4:PySem.W.nsIn K mainGlobals "str" = some none)
  (z5:PySem.W.nsIn K mainGlobals "tuple" = some none)
  (z6:PySem.W.nsIn K mainGlobals "list" = some none)
  (z7:PySem.W.nsIn K mainGlobals "all" = some none)
  (z8:PySem.W.nsIn K mainGlobals "len" = some none)
  (z9:PySem.W.nsIn K mainGlobals "zip" = some none)
  (z10:PySem.W.nsIn K mainGlobals "enumerate" = some none)
  (z11:PySem.W.nsIn K mainGlobals "range" = some none)
  (z12:PySem.W.nsIn K mainGlobals "max" = some none)
  (z13:PySem.W.nsIn K mainGlobals "min" = some none)
  (z14:PySem.W.nsIn K mainGlobals "sorted" = some none)
  (z15:PySem.W.nsIn K mainGlobals "sum" = some none)
  (z16:PySem.W.nsIn K mainGlobals "set" = some none)
  (z17:PySem.W.nsIn K mainGlobals "any" = some none)
  (z18:PySem.W.nsIn K mainGlobals "reversed" = some none)
  (z19:PySem.W.nsIn K mainGlobals "divmod" = some none)
  (z20:PySem.W.nsIn K mainGlobals "ValueError" = some none)
  {tA:_} (aA:PySem.W.nsIn K mainGlobals "MOST_LINES" = some (some (.int 6 tA)))
  (aRB:PySem.W.nsIn K mainGlobals "rest_boards" = some (some (.ref f5)))
  (aCS:PySem.W.nsIn K mainGlobals "counts_stands" = some (some (.ref f8)))
  (zD:PySem.W.nsIn K mainGlobals "dict" = some none)
  {cc1:Addr} (e1:PySem.W.nsIn K mainGlobals "NoText" = some (some (.ref cc1)))
  {cc2:Addr} (e2:PySem.W.nsIn K mainGlobals "NoOrder" = some (some (.ref cc2)))
  {cc3:Addr} (e3:PySem.W.nsIn K mainGlobals "NoLines" = some (some (.ref cc3)))
  {cc4:Addr} (e4:PySem.W.nsIn K mainGlobals "TooFew" = some (some (.ref cc4)))
  {cc5:Addr} (e5:PySem.W.nsIn K mainGlobals "NoSize" = some (some (.ref cc5)))
  {cc6:Addr} (e6:PySem.W.nsIn K mainGlobals "TooMany" = some (some (.ref cc6)))
  {cc7:Addr} (e7:PySem.W.nsIn K mainGlobals "NoNumber" = some (some (.ref cc7)))
  {cc8:Addr} (e8:PySem.W.nsIn K mainGlobals "NoStand" = some (some (.ref cc8)))
  {cc9:Addr} (e9:PySem.W.nsIn K mainGlobals "NoCell" = some (some (.ref cc9)))
  {cc10:Addr} (e10:PySem.W.nsIn K mainGlobals "NotSquare" = some (some (.ref cc10)))
  {cc11:Addr} (e11:PySem.W.nsIn K mainGlobals "NoHits" = some (some (.ref cc11)))
  {cc12:Addr} (e12:PySem.W.nsIn K mainGlobals "NoCounts" = some (some (.ref cc12)))
  {cc13:Addr} (e13:PySem.W.nsIn K mainGlobals "NoStairs" = some (some (.ref cc13)))
  {cc14:Addr} (e14:PySem.W.nsIn K mainGlobals "NotAlike" = some (some (.ref cc14)))
  {cc15:Addr} (e15:PySem.W.nsIn K mainGlobals "NoParting" = some (some (.ref cc15)))
  {cc16:Addr} (e16:PySem.W.nsIn K mainGlobals "NoPlace" = some (some (.ref cc16)))
  {cc17:Addr} (e17:PySem.W.nsIn K mainGlobals "Double" = some (some (.ref cc17)))
  {cc18:Addr} (e18:PySem.W.nsIn K mainGlobals "NoDeed" = some (some (.ref cc18)))
  {cc19:Addr} (e19:PySem.W.nsIn K mainGlobals "NoRow" = some (some (.ref cc19)))
  {cR:Addr} (eR:PySem.W.nsIn K mainGlobals "RookError" = some (some (.ref cR)))
  (r1:PySem.W.typeIn K (.ref cR)=some (.type "type"))
  {dR:_} (r2:PySem.W.clsIn K cR=some dR)
  (r3:PySem.W.mroIn K cR (.type "BaseException")=some true)
  (u1:PySem.W.specialIn K (.builtin "object.__class__") "__get__" = some (some (.builtin "getset_descriptor.__get__")))
  (u2:PySem.W.takesIn K (.builtin "object.__class__")=some true)
  (q6x:PySem.W.excIn K cc6 Rx.mroV "ValueError.__new__" = true)
  (q6r:PySem.W.mroIn K cc6 (.ref cR)=some true)
  (q6g:PySem.W.findIn K (.ref cc6) "__getattribute__" = some (some (.builtin "BaseException.__getattribute__")))
  (q6h:PySem.W.findIn K (.ref cc6) "__getattr__" = some none)
  (q6b:PySem.W.mroIn K cc6 (.type "BaseException")=some true)
  {dq6:_} (q6c:PySem.W.clsIn K cc6=some dq6)
  (q6a:PySem.W.findIn K (.ref cc6) "__class__" = some (some (.builtin "object.__class__")))
  (q6o:PySem.W.mroIn K cc6 (.type "object")=some true)
  (q6v:PySem.W.kitOne K (.ref cc6) (.type "ValueError")=some true)
  (q6k1:PySem.W.kitOne K (.ref cc6) (.ref cc1)=some false)
  (q6k2:PySem.W.kitOne K (.ref cc6) (.ref cc2)=some false)
  (q6k3:PySem.W.kitOne K (.ref cc6) (.ref cc3)=some false)
  (q6k4:PySem.W.kitOne K (.ref cc6) (.ref cc4)=some false)
  (q6k5:PySem.W.kitOne K (.ref cc6) (.ref cc5)=some false)
  (q6k6:PySem.W.kitOne K (.ref cc6) (.ref cc6)=some true)
  (q6k7:PySem.W.kitOne K (.ref cc6) (.ref cc7)=some false)
  (q6k8:PySem.W.kitOne K (.ref cc6) (.ref cc8)=some false)
  (q6k9:PySem.W.kitOne K (.ref cc6) (.ref cc9)=some false)
  (q6k10:PySem.W.kitOne K (.ref cc6) (.ref cc10)=some false)
  (q6k11:PySem.W.kitOne K (.ref cc6) (.ref cc11)=some false)
  (q6k12:PySem.W.kitOne K (.ref cc6) (.ref cc12)=some false)
  (q6k13:PySem.W.kitOne K (.ref cc6) (.ref cc13)=some false)
  (q6k14:PySem.W.kitOne K (.ref cc6) (.ref cc14)=some false)
  (q6k15:PySem.W.kitOne K (.ref cc6) (.ref cc15)=some false)
  (q6k16:PySem.W.kitOne K (.ref cc6) (.ref cc16)=some false)
  (q6k17:PySem.W.kitOne K (.ref cc6) (.ref cc17)=some false)
  (q6k18:PySem.W.kitOne K (.ref cc6) (.ref cc18)=some false)
  (q6k19:PySem.W.kitOne K (.ref cc6) (.ref cc19)=some false)
  (q9x:PySem.W.excIn K cc9 Rx.mroV "ValueError.__new__" = true)
  (q9r:PySem.W.mroIn K cc9 (.ref cR)=some true)
  (q9g:PySem.W.findIn K (.ref cc9) "__getattribute__" = some (some (.builtin "BaseException.__getattribute__")))
  (q9h:PySem.W.findIn K (.ref cc9) "__getattr__" = some none)
  (q9b:PySem.W.mroIn K cc9 (.type "BaseException")=some true)
  {dq9:_} (q9c:PySem.W.clsIn K cc9=some dq9)
  (q9a:PySem.W.findIn K (.ref cc9) "__class__" = some (some (.builtin "object.__class__")))
  (q9o:PySem.W.mroIn K cc9 (.type "object")=some true)
  (q9v:PySem.W.kitOne K (.ref cc9) (.type "ValueError")=some true)
  (q9k1:PySem.W.kitOne K (.ref cc9) (.ref cc1)=some false)
  (q9k2:PySem.W.kitOne K (.ref cc9) (.ref cc2)=some false)
  (q9k3:PySem.W.kitOne K (.ref cc9) (.ref cc3)=some false)
  (q9k4:PySem.W.kitOne K (.ref cc9) (.ref cc4)=some false)
  (q9k5:PySem.W.kitOne K (.ref cc9) (.ref cc5)=some false)
  (q9k6:PySem.W.kitOne K (.ref cc9) (.ref cc6)=some false)
  (q9k7:PySem.W.kitOne K (.ref cc9) (.ref cc7)=some false)
  (q9k8:PySem.W.kitOne K (.ref cc9) (.ref cc8)=some false)
  (q9k9:PySem.W.kitOne K (.ref cc9) (.ref cc9)=some true)
  (q9k10:PySem.W.kitOne K (.ref cc9) (.ref cc10)=some false)
  (q9k11:PySem.W.kitOne K (.ref cc9) (.ref cc11)=some false)
  (q9k12:PySem.W.kitOne K (.ref cc9) (.ref cc12)=some false)
  (q9k13:PySem.W.kitOne K (.ref cc9) (.ref cc13)=some false)
  (q9k14:PySem.W.kitOne K (.ref cc9) (.ref cc14)=some false)
  (q9k15:PySem.W.kitOne K (.ref cc9) (.ref cc15)=some false)
  (q9k16:PySem.W.kitOne K (.ref cc9) (.ref cc16)=some false)
  (q9k17:PySem.W.kitOne K (.ref cc9) (.ref cc17)=some false)
  (q9k18:PySem.W.kitOne K (.ref cc9) (.ref cc18)=some false)
  (q9k19:PySem.W.kitOne K (.ref cc9) (.ref cc19)=some false)
  (q16x:PySem.W.excIn K cc16 Rx.mroV "ValueError.__new__" = true)
  (q16r:PySem.W.mroIn K cc16 (.ref cR)=some true)
  (q16g:PySem.W.findIn K (.ref cc16) "__getattribute__" = some (some (.builtin "BaseException.__getattribute__")))
  (q16h:PySem.W.findIn K (.ref cc16) "__getattr__" = some none)
  (q16b:PySem.W.mroIn K cc16 (.type "BaseException")=some true)
  {dq16:_} (q16c:PySem.W.clsIn K cc16=some dq16)
  (q16a:PySem.W.findIn K (.ref cc16) "__class__" = some (some (.builtin "object.__class__")))
  (q16o:PySem.W.mroIn K cc16 (.type "object")=some true)
  (q16v:PySem.W.kitOne K (.ref cc16) (.type "ValueError")=some true)
  (q16k1:PySem.W.kitOne K (.ref cc16) (.ref cc1)=some false)
  (q16k2:PySem.W.kitOne K (.ref cc16) (.ref cc2)=some false)
  (q16k3:PySem.W.kitOne K (.ref cc16) (.ref cc3)=some false)
  (q16k4:PySem.W.kitOne K (.ref cc16) (.ref cc4)=some false)
  (q16k5:PySem.W.kitOne K (.ref cc16) (.ref cc5)=some false)
  (q16k6:PySem.W.kitOne K (.ref cc16) (.ref cc6)=some false)
  (q16k7:PySem.W.kitOne K (.ref cc16) (.ref cc7)=some false)
  (q16k8:PySem.W.kitOne K (.ref cc16) (.ref cc8)=some false)
  (q16k9:PySem.W.kitOne K (.ref cc16) (.ref cc9)=some false)
  (q16k10:PySem.W.kitOne K (.ref cc16) (.ref cc10)=some false)
  (q16k11:PySem.W.kitOne K (.ref cc16) (.ref cc11)=some false)
  (q16k12:PySem.W.kitOne K (.ref cc16) (.ref cc12)=some false)
  (q16k13:PySem.W.kitOne K (.ref cc16) (.ref cc13)=some false)
  (q16k14:PySem.W.kitOne K (.ref cc16) (.ref cc14)=some false)
  (q16k15:PySem.W.kitOne K (.ref cc16) (.ref cc15)=some false)
  (q16k16:PySem.W.kitOne K (.ref cc16) (.ref cc16)=some true)
  (q16k17:PySem.W.kitOne K (.ref cc16) (.ref cc17)=some false)
  (q16k18:PySem.W.kitOne K (.ref cc16) (.ref cc18)=some false)
  (q16k19:PySem.W.kitOne K (.ref cc16) (.ref cc19)=some false)
  (q17x:PySem.W.excIn K cc17 Rx.mroV "ValueError.__new__" = true)
  (q17r:PySem.W.mroIn K cc17 (.ref cR)=some true)
  (q17g:PySem.W.findIn K (.ref cc17) "__getattribute__" = some (some (.builtin "BaseException.__getattribute__")))
  (q17h:PySem.W.findIn K (.ref cc17) "__getattr__" = some none)
  (q17b:PySem.W.mroIn K cc17 (.type "BaseException")=some true)
  {dq17:_} (q17c:PySem.W.clsIn K cc17=some dq17)
  (q17a:PySem.W.findIn K (.ref cc17) "__class__" = some (some (.builtin "object.__class__")))
  (q17o:PySem.W.mroIn K cc17 (.type "object")=some true)
  (q17v:PySem.W.kitOne K (.ref cc17) (.type "ValueError")=some true)
  (q17k1:PySem.W.kitOne K (.ref cc17) (.ref cc1)=some false)
  (q17k2:PySem.W.kitOne K (.ref cc17) (.ref cc2)=some false)
  (q17k3:PySem.W.kitOne K (.ref cc17) (.ref cc3)=some false)
  (q17k4:PySem.W.kitOne K (.ref cc17) (.ref cc4)=some false)
  (q17k5:PySem.W.kitOne K (.ref cc17) (.ref cc5)=some false)
  (q17k6:PySem.W.kitOne K (.ref cc17) (.ref cc6)=some false)
  (q17k7:PySem.W.kitOne K (.ref cc17) (.ref cc7)=some false)
  (q17k8:PySem.W.kitOne K (.ref cc17) (.ref cc8)=some false)
  (q17k9:PySem.W.kitOne K (.ref cc17) (.ref cc9)=some false)
  (q17k10:PySem.W.kitOne K (.ref cc17) (.ref cc10)=some false)
  (q17k11:PySem.W.kitOne K (.ref cc17) (.ref cc11)=some false)
  (q17k12:PySem.W.kitOne K (.ref cc17) (.ref cc12)=some false)
  (q17k13:PySem.W.kitOne K (.ref cc17) (.ref cc13)=some false)
  (q17k14:PySem.W.kitOne K (.ref cc17) (.ref cc14)=some false)
  (q17k15:PySem.W.kitOne K (.ref cc17) (.ref cc15)=some false)
  (q17k16:PySem.W.kitOne K (.ref cc17) (.ref cc16)=some false)
  (q17k17:PySem.W.kitOne K (.ref cc17) (.ref cc17)=some true)
  (q17k18:PySem.W.kitOne K (.ref cc17) (.ref cc18)=some false)
  (q17k19:PySem.W.kitOne K (.ref cc17) (.ref cc19)=some false)
  (q18x:PySem.W.excIn K cc18 Rx.mroV "ValueError.__new__" = true)
  (q18r:PySem.W.mroIn K cc18 (.ref cR)=some true)
  (q18g:PySem.W.findIn K (.ref cc18) "__getattribute__" = some (some (.builtin "BaseException.__getattribute__")))
  (q18h:PySem.W.findIn K (.ref cc18) "__getattr__" = some none)
  (q18b:PySem.W.mroIn K cc18 (.type "BaseException")=some true)
  {dq18:_} (q18c:PySem.W.clsIn K cc18=some dq18)
  (q18a:PySem.W.findIn K (.ref cc18) "__class__" = some (some (.builtin "object.__class__")))
  (q18o:PySem.W.mroIn K cc18 (.type "object")=some true)
  (q18v:PySem.W.kitOne K (.ref cc18) (.type "ValueError")=some true)
  (q18k1:PySem.W.kitOne K (.ref cc18) (.ref cc1)=some false)
  (q18k2:PySem.W.kitOne K (.ref cc18) (.ref cc2)=some false)
  (q18k3:PySem.W.kitOne K (.ref cc18) (.ref cc3)=some false)
  (q18k4:PySem.W.kitOne K (.ref cc18) (.ref cc4)=some false)
  (q18k5:PySem.W.kitOne K (.ref cc18) (.ref cc5)=some false)
  (q18k6:PySem.W.kitOne K (.ref cc18) (.ref cc6)=some false)
  (q18k7:PySem.W.kitOne K (.ref cc18) (.ref cc7)=some false)
  (q18k8:PySem.W.kitOne K (.ref cc18) (.ref cc8)=some false)
  (q18k9:PySem.W.kitOne K (.ref cc18) (.ref cc9)=some false)
  (q18k10:PySem.W.kitOne K (.ref cc18) (.ref cc10)=some false)
  (q18k11:PySem.W.kitOne K (.ref cc18) (.ref cc11)=some false)
  (q18k12:PySem.W.kitOne K (.ref cc18) (.ref cc12)=some false)
  (q18k13:PySem.W.kitOne K (.ref cc18) (.ref cc13)=some false)
  (q18k14:PySem.W.kitOne K (.ref cc18) (.ref cc14)=some false)
  (q18k15:PySem.W.kitOne K (.ref cc18) (.ref cc15)=some false)
  (q18k16:PySem.W.kitOne K (.ref cc18) (.ref cc16)=some false)
  (q18k17:PySem.W.kitOne K (.ref cc18) (.ref cc17)=some false)
  (q18k18:PySem.W.kitOne K (.ref cc18) (.ref cc18)=some true)
  (q18k19:PySem.W.kitOne K (.ref cc18) (.ref cc19)=some false)
  :
  ∃fd:Qq,(∀(s:Shared)(v:Value),Qeu s fd ⟨[v],[]⟩ [("_law_script",v)])/\∀base:JR,K.In base->base.Ns mainGlobals mg->FnOk l.prog w K mg base CX0 8 fa fd ["_law_script"] (Dl.Qh6 K):=by
 have e:=hfa.symm.trans (PySem.W.mg_of X G a42);cases e;have T:=(⟨(PySem.W.mg_none_of X G z1),(PySem.W.mg_none_of X G z2),(PySem.W.mg_none_of X G z3),(PySem.W.mg_none_of X G z4),(PySem.W.mg_none_of X G z5),(PySem.W.mg_none_of X G z6),(PySem.W.mg_none_of X G z7),(PySem.W.mg_none_of X G z8),(PySem.W.mg_none_of X G z9),(PySem.W.mg_none_of X G z10),(PySem.W.mg_none_of X G z11),(PySem.W.mg_none_of X G z12),(PySem.W.mg_none_of X G z13),(PySem.W.mg_none_of X G z14),(PySem.W.mg_none_of X G z15),(PySem.W.mg_none_of X G z16),(PySem.W.mg_none_of X G z17),(PySem.W.mg_none_of X G z18),(PySem.W.mg_none_of X G z19)⟩:GlbA mg);have F1:=JX (st:=QeJ) l1 c1 k1;have b1:=F1.binds (ps:=["thing"]) λ_ _ _ _ _ _ us hl=>match us,hl with | [_],_=>rfl
 have m1:=PySem.W.mg_of X G a1;have F2:=JX (st:=QcP) l2 c2 k2;have b2:=F2.binds (ps:=["thing", "least", "most"]) λ_ _ _ _ _ _ us hl=>match us,hl with | [_,_,_],_=>rfl
 have m2:=PySem.W.mg_of X G a2;have F3:=JX (st:=QeL) l3 c3 k3;have b3:=F3.binds (ps:=["high", "wide", "thing"]) λ_ _ _ _ _ _ us hl=>match us,hl with | [_,_,_],_=>rfl
 have m3:=PySem.W.mg_of X G a3;have F4:=JX (st:=Qjg) l4 c4 k4;have b4:=F4.binds (ps:=["board"]) λ_ _ _ _ _ _ us hl=>match us,hl with | [_],_=>rfl
 have m4:=PySem.W.mg_of X G a4;have F5:=JX (st:=QeK) l5 c5 k5;have b5:=F5.binds (ps:=["board"]) λ_ _ _ _ _ _ us hl=>match us,hl with | [_],_=>rfl
 have m5:=PySem.W.mg_of X G a5;have F6:=JX (st:=sWo) l6 c6 k6;have b6:=F6.binds (ps:=["board", "cell"]) λ_ _ _ _ _ _ us hl=>match us,hl with | [_,_],_=>rfl
 have m6:=PySem.W.mg_of X G a6;have F7:=JX (st:=Qjh) l7 c7 k7;have b7:=F7.binds (ps:=["board", "cell"]) λ_ _ _ _ _ _ us hl=>match us,hl with | [_,_],_=>rfl
 have m7:=PySem.W.mg_of X G a7;have F8:=JX (st:=QcQ) l8 c8 k8;have b8:=F8.binds (ps:=["board"]) λ_ _ _ _ _ _ us hl=>match us,hl with | [_],_=>rfl
 have m8:=PySem.W.mg_of X G a8;have F9:=JX (st:=Qji) l9 c9 k9;have b9:=F9.binds (ps:=["board"]) λ_ _ _ _ _ _ us hl=>match us,hl with | [_],_=>rfl
 have m9:=PySem.W.mg_of X G a9;have F10:=JX (st:=Qjf) l10 c10 k10;have b10:=F10.binds (ps:=["board"]) λ_ _ _ _ _ _ us hl=>match us,hl with | [_],_=>rfl
 have m10:=PySem.W.mg_of X G a10;have F11:=JX (st:=sRow) l11 c11 k11;have b11:=F11.binds (ps:=["below", "columns", "taken"]) λ_ _ _ _ _ _ us hl=>match us,hl with | [_,_,_],_=>rfl
 have m11:=PySem.W.mg_of X G a11;have F12:=JX (st:=QeM) l12 c12 k12;have b12:=F12.binds (ps:=["board"]) λ_ _ _ _ _ _ us hl=>match us,hl with | [_],_=>rfl
 have m12:=PySem.W.mg_of X G a12;have F13:=JX (st:=sRnp) l13 c13 k13;have b13:=F13.binds (ps:=["board", "row", "column"]) λ_ _ _ _ _ _ us hl=>match us,hl with | [_,_,_],_=>rfl
 have m13:=PySem.W.mg_of X G a13;have F14:=JX (st:=sRtm) l14 c14 k14;have b14:=F14.binds (ps:=["lines"]) λ_ _ _ _ _ _ us hl=>match us,hl with | [_],_=>rfl
 have m14:=PySem.W.mg_of X G a14;have F15:=JX (st:=Qj7) l15 c15 k15;have b15:=F15.binds (ps:=["self"]) λ_ _ _ _ _ _ us hl=>match us,hl with | [_],_=>rfl
 have n15:Meth K CBench "__init__" f15:=⟨a15,i15,k15⟩;have F16:=JX (st:=bPut) l16 c16 k16;have b16:=F16.binds (ps:=["self", "row", "column"]) λ_ _ _ _ _ _ us hl=>match us,hl with | [_,_,_],_=>rfl
 have n16:Meth K CBench "put" f16:=⟨a16,i16,k16⟩;have F17:=JX (st:=Qj3) l17 c17 k17;have b17:=F17.binds (ps:=["self", "row", "column"]) λ_ _ _ _ _ _ us hl=>match us,hl with | [_,_,_],_=>rfl
 have n17:Meth K CBench "take" f17:=⟨a17,i17,k17⟩;have F18:=JX (st:=bRow) l18 c18 k18;have b18:=F18.binds (ps:=["self"]) λ_ _ _ _ _ _ us hl=>match us,hl with | [_],_=>rfl
 have n18:Meth K CBench "row" f18:=⟨a18,i18,k18⟩;have F19:=JX (st:=bCol) l19 c19 k19;have b19:=F19.binds (ps:=["self"]) λ_ _ _ _ _ _ us hl=>match us,hl with | [_],_=>rfl
 have n19:Meth K CBench "column" f19:=⟨a19,i19,k19⟩;have F20:=JX (st:=Qj2) l20 c20 k20;have b20:=F20.binds (ps:=["self"]) λ_ _ _ _ _ _ us hl=>match us,hl with | [_],_=>rfl
 have n20:Meth K CBench "turn" f20:=⟨a20,i20,k20⟩;have F21:=JX (st:=Qj4) l21 c21 k21;have b21:=F21.binds (ps:=["self"]) λ_ _ _ _ _ _ us hl=>match us,hl with | [_],_=>rfl
 have n21:Meth K CBench "rest" f21:=⟨a21,i21,k21⟩;have F22:=JX (st:=Qj1) l22 c22 k22;have b22:=F22.binds (ps:=["self"]) λ_ _ _ _ _ _ us hl=>match us,hl with | [_],_=>rfl
 have n22:Meth K CBench "undo" f22:=⟨a22,i22,k22⟩;have F23:=JX (st:=Qj6) l23 c23 k23;have b23:=F23.binds (ps:=["self", "board"]) λ_ _ _ _ _ _ us hl=>match us,hl with | [_,_],_=>rfl
 have n23:Meth K CBench "keep" f23:=⟨a23,i23,k23⟩;have F24:=JX (st:=Qe9) l24 c24 k24;have b24:=F24.binds (ps:=["self"]) λ_ _ _ _ _ _ us hl=>match us,hl with | [_],_=>rfl
 have n24:Meth K CBench "board" f24:=⟨a24,i24,k24⟩;have F25:=JX (st:=Qc5) l25 c25 k25;have b25:=F25.binds (ps:=["self"]) λ_ _ _ _ _ _ us hl=>match us,hl with | [_],_=>rfl
 have n25:Meth K CBench "counts" f25:=⟨a25,i25,k25⟩;have F26:=JX (st:=Qj5) l26 c26 k26;have b26:=F26.binds (ps:=["self"]) λ_ _ _ _ _ _ us hl=>match us,hl with | [_],_=>rfl
 have n26:Meth K CBench "most" f26:=⟨a26,i26,k26⟩;have F27:=JX (st:=QcX) l27 c27 k27;have b27:=F27.binds (ps:=["_law_script", "_law_k"]) λ_ _ _ _ _ _ us hl=>match us,hl with | [_,_],_=>rfl
 have m27:=PySem.W.mg_of X G a27;have F28:=JX (st:=lPot) l28 c28 k28;have b28:=F28.binds (ps:=["_law_cell"]) λ_ _ _ _ _ _ us hl=>match us,hl with | [_],_=>rfl
 have m28:=PySem.W.mg_of X G a28;have F29:=JX (st:=Qjz) l29 c29 k29;have b29:=F29.binds (ps:=["_law_pot_here", "_law_far"]) λ_ _ _ _ _ _ us hl=>match us,hl with | [_,_],_=>rfl
 have m29:=PySem.W.mg_of X G a29;have F30:=JX (st:=QjF) l30 c30 k30;have b30:=F30.binds (ps:=["_law_pot_here", "_law_board", "_law_odds"]) λ_ _ _ _ _ _ us hl=>match us,hl with | [_,_,_],_=>rfl
 have m30:=PySem.W.mg_of X G a30;have F31:=JX (st:=Qdl) l31 c31 k31;have b31:=F31.binds (ps:=["_law_thing"]) λ_ _ _ _ _ _ us hl=>match us,hl with | [_],_=>rfl
 have m31:=PySem.W.mg_of X G a31;have F32:=JX (st:=Qe0) l32 c32 k32;have b32:=F32.binds (ps:=["_law_thing", "_law_high", "_law_wide"]) λ_ _ _ _ _ _ us hl=>match us,hl with | [_,_,_],_=>rfl
 have m32:=PySem.W.mg_of X G a32;have F33:=JX (st:=lRef) l33 c33 k33;have b33:=F33.binds (ps:=["_law_board", "_law_word", "_law_told"]) λ_ _ _ _ _ _ us hl=>match us,hl with | [_,_,_],_=>rfl
 have m33:=PySem.W.mg_of X G a33;have F34:=JX (st:=lBeh) l34 c34 k34;have b34:=F34.binds (ps:=["_law_board", "_law_word", "_law_told"]) λ_ _ _ _ _ _ us hl=>match us,hl with | [_,_,_],_=>rfl
 have m34:=PySem.W.mg_of X G a34;have F35:=JX (st:=QjD) l35 c35 k35;have b35:=F35.binds (ps:=["_law_rows", "_law_word", "_law_told"]) λ_ _ _ _ _ _ us hl=>match us,hl with | [_,_,_],_=>rfl
 have m35:=PySem.W.mg_of X G a35;have F36:=JX (st:=lCnt) l36 c36 k36;have b36:=F36.binds (ps:=["_law_board"]) λ_ _ _ _ _ _ us hl=>match us,hl with | [_],_=>rfl
 have m36:=PySem.W.mg_of X G a36;have F37:=JX (st:=QjB) l37 c37 k37;have b37:=F37.binds (ps:=["_law_board"]) λ_ _ _ _ _ _ us hl=>match us,hl with | [_],_=>rfl
 have m37:=PySem.W.mg_of X G a37;have F38:=JX (st:=QjC) l38 c38 k38;have b38:=F38.binds (ps:=["_law_e"]) λ_ _ _ _ _ _ us hl=>match us,hl with | [_],_=>rfl
 have m38:=PySem.W.mg_of X G a38;have F39:=JX (st:=QjA) l39 c39 k39;have b39:=F39.binds (ps:=["_law_found", "_law_due"]) λ_ _ _ _ _ _ us hl=>match us,hl with | [_,_],_=>rfl
 have m39:=PySem.W.mg_of X G a39;have F40:=JX (st:=QjE) l40 c40 k40;have b40:=F40.binds (ps:=["_law_bench", "_law_word", "_law_told"]) λ_ _ _ _ _ _ us hl=>match us,hl with | [_,_,_],_=>rfl
 have m40:=PySem.W.mg_of X G a40;have F41:=JX (st:=QeZ) l41 c41 k41;have b41:=F41.binds (ps:=["_law_bench", "_law_board", "_law_deep"]) λ_ _ _ _ _ _ us hl=>match us,hl with | [_,_,_],_=>rfl
 have m41:=PySem.W.mg_of X G a41;have F42:=JX (st:=sLaw) l42 c42 k42;refine⟨PySem.W.fnOf "law" "law" (Jk sLaw) (Q7 sLaw) (Qm sLaw) .none kV42 dc42 pm42 an42 cd42 ct42,λs v=>.of_eq rfl,λbase _ _=>?_⟩;have Tb:Bcl K CBench:=⟨⟨pgBench,hdBench,poBench,saBench⟩,naBenchkept,naBenchearlier⟩;have xplace:(Qek cc16 cc17 cc9 cc6 cc18) "place" = cc16:=QnA _ _ _ _ _;have xdouble:(Qek cc16 cc17 cc9 cc6 cc18) "double" = cc17:=QkC _ _ _ _ _;have xcell:(Qek cc16 cc17 cc9 cc6 cc18) "cell" = cc9:=QrN _ _ _ _ _;have xmany:(Qek cc16 cc17 cc9 cc6 cc18) "many" = cc6:=QrL _ _ _ _ _;have xdeed:(Qek cc16 cc17 cc9 cc6 cc18) "deed" = cc18:=QrM _ _ _ _ _;have okx:∀wd:Str,wd = "place" ∨ wd = "double" ∨ wd = "cell" ∨ wd = "many" ∨ wd = "deed" -> KOk K [cc1,cc2,cc3,cc4,cc5,cc6,cc7,cc8,cc9,cc10,cc11,cc12,cc13,cc14,cc15,cc16,cc17,cc18,cc19] cR ((Qek cc16 cc17 cc9 cc6 cc18) wd) wd:=by
  rintro wd (rfl | rfl | rfl | rfl | rfl)
  ·rw[xplace];exact(⟨⟨r1,(by rw[r2];rfl),r3,q16r⟩,[false,false,false,false,false,false,false,false,false,false,false,false,false,false,false,true,false,false,false],15,⟨q16g,q16h,q16b,(by rw[q16c];rfl),q16a,u1,u2,q16o⟩,(.cons q16k1 (.cons q16k2 (.cons q16k3 (.cons q16k4 (.cons q16k5 (.cons q16k6 (.cons q16k7 (.cons q16k8 (.cons q16k9 (.cons q16k10 (.cons q16k11 (.cons q16k12 (.cons q16k13 (.cons q16k14 (.cons q16k15 (.cons q16k16 (.cons q16k17 (.cons q16k18 (.cons q16k19 .nil))))))))))))))))))),q16v,rfl,rfl,(by decide),rfl⟩:KOk K [cc1,cc2,cc3,cc4,cc5,cc6,cc7,cc8,cc9,cc10,cc11,cc12,cc13,cc14,cc15,cc16,cc17,cc18,cc19] cR cc16 "place")
  ·rw[xdouble];exact(⟨⟨r1,(by rw[r2];rfl),r3,q17r⟩,[false,false,false,false,false,false,false,false,false,false,false,false,false,false,false,false,true,false,false],16,⟨q17g,q17h,q17b,(by rw[q17c];rfl),q17a,u1,u2,q17o⟩,(.cons q17k1 (.cons q17k2 (.cons q17k3 (.cons q17k4 (.cons q17k5 (.cons q17k6 (.cons q17k7 (.cons q17k8 (.cons q17k9 (.cons q17k10 (.cons q17k11 (.cons q17k12 (.cons q17k13 (.cons q17k14 (.cons q17k15 (.cons q17k16 (.cons q17k17 (.cons q17k18 (.cons q17k19 .nil))))))))))))))))))),q17v,rfl,rfl,(by decide),rfl⟩:KOk K [cc1,cc2,cc3,cc4,cc5,cc6,cc7,cc8,cc9,cc10,cc11,cc12,cc13,cc14,cc15,cc16,cc17,cc18,cc19] cR cc17 "double")
  ·rw[xcell];exact(⟨⟨r1,(by rw[r2];rfl),r3,q9r⟩,[false,false,false,false,false,false,false,false,true,false,false,false,false,false,false,false,false,false,false],8,⟨q9g,q9h,q9b,(by rw[q9c];rfl),q9a,u1,u2,q9o⟩,(.cons q9k1 (.cons q9k2 (.cons q9k3 (.cons q9k4 (.cons q9k5 (.cons q9k6 (.cons q9k7 (.cons q9k8 (.cons q9k9 (.cons q9k10 (.cons q9k11 (.cons q9k12 (.cons q9k13 (.cons q9k14 (.cons q9k15 (.cons q9k16 (.cons q9k17 (.cons q9k18 (.cons q9k19 .nil))))))))))))))))))),q9v,rfl,rfl,(by decide),rfl⟩:KOk K [cc1,cc2,cc3,cc4,cc5,cc6,cc7,cc8,cc9,cc10,cc11,cc12,cc13,cc14,cc15,cc16,cc17,cc18,cc19] cR cc9 "cell")
  ·rw[xmany];exact(⟨⟨r1,(by rw[r2];rfl),r3,q6r⟩,[false,false,false,false,false,true,false,false,false,false,false,false,false,false,false,false,false,false,false],5,⟨q6g,q6h,q6b,(by rw[q6c];rfl),q6a,u1,u2,q6o⟩,(.cons q6k1 (.cons q6k2 (.cons q6k3 (.cons q6k4 (.cons q6k5 (.cons q6k6 (.cons q6k7 (.cons q6k8 (.cons q6k9 (.cons q6k10 (.cons q6k11 (.cons q6k12 (.cons q6k13 (.cons q6k14 (.cons q6k15 (.cons q6k16 (.cons q6k17 (.cons q6k18 (.cons q6k19 .nil))))))))))))))))))),q6v,rfl,rfl,(by decide),rfl⟩:KOk K [cc1,cc2,cc3,cc4,cc5,cc6,cc7,cc8,cc9,cc10,cc11,cc12,cc13,cc14,cc15,cc16,cc17,cc18,cc19] cR cc6 "many")
  ·rw[xdeed];exact(⟨⟨r1,(by rw[r2];rfl),r3,q18r⟩,[false,false,false,false,false,false,false,false,false,false,false,false,false,false,false,false,false,true,false],17,⟨q18g,q18h,q18b,(by rw[q18c];rfl),q18a,u1,u2,q18o⟩,(.cons q18k1 (.cons q18k2 (.cons q18k3 (.cons q18k4 (.cons q18k5 (.cons q18k6 (.cons q18k7 (.cons q18k8 (.cons q18k9 (.cons q18k10 (.cons q18k11 (.cons q18k12 (.cons q18k13 (.cons q18k14 (.cons q18k15 (.cons q18k16 (.cons q18k17 (.cons q18k18 (.cons q18k19 .nil))))))))))))))))))),q18v,rfl,rfl,(by decide),rfl⟩:KOk K [cc1,cc2,cc3,cc4,cc5,cc6,cc7,cc8,cc9,cc10,cc11,cc12,cc13,cc14,cc15,cc16,cc17,cc18,cc19] cR cc18 "deed")
 have G1:FnOk l.prog w K mg base CX0 1 f1 _ ["thing"] (Dl.ZE false Dl.QeG):=QoB F1 T ;have G2:FnOk l.prog w K mg base CX0 2 f2 _ ["thing", "least", "most"] (Dl.ZE false Qfl):=QlY F2 T m1 G1 b1 k1;have G3:FnOk l.prog w K mg base CX0 3 f3 _ ["high", "wide", "thing"] (Dl.ZE false QlC):=QoE F3 T m2 G2 b2 k2;have G4:FnOk l.prog w K mg base CX0 2 f4 _ ["board"] (Dl.ZE false QrT):=Qtb F4 T ;have G5:FnOk l.prog w K mg base CX0 1 f5 _ ["board"] (Dl.ZE false Qlc):=QoD F5 T ;have G7:FnOk l.prog w K mg base (Rx.CXE l.prog w) 4 f7 _ ["board", "cell"] (Dl.ZE false (Qld ((Qek cc16 cc17 cc9 cc6 cc18) "cell"))):=Qtc F7 T m3 G3 b3 k3 (by rw[xcell];exact PySem.W.mg_of X G e9) (by rw[xcell];exact q9x);have G6:FnOk l.prog w K mg base (Rx.CXE l.prog w) 5 f6 _ ["board", "cell"] (Dl.ZE false (QxJ ((Qek cc16 cc17 cc9 cc6 cc18) "cell"))):=Qyc F6 T m7 G7 b7 k7;have G9:FnOk l.prog w K mg base CX0 1 f9 _ ["board"] (Dl.ZE false Qtu):=Qte F9 T ;have G11:FnOk l.prog w K mg base CX0 1 f11 _ ["below", "columns", "taken"] (Dl.ZE true QrO):=Qs9 F11 T ;have G10:FnOk l.prog w K mg base CX0 2 f10 _ ["board"] (Dl.ZE true QrP):=Qta F10 T m11 G11 b11 k11;have G8:FnOk l.prog w K mg base CX0 3 f8 _ ["board"] (Dl.ZE true Qf2):=Ql4 F8 T m10 G10 b10 k10 m9 G9 b9 k9;have G12:FnOk l.prog w K mg base CX0 4 f12 _ ["board"] (Dl.ZE false QmC):=QoG F12 T (PySem.W.mg_of X G aCS) G8 b8 k8;have G13:FnOk l.prog w K mg base (Rx.CXE l.prog w) 3 f13 _ ["board", "row", "column"] (Dl.ZE false (QwV ((Qek cc16 cc17 cc9 cc6 cc18) "place"))):=QvH F13 T m2 G2 b2 k2 (by rw[xplace];exact PySem.W.mg_of X G e16) (by rw[xplace];exact q16x);have G14:FnOk l.prog w K mg base (Rx.CXE l.prog w) 1 f14 _ ["lines"] (Dl.ZE false (QwU ((Qek cc16 cc17 cc9 cc6 cc18) "many"))):=QvG ⟨_,PySem.W.mg_of X G aA⟩ F14 T (by rw[xmany];exact PySem.W.mg_of X G e6) (by rw[xmany];exact q6x);have G15:FnOk l.prog w K mg base CX0 1 f15 _ ["self"] (QkY CBench):=Qtj F15 Tb ;have G23:FnOk l.prog w K mg base CX0 1 f23 _ ["self", "board"] (Qdc CBench):=Qti F23 Tb ;have G16:FnOk l.prog w K mg base (Rx.CXE l.prog w) 5 f16 _ ["self", "row", "column"] (Qjb CBench (Qek cc16 cc17 cc9 cc6 cc18) .put):=QvI F16 Tb T m13 G13 b13 k13 n23 G23 b23  (by rw[xdouble];exact PySem.W.mg_of X G e17) (by rw[xdouble];exact q17x);have G17:FnOk l.prog w K mg base (Rx.CXE l.prog w) 6 f17 _ ["self", "row", "column"] (Qjb CBench (Qek cc16 cc17 cc9 cc6 cc18) .take):=QoJ F17 Tb m13 G13 b13 k13 m6 G6 b6 k6 n23 G23 b23;have G18:FnOk l.prog w K mg base (Rx.CXE l.prog w) 3 f18 _ ["self"] (QbW CBench (Qek cc16 cc17 cc9 cc6 cc18) .row):=Qtm F18 Tb m14 G14 b14 k14 n23 G23 b23;have G19:FnOk l.prog w K mg base (Rx.CXE l.prog w) 3 f19 _ ["self"] (QbW CBench (Qek cc16 cc17 cc9 cc6 cc18) .col):=Qtn F19 Tb m14 G14 b14 k14 n23 G23 b23;have G20:FnOk l.prog w K mg base (Rx.CXE l.prog w) 3 f20 _ ["self"] (QbW CBench (Qek cc16 cc17 cc9 cc6 cc18) .turn):=QoI F20 Tb m4 G4 b4 k4 n23 G23 b23;have G21:FnOk l.prog w K mg base (Rx.CXE l.prog w) 2 f21 _ ["self"] (QbW CBench (Qek cc16 cc17 cc9 cc6 cc18) .rest):=QoK F21 Tb (PySem.W.mg_of X G aRB) G5 b5 k5 n23 G23 b23;have G22:FnOk l.prog w K mg base (Rx.CXE l.prog w) 1 f22 _ ["self"] (QbW CBench (Qek cc16 cc17 cc9 cc6 cc18) .undo):=QoH F22 Tb  (by rw[xdeed];exact PySem.W.mg_of X G e18) (by rw[xdeed];exact q18x);have G24:FnOk l.prog w K mg base CX0 1 f24 _ ["self"] (Qhu CBench):=Ql6 F24 Tb ;have G25:FnOk l.prog w K mg base CX0 4 f25 _ ["self"] (Qft CBench):=Qjs F25 Tb (PySem.W.mg_of X G aCS) G8 b8 k8;have G26:FnOk l.prog w K mg base CX0 5 f26 _ ["self"] (QkW CBench):=QoL F26 Tb m12 G12 b12 k12;have G27:FnOk l.prog w K mg base CX0 1 f27 _ ["_law_script", "_law_k"] (Qfu K):=Ql5 F27 T ;have G28:FnOk l.prog w K mg base CX0 1 f28 _ ["_law_cell"] Qr2:=QvJ F28 T ;have G29:FnOk l.prog w K mg base CX0 1 f29 _ ["_law_pot_here", "_law_far"] QdB:=Ql0 F29 T ;have F43:=F29;have m43:=m29;have b43:=b29;have k43:=k29;have G43:FnOk l.prog w K mg base CX0 1 f29 _ ["_law_pot_here", "_law_far"] (Dl.ZE true Dl.QnF):=(Ql0 F43 T).imp λ_ _ _ _ h=>Dl.QuJ h
 have G30:FnOk l.prog w K mg base CX0 2 f30 _ ["_law_pot_here", "_law_board", "_law_odds"] (Dl.ZE false QtS):=Qtl F30 T m43 G43 b43 k43;have G31:FnOk l.prog w K mg base CX0 1 f31 _ ["_law_thing"] (Dl.ZE false Dl.QeG):=Ql2 F31 T ;have G32:FnOk l.prog w K mg base CX0 2 f32 _ ["_law_thing", "_law_high", "_law_wide"] (Dl.ZE false QhD):=Ql3 F32 T m31 G31 b31 k31;have G33:FnOk l.prog w K mg base CX0 3 f33 _ ["_law_board", "_law_word", "_law_told"] (Dl.ZE false Qsg):=Qtd F33 T m32 G32 b32 k32;have G34:FnOk l.prog w K mg base CX0 2 f34 _ ["_law_board", "_law_word", "_law_told"] (Dl.ZE false QyD):=QvL F34 T ;have G35:FnOk l.prog w K mg base CX0 4 f35 _ ["_law_rows", "_law_word", "_law_told"] QkX:=Qth (C:=CBench) F35 T m33 G33 b33 k33 m34 G34 b34 k34;have G36:FnOk l.prog w K mg base CX0 1 f36 _ ["_law_board"] (Dl.ZE true Qml):=(Qtf (PySem.W.mg_none_of X G zD) F36 T).imp λ_ _ _ _ h=>QyA h
 have G37:FnOk l.prog w K mg base CX0 2 f37 _ ["_law_board"] (Dl.ZE false Qit):=QoF F37 T m36 G36 b36 k36;have G38:Rx.FnM l.prog w K mg base 1 f38 _ ["_law_e"] (Qgp K [cc1,cc2,cc3,cc4,cc5,cc6,cc7,cc8,cc9,cc10,cc11,cc12,cc13,cc14,cc15,cc16,cc17,cc18,cc19]):=Qtg F38 T (PySem.W.mg_none_of X G z20) (PySem.W.mg_of X G e1) (PySem.W.mg_of X G e2) (PySem.W.mg_of X G e3) (PySem.W.mg_of X G e4) (PySem.W.mg_of X G e5) (PySem.W.mg_of X G e6) (PySem.W.mg_of X G e7) (PySem.W.mg_of X G e8) (PySem.W.mg_of X G e9) (PySem.W.mg_of X G e10) (PySem.W.mg_of X G e11) (PySem.W.mg_of X G e12) (PySem.W.mg_of X G e13) (PySem.W.mg_of X G e14) (PySem.W.mg_of X G e15) (PySem.W.mg_of X G e16) (PySem.W.mg_of X G e17) (PySem.W.mg_of X G e18) (PySem.W.mg_of X G e19);have G39:FnOk l.prog w K mg base CX0 5 f39 _ ["_law_found", "_law_due"] (Dl.ZE false (Dl.QnY 3)):=(Ql1 F39 T m39 b39 k39 m31 (QlZ F31 T) b31 k31 4).imp λ_ _ _ _ h=>Dl.QuV h
 have G40:FnOk l.prog w K mg base CX0 7 f40 _ ["_law_bench", "_law_word", "_law_told"] (QkZ CBench):=Qtk F40 T Tb n16 G16 b16 n17 G17 b17 n18 G18 b18 n19 G19 b19 n20 G20 b20 n21 G21 b21 n22 G22 b22 m38 G38 b38 k38 (PySem.W.mg_of X G eR) okx;have G41:FnOk l.prog w K mg base CX0 6 f41 _ ["_law_bench", "_law_board", "_law_deep"] (Qfs CBench):=QoC F41 T Tb m39 G39 b39 k39 m36 G36 b36 k36 m37 G37 b37 k37 n24 G24 b24 n25 G25 b25 n26 G26 b26;exact QvK F42 T ⟨mkBench,a15,i15,kcBench⟩ G15 b15 (PySem.W.mg_of X G aCBench) m27 G27 b27 k27 m28 G28 b28 k28 m29 G29 b29 k29 m30 G30 b30 k30 m35 G35 b35 k35 m40 G40 b40 k40 m41 G41 b41 k41
theorem Qzk{l:PySem.W.OpenLaw}{q:Qw}{loose:List Str}{XP:(Str->Option Value)->JR->Prop}{YP:Ja->JR->Prop}{d:DefRec}{K:Params->PySem.W.Frag}(hn:l.most=some 63)(hdf:d.params.defaults=[])
  (hY:∀(w:Ja)(h:JR),YP w h->(K w.params).In h)
  (F:∀(w:Ja)(mg:Str->Option Value)(fa:Addr)(h:JR),(K w.params).In h->h.Ns mainGlobals mg->mg d.name=some (.ref fa) ->
   ∃fd:Qq,(∀(s:Shared)(u:Value),Qeu s fd ⟨[u],[]⟩ [("_law_script",u)])/\∀base:JR,(K w.params).In base->base.Ns mainGlobals mg->FnOk l.prog w (K w.params) mg base CX0 8 fa fd ["_law_script"] (Dl.Qh6 (K w.params))) :
  PySem.W.WalkO q loose XP YP l.row.toRowW d [] (λf vs=>PySem.call f vs):=
 L2.QrQ (n:=63) (k:=8) (x := "_law_script") (CX:=λ_=>CX0) (sp:=λw=>(Dl.Qh6 (K w.params))) hn (by decide) hdf ⟨rfl,by decide,by decide,rfl⟩ hY F (λ_ _ a ns hl _ hS=>⟨a,ns,rfl,hS,hl,λ_=>rfl⟩) λ_ _ _ _ _ z=>z
end Rk
open PySem.W
set_option maxRecDepth 100000 in
set_option maxHeartbeats 0 in
theorem PySem.Challenge.cw_rooklands_k91_benches_and_deeds_holds : PySem.Challenge.rw_rooklands_k91_benches_and_deeds.Holds := by
 w_on;o_law;k_head;(case hw=>w_witness2)
 k_fill
 refine Rk.Qzk (l:=PySem.Challenge.rw_rooklands_k91_benches_and_deeds) rfl rfl (λw h Y=>PySem.W.kIn_of Y) ?F
 case F=>
  intro w mg fa h KX G hmg;refine' Rk.Qwz KX G hmg ?aCBench ?pgBench ?hdBench ?poBench ?saBench ?mkBench ?kcBench ?naBenchkept ?naBenchearlier ?a1 ?l1 ?c1 ?k1 ?a2 ?l2 ?c2 ?k2 ?a3 ?l3 ?c3 ?k3 ?a4 ?l4 ?c4 ?k4 ?a5 ?l5 ?c5 ?k5 ?a6 ?l6 ?c6 ?k6 ?a7 ?l7 ?c7 ?k7 ?a8 ?l8 ?c8 ?k8 ?a9 ?l9 ?c9 ?k9 ?a10 ?l10 ?c10 ?k10 ?a11 ?l11 ?c11 ?k11 ?a12 ?l12 ?c12 ?k12 ?a13 ?l13 ?c13 ?k13 ?a14 ?l14 ?c14 ?k14 ?a15 ?i15 ?l15 ?c15 ?k15 ?a16 ?i16 ?l16 ?c16 ?k16 ?a17 ?i17 ?l17 ?c17 ?k17 ?a18 ?i18 ?l18 ?c18 ?k18 ?a19 ?i19 ?l19 ?c19 ?k19 ?a20 ?i20 ?l20 ?c20 ?k20 ?a21 ?i21 ?l21 ?c21 ?k21 ?a22 ?i22 ?l22 ?c22 ?k22 ?a23 ?i23 ?l23 ?c23 ?k23 ?a24 ?i24 ?l24 ?c24 ?k24 ?a25 ?i25 ?l25 ?c25 ?k25 ?a26 ?i26 ?l26 ?c26 ?k26 ?a27 ?l27 ?c27 ?k27 ?a28 ?l28 ?c28 ?k28 ?a29 ?l29 ?c29 ?k29 ?a30 ?l30 ?c30 ?k30 ?a31 ?l31 ?c31 ?k31 ?a32 ?l32 ?c32 ?k32 ?a33 ?l33 ?c33 ?k33 ?a34 ?l34 ?c34 ?k34 ?a35 ?l35 ?c35 ?k35 ?a36 ?l36 ?c36 ?k36 ?a37 ?l37 ?c37 ?k37 ?a38 ?l38 ?c38 ?k38 ?a39 ?l39 ?c39 ?k39 ?a40 ?l40 ?c40 ?k40 ?a41 ?l41 ?c41 ?k41 ?a42 ?l42 ?c42 ?k42 ?z1 ?z2 ?z3 ?z4 ?z5 ?z6 ?z7 ?z8 ?z9 ?z10 ?z11 ?z12 ?z13 ?z14 ?z15 ?z16 ?z17 ?z18 ?z19 ?z20 ?aA ?aRB ?aCS ?zD ?e1 ?e2 ?e3 ?e4 ?e5 ?e6 ?e7 ?e8 ?e9 ?e10 ?e11 ?e12 ?e13 ?e14 ?e15 ?e16 ?e17 ?e18 ?e19 ?eR ?r1 ?r2 ?r3 ?u1 ?u2 ?q6x ?q6r ?q6g ?q6h ?q6b ?q6c ?q6a ?q6o ?q6v ?q6k1 ?q6k2 ?q6k3 ?q6k4 ?q6k5 ?q6k6 ?q6k7 ?q6k8 ?q6k9 ?q6k10 ?q6k11 ?q6k12 ?q6k13 ?q6k14 ?q6k15 ?q6k16 ?q6k17 ?q6k18 ?q6k19 ?q9x ?q9r ?q9g ?q9h ?q9b ?q9c ?q9a ?q9o ?q9v ?q9k1 ?q9k2 ?q9k3 ?q9k4 ?q9k5 ?q9k6 ?q9k7 ?q9k8 ?q9k9 ?q9k10 ?q9k11 ?q9k12 ?q9k13 ?q9k14 ?q9k15 ?q9k16 ?q9k17 ?q9k18 ?q9k19 ?q16x ?q16r ?q16g ?q16h ?q16b ?q16c ?q16a ?q16o ?q16v ?q16k1 ?q16k2 ?q16k3 ?q16k4 ?q16k5 ?q16k6 ?q16k7 ?q16k8 ?q16k9 ?q16k10 ?q16k11 ?q16k12 ?q16k13 ?q16k14 ?q16k15 ?q16k16 ?q16k17 ?q16k18 ?q16k19 ?q17x ?q17r ?q17g ?q17h ?q17b ?q17c ?q17a ?q17o ?q17v ?q17k1 ?q17k2 ?q17k3 ?q17k4 ?q17k5 ?q17k6 ?q17k7 ?q17k8 ?q17k9 ?q17k10 ?q17k11 ?q17k12 ?q17k13 ?q17k14 ?q17k15 ?q17k16 ?q17k17 ?q17k18 ?q17k19 ?q18x ?q18r ?q18g ?q18h ?q18b ?q18c ?q18a ?q18o ?q18v ?q18k1 ?q18k2 ?q18k3 ?q18k4 ?q18k5 ?q18k6 ?q18k7 ?q18k8 ?q18k9 ?q18k10 ?q18k11 ?q18k12 ?q18k13 ?q18k14 ?q18k15 ?q18k16 ?q18k17 ?q18k18 ?q18k19
  (case aCBench=>k_is)
  (case pgBench=>k_is)
  (case hdBench=>k_is)
  (case poBench=>k_is)
  (case saBench=>k_is)
  (case mkBench=>k_is)
  (case kcBench=>k_is)
  (case naBenchkept=>k_is)
  (case naBenchearlier=>k_is)
  (case a1=>k_is)
  (case l1=>k_is)
  (case c1=>k_is)
  (case k1=>k_is)
  (case a2=>k_is)
  (case l2=>k_is)
  (case c2=>k_is)
  (case k2=>k_is)
  (case a3=>k_is)
  (case l3=>k_is)
  (case c3=>k_is)
  (case k3=>k_is)
  (case a4=>k_is)
  (case l4=>k_is)
  (case c4=>k_is)
  (case k4=>k_is)
  (case a5=>k_is)
  (case l5=>k_is)
  (case c5=>k_is)
  (case k5=>k_is)
  (case a6=>k_is)
  (case l6=>k_is)
  (case c6=>k_is)
  (case k6=>k_is)
  (case a7=>k_is)
  (case l7=>k_is)
  (case c7=>k_is)
  (case k7=>k_is)
  (case a8=>k_is)
  (case l8=>k_is)
  (case c8=>k_is)
  (case k8=>k_is)
  (case a9=>k_is)
  (case l9=>k_is)
  (case c9=>k_is)
  (case k9=>k_is)
  (case a10=>k_is)
  (case l10=>k_is)
  (case c10=>k_is)
  (case k10=>k_is)
  (case a11=>k_is)
  (case l11=>k_is)
  (case c11=>k_is)
  (case k11=>k_is)
  (case a12=>k_is)
  (case l12=>k_is)
  (case c12=>k_is)
  (case k12=>k_is)
  (case a13=>k_is)
  (case l13=>k_is)
  (case c13=>k_is)
  (case k13=>k_is)
  (case a14=>k_is)
  (case l14=>k_is)
  (case c14=>k_is)
  (case k14=>k_is)
  (case a15=>k_is)
  (case i15=>k_is)
  (case l15=>k_is)
  (case c15=>k_is)
  (case k15=>k_is)
  (case a16=>k_is)
  (case i16=>k_is)
  (case l16=>k_is)
  (case c16=>k_is)
  (case k16=>k_is)
  (case a17=>k_is)
  (case i17=>k_is)
  (case l17=>k_is)
  (case c17=>k_is)
  (case k17=>k_is)
  (case a18=>k_is)
  (case i18=>k_is)
  (case l18=>k_is)
  (case c18=>k_is)
  (case k18=>k_is)
  (case a19=>k_is)
  (case i19=>k_is)
  (case l19=>k_is)
  (case c19=>k_is)
  (case k19=>k_is)
  (case a20=>k_is)
  (case i20=>k_is)
  (case l20=>k_is)
  (case c20=>k_is)
  (case k20=>k_is)
  (case a21=>k_is)
  (case i21=>k_is)
  (case l21=>k_is)
  (case c21=>k_is)
  (case k21=>k_is)
  (case a22=>k_is)
  (case i22=>k_is)
  (case l22=>k_is)
  (case c22=>k_is)
  (case k22=>k_is)
  (case a23=>k_is)
  (case i23=>k_is)
  (case l23=>k_is)
  (case c23=>k_is)
  (case k23=>k_is)
  (case a24=>k_is)
  (case i24=>k_is)
  (case l24=>k_is)
  (case c24=>k_is)
  (case k24=>k_is)
  (case a25=>k_is)
  (case i25=>k_is)
  (case l25=>k_is)
  (case c25=>k_is)
  (case k25=>k_is)
  (case a26=>k_is)
  (case i26=>k_is)
  (case l26=>k_is)
  (case c26=>k_is)
  (case k26=>k_is)
  (case a27=>k_is)
  (case l27=>k_is)
  (case c27=>k_is)
  (case k27=>k_is)
  (case a28=>k_is)
  (case l28=>k_is)
  (case c28=>k_is)
  (case k28=>k_is)
  (case a29=>k_is)
  (case l29=>k_is)
  (case c29=>k_is)
  (case k29=>k_is)
  (case a30=>k_is)
  (case l30=>k_is)
  (case c30=>k_is)
  (case k30=>k_is)
  (case a31=>k_is)
  (case l31=>k_is)
  (case c31=>k_is)
  (case k31=>k_is)
  (case a32=>k_is)
  (case l32=>k_is)
  (case c32=>k_is)
  (case k32=>k_is)
  (case a33=>k_is)
  (case l33=>k_is)
  (case c33=>k_is)
  (case k33=>k_is)
  (case a34=>k_is)
  (case l34=>k_is)
  (case c34=>k_is)
  (case k34=>k_is)
  (case a35=>k_is)
  (case l35=>k_is)
  (case c35=>k_is)
  (case k35=>k_is)
  (case a36=>k_is)
  (case l36=>k_is)
  (case c36=>k_is)
  (case k36=>k_is)
  (case a37=>k_is)
  (case l37=>k_is)
  (case c37=>k_is)
  (case k37=>k_is)
  (case a38=>k_is)
  (case l38=>k_is)
  (case c38=>k_is)
  (case k38=>k_is)
  (case a39=>k_is)
  (case l39=>k_is)
  (case c39=>k_is)
  (case k39=>k_is)
  (case a40=>k_is)
  (case l40=>k_is)
  (case c40=>k_is)
  (case k40=>k_is)
  (case a41=>k_is)
  (case l41=>k_is)
  (case c41=>k_is)
  (case k41=>k_is)
  (case a42=>k_is)
  (case l42=>k_is)
  (case c42=>k_is)
  (case k42=>k_is)
  (case z1=>k_is)
  (case z2=>k_is)
  (case z3=>k_is)
  (case z4=>k_is)
  (case z5=>k_is)
  (case z6=>k_is)
  (case z7=>k_is)
  (case z8=>k_is)
  (case z9=>k_is)
  (case z10=>k_is)
  (case z11=>k_is)
  (case z12=>k_is)
  (case z13=>k_is)
  (case z14=>k_is)
  (case z15=>k_is)
  (case z16=>k_is)
  (case z17=>k_is)
  (case z18=>k_is)
  (case z19=>k_is)
  (case z20=>k_is)
  (case aA=>k_is)
  (case aRB=>k_is)
  (case aCS=>k_is)
  (case zD=>k_is)
  (case e1=>k_is)
  (case e2=>k_is)
  (case e3=>k_is)
  (case e4=>k_is)
  (case e5=>k_is)
  (case e6=>k_is)
  (case e7=>k_is)
  (case e8=>k_is)
  (case e9=>k_is)
  (case e10=>k_is)
  (case e11=>k_is)
  (case e12=>k_is)
  (case e13=>k_is)
  (case e14=>k_is)
  (case e15=>k_is)
  (case e16=>k_is)
  (case e17=>k_is)
  (case e18=>k_is)
  (case e19=>k_is)
  (case eR=>k_is)
  (case r1=>k_is)
  (case r2=>k_is)
  (case r3=>k_is)
  (case u1=>k_is)
  (case u2=>k_is)
  (case q6x=>k_exc)
  (case q6r=>k_is)
  (case q6g=>k_is)
  (case q6h=>k_is)
  (case q6b=>k_is)
  (case q6c=>k_is)
  (case q6a=>k_is)
  (case q6o=>k_is)
  (case q6v=>kit_is)
  (case q6k1=>kit_is)
  (case q6k2=>kit_is)
  (case q6k3=>kit_is)
  (case q6k4=>kit_is)
  (case q6k5=>kit_is)
  (case q6k6=>kit_is)
  (case q6k7=>kit_is)
  (case q6k8=>kit_is)
  (case q6k9=>kit_is)
  (case q6k10=>kit_is)
  (case q6k11=>kit_is)
  (case q6k12=>kit_is)
  (case q6k13=>kit_is)
  (case q6k14=>kit_is)
  (case q6k15=>kit_is)
  (case q6k16=>kit_is)
  (case q6k17=>kit_is)
  (case q6k18=>kit_is)
  (case q6k19=>kit_is)
  (case q9x=>k_exc)
  (case q9r=>k_is)
  (case q9g=>k_is)
  (case q9h=>k_is)
  (case q9b=>k_is)
  (case q9c=>k_is)
  (case q9a=>k_is)
  (case q9o=>k_is)
  (case q9v=>kit_is)
  (case q9k1=>kit_is)
  (case q9k2=>kit_is)
  (case q9k3=>kit_is)
  (case q9k4=>kit_is)
  (case q9k5=>kit_is)
  (case q9k6=>kit_is)
  (case q9k7=>kit_is)
  (case q9k8=>kit_is)
  (case q9k9=>kit_is)
  (case q9k10=>kit_is)
  (case q9k11=>kit_is)
  (case q9k12=>kit_is)
  (case q9k13=>kit_is)
  (case q9k14=>kit_is)
  (case q9k15=>kit_is)
  (case q9k16=>kit_is)
  (case q9k17=>kit_is)
  (case q9k18=>kit_is)
  (case q9k19=>kit_is)
  (case q16x=>k_exc)
  (case q16r=>k_is)
  (case q16g=>k_is)
  (case q16h=>k_is)
  (case q16b=>k_is)
  (case q16c=>k_is)
  (case q16a=>k_is)
  (case q16o=>k_is)
  (case q16v=>kit_is)
  (case q16k1=>kit_is)
  (case q16k2=>kit_is)
  (case q16k3=>kit_is)
  (case q16k4=>kit_is)
  (case q16k5=>kit_is)
  (case q16k6=>kit_is)
  (case q16k7=>kit_is)
  (case q16k8=>kit_is)
  (case q16k9=>kit_is)
  (case q16k10=>kit_is)
  (case q16k11=>kit_is)
  (case q16k12=>kit_is)
  (case q16k13=>kit_is)
  (case q16k14=>kit_is)
  (case q16k15=>kit_is)
  (case q16k16=>kit_is)
  (case q16k17=>kit_is)
  (case q16k18=>kit_is)
  (case q16k19=>kit_is)
  (case q17x=>k_exc)
  (case q17r=>k_is)
  (case q17g=>k_is)
  (case q17h=>k_is)
  (case q17b=>k_is)
  (case q17c=>k_is)
  (case q17a=>k_is)
  (case q17o=>k_is)
  (case q17v=>kit_is)
  (case q17k1=>kit_is)
  (case q17k2=>kit_is)
  (case q17k3=>kit_is)
  (case q17k4=>kit_is)
  (case q17k5=>kit_is)
  (case q17k6=>kit_is)
  (case q17k7=>kit_is)
  (case q17k8=>kit_is)
  (case q17k9=>kit_is)
  (case q17k10=>kit_is)
  (case q17k11=>kit_is)
  (case q17k12=>kit_is)
  (case q17k13=>kit_is)
  (case q17k14=>kit_is)
  (case q17k15=>kit_is)
  (case q17k16=>kit_is)
  (case q17k17=>kit_is)
  (case q17k18=>kit_is)
  (case q17k19=>kit_is)
  (case q18x=>k_exc)
  (case q18r=>k_is)
  (case q18g=>k_is)
  (case q18h=>k_is)
  (case q18b=>k_is)
  (case q18c=>k_is)
  (case q18a=>k_is)
  (case q18o=>k_is)
  (case q18v=>kit_is)
  (case q18k1=>kit_is)
  (case q18k2=>kit_is)
  (case q18k3=>kit_is)
  (case q18k4=>kit_is)
  (case q18k5=>kit_is)
  (case q18k6=>kit_is)
  (case q18k7=>kit_is)
  (case q18k8=>kit_is)
  (case q18k9=>kit_is)
  (case q18k10=>kit_is)
  (case q18k11=>kit_is)
  (case q18k12=>kit_is)
  (case q18k13=>kit_is)
  (case q18k14=>kit_is)
  (case q18k15=>kit_is)
  (case q18k16=>kit_is)
  (case q18k17=>kit_is)
  (case q18k18=>kit_is)
  (case q18k19=>kit_is)
