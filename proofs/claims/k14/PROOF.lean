import PyProof.Rows.All
import Wide.All
import OpenK.AllK
import Wide.FinOn
import Lean
import PyProof.EqAt
import PyProof.EqKinds
import PyProof.TupleCall
import PyProof.Rows.SortRuns
import PyProof.Rows.SortShellK
import PyProof.P3Eq
import PyProof.Draws
import PyProof.EnumMake
import PyProof.NeData
import KE.LcSums
import PyProof.WalkInts
import PyProof.SeqI3
import KE.KSortTup
import KE.KRevIter
import PyProof.FactsAll.range_2
import PySem.Challenge.RW_rooklands_k14_stands_numbered
local macro_rules | `(tactic| omega) => `(tactic| first | lia | omega +splitDisjunctions)
open PySem renaming wpAny_bind->Qa,PyData->Qb,wpAny_pure->Qk,FuncData->QL,Program->QP,Expr->Q5,Around->Js,World->JH,wpAny_newObj_type->JS,wpAny_field->JZ,wpAny_mono->J6,Heap->Zl,wpAny_truthy_bool->Zp,wpAny_callSpecial?_slot->Zz,wpAny_call_entry->ZV,wpAny_holding->Z2,Stmt->Z6,ReadsAll->Yg,wpAny_rule->Yj,wpAny_seqItems->YE,wpAny_setField_rec->YN,wpAny_pyIter_tuple->YO,wpAny_Call_Name_kw->YQ,Paired->YR,wpAny_passesOwn->Y4,wpAny_of_eq->Y5,wpAny_execs_nil->Y6,mem_of_lookup->Qac,wpAny_loadPart'->QaO,call_meets->Qa8,NameKind->Qbb,Scope->Qbk,wpAny_execs_cons->Qbr,Reads->Qbs,codeAny_mono->Qca,wpAny_pyIter_enum->Qcr,wpAny_attempt->QcM,Operator->QcN,Keyword->QcR,Builtin->QcT,wpAny_pyIter_zip->Qda,wpAny_pyIter_rangeiter->Qdd,Builtin->QdZ,BindsTo->Qd1,wpAny_call->Qd9,wpAny_updateSeq_pair->Qet,wpAny_onRaise->Qf4,PassesOwn->Qf7,wpAny_sequenceKey->Qhc,wpAny_Return_some->Qhd,wpAny_typeOf->Qih,seqIndex_neg->Qii,IsPart->Qil,noFill_tuple_add->Qiq,seqIndex_of->Qks,Fin->Qkz,Model->QkB,IsRangeIter->QkD,CmpOp->QkF,wpAny_newFunctionEnv_cells->Qlr,wpAny_letOwnedTupleGo_enum->Qls,wpAny_letOwnedTupleGo_zip->QlE,wpAny_comprehension_free->Qov,wpAny_standAt->QoE,seq_tuple_add->QoG,rangeSize_one->QoH,evalPart_none->QoJ,call->QoK,wpAny_pyNext_range_end->QrN,wpAny_getItem_list_neg->QrO,codeAny_compStart_list->QrQ,concat_meets->QsE,codeAny_call_function->QsF,IsZip->QsK,wpAny_newFunctionEnv->QuM,wpAny_loadName_local->QuN,codeAny_call_builtin->QuO,wpAny_loadName_cell->QuY,wpAny_letGo->QuZ,wpAny_List_spliced->QxC,ZipApart->QxD,Within->QxE,wpAny_pyIter_list->QxZ,wpAny_assign_Name->Qx0,wpAny_Name->Qx1,typeIs_int->Qx2,slot_list_getitem->Qx3
open PySem.W renaming Frag->Qc,keepIn->Qd,kitOne->Qg,nsIn->Qm,mg_of->Qr,codeIn->QB,fnOf->QJ,mg_none_of->Q0,kia_one->Zg,mroIn->Zo,findIn->ZC,excIn->Z5,kia_tup->Qal,clsIn->Qam,callWith_K->Qbp,cellsFrom_some->QbW,methodObj->QdX,kitx_list->QdY,instObj->Qfh,OpenLaw->Qfi,lookIn->Qf6,looks_mroIn->Qkx,hideAll_get->Qky,of_hideAll->Qlu,kitx_tuple->Qlv,codeRec_of->Qlw,specialIn->QlF,kitx_none->QlG,kitx_dict->QlH,kitx_bool->QlI,plainGet->Qox,kitx_str->Qoy,kitx_int->Qoz,takesIn->QoL,hideAll->QoM,typeIn->QrR,kitAny->QrS,looks_findIn->QsD,WalkO->QsG,Looks->QsH
open PySem.Heap renaming get?_push_of_some->Qe,lt_size->Qv,get?_push_size->QK,size_push->Y9,SameBut->QbE,get?_update_other->QkE,get?_update_self->QlA,IsTuple->QlB,FlyingW->Qym
open List renaming getElem?_eq_getElem->Qf,length_map->Qh,size_toArray->Qp,length_append->Qq,getElem?_eq_some_iff->Qx,mem_map->Qy,mem_cons->Qz,getElem?_map->QD,length_cons->QU,mem_of_getElem?->QV,append_assoc->QZ,not_mem_nil->Jb,append_nil->Je,replicate->Jh,mem_filter->Ji,map_append->Jj,pairwise_append->Jk,mem_append->Jm,getElem?_eq_none->Jn,mem_singleton->Jo,lookup_cons->Jq,map_map->Jt,getElem?_append_right->Ju,mem_cons_of_mem->Jw,map_cons->JC,getD_eq_getElem?_getD->JE,mem_append_right->JG,length_range->JN,range->JX,getElem?_append_left->J5,take_append_drop->Zc,mem_iff_getElem?->Zd,length_take->Zi,getElem?_range->Zk,mem_cons_self->Zt,all_eq_true->Zw,replicate_succ->ZH,pairwise_iff_getElem->ZI,drop_zero->ZJ,nodup_append->ZX,flatMap_cons->ZY,length_set->Z0,mem_range->Z9,flatten_cons->Yc,getElem?_replicate->Yh,filter_cons_of_pos->Yi,take_length->Ym,mem_toArray->Yn,mem_flatMap->Yo,take_of_length_le->Ys,drop_of_length_le->Yt,mem_filterMap->Yw,pairwise_map->YS,mem_append_left->YW,extract_eq_take_drop->Y7,drop_eq_getElem_cons->Y8,length_drop->Qad,any_eq_true->Qae,length_reverse->Qaj,filterMap_cons->Qak,getElem?_cons_succ->Qas,filter_cons_of_neg->Qat,filterMap_map->Qau,getElem?_set_self->QaF,filter_eq_nil_iff->QaG,take_add_one->QaJ,mapM_toArray->QaK,ext_getElem?->QaL,perm_append_comm->QaU,length_replicate->QaV,getElem?_set_ne->Qa9,dropLast_concat_getLast->Qbc,nil_append->Qbq,pairwise_cons->QbC,getElem?_drop->QbD,reverse_cons->QbT,filterMap_cons_some->QbU,filterMap_cons_none->QbV,getElem_mem->Qcl,of_mem_zip->QcE,nodup_cons->QcF,length_singleton->QcG,length_nil->QcH,length_filter_le->QcI,foldl_cons->QcJ,mem_of_mem_take->Qdc,take_take->Qdf,map_congr_left->QdO,flatMap_append->QdP,zip_cons_cons->Qeb,getElem?_take->Qec,take_sublist->Qfd,getElem?_set->Qfe,zipIdx_cons->Qfr,range_succ->Qg3,lookup->Qg4,forIn_cons->Qg5,perm_ext_iff_of_nodup->Qhm,drop_drop->Qik,pairwise_singleton->Qjl,map_take->Qjm,getElem?_cons_zero->Qjn,all_cons->Qjo,pairwise_flatMap->Qlx,pairwise_and_iff->Qly,all_map->Qlz,mem_of_mem_drop->QlL,mem_of_getLast?->QlM,getLast?_append->QlN,filter_append->QoO,foldl->QrU,getElem_map->QsJ,zipIdx_nil->QuR,take_range->QuS,take_zero->Qu5,forIn_nil->Qu6,take_nil->QxH,sum_cons->QxI,drop_nil->QxJ,any_cons->QxK,map_nil->Qyi,any_map->Qyj
open PyProof.Rows renaming wpS_bind->Qi,wpS_pure->Qj,slot_tuple_getitem->Jg,callWith_type1->JJ,wpS_forRange->Za,SortSt->Zb,wpS_mono->Yu,SortKind->Yv,wpS_modify->QaD,wpS_get->Qci,step_dedup->Qcs,AllBare->Qd2,wpS_lift->Qd8,slicePart_none->Qfc,entry_tuple_getitem->Qff,args_tuple_getitem->Qf5,oneTypeOnly'_eq->Qkt,get?_update_seq->Qku,tupleItemsOf_->QoF,listUpdate_at->QoI,subscriptTail_builtinR->QrP,seqEpoch_at->Qu0,Subscript_->Qx7
open Nat renaming le_refl->Ql,zero_le->QC,le_trans->QQ,ne_of_lt->QY,lt_of_lt_of_le->Q1,zero_add->Zy,pow_le_pow_right->Yb,lt_irrefl->Yk,min_eq_left->YH,le_of_lt->YI,lt_of_le_of_lt->QbL,add_sub_cancel->QbM,sub_self->QcO,ne_of_gt->QcP,min_self->QcQ,mul_le_mul_right->Qde,add_zero->Qfq,le_max_right->Qf8,two_pow_pos->Qhl,add_sub_cancel_left->QkA,succ_mul->QlJ,sub_zero->QlK,lt_succ_of_lt->QsI,min_le_right->QuQ,not_lt_zero->Qu3,min_le_left->Qu4,mul_le_mul->QxG
open Array renaming length_toList->Qo,toList_append->JA,getElem?_toList->ZO,perm_iff_toList_perm->YT,toList_extract->Qa7,size_extract->QbA,getElem?_eq_getElem->QbF,toList_reverse->QcU,mem_toList_iff->QcV,all_eq_true_iff_forall_mem->Qee,toList_push->Qev,toList_inj->Qfj,getD_eq_getD_getElem?->Qgc,toList_setIfInBounds->Qg8,mem_of_getElem?->QkG,getElem_toList->QlD,size_map->QuW,toList->QxO
open Bool renaming false_ne_true->Qt,and_eq_true_iff->Qu,and_eq_true->Jr,false_eq_true->Yx,eq_iff_iff->YG,false_and->Qab,true_and->Qav,and_false->Qin,or_eq_true->QuU,decide_and->QuV,and_true->QxN
open Option.some renaming inj->Qw
open Int renaming toNat_natCast->QN,add_zero->QcS,natCast_nonneg->Qeu,zero_add->Qfs
open Or renaming inl->QR,inr->Q2
open PySem.PyData renaming canLayAll0->Q4,eqv->Q6,int->Q7,depthAll->Jc,depth->Jp,tuple->Yd,bool->Ye,str->YF,canLay0->YV,list->QaE,none->QbS,eqvAll->QdN
open PySem.NameKind renaming free->Jf,cell->YB
open False renaming elim->Jz
open PySem.Builtin.Range renaming rangeFitsLong->JI,rangeSize->ZN,rangeFields->Qyr
open PySem.Builtin.SmallTypes renaming nextOf->JO,ownedTupleIsFree->ZK,ownedTupleHandOut->Qbt
open PySem.Value renaming ref->JT,none->Zs,bool->ZW,type->Yl,builtin->Qap,str->Qkv,int->Qkw,float->Qx6
open PySem.Builtin.Slice renaming slicePlaces->JU,sliceAdjust->Zu,sliceApplied->Yp,sliceFields->Qd0,slicePartIndex->Qyq
open List.Pairwise renaming filter->JV,imp->Qct,imp_of_mem->Qed,map->Qhn,of_map->Qyk,nil->Qyl
open PySem.PassesOwn renaming never->JW
open PySem.Builtin.Tuple renaming tupleExact->JY,tupleItemsOf->QaP,tupleIsExact->Qyo,tupleCompareSizes->Qyp
open ForInStep renaming yield->J7,done->Qbl
open PySem.Builtin.Int renaming intBits->Zv,intTooBig->Qgb
open Option renaming map_eq_some_iff->Zx,isSome_iff_exists->Qhk,getD_none->QoN,none->QxF
open PySem.F renaming plainAttrs_list->ZQ,slot_tuple_iterator_next->Qaa,args_tuple_add_2->QbB,entry_tuple_add->QbP,slot_tuple_add->QbX,slot_tuple_lt->Qcj,slot_zip_next->Qdg,slot_range_reversed->Qdh,excBase_ValueError->Qfp,type_list_index->Qhh,slot_list_index->Qhi,args_tuple_lt_2->Qhj,entry_tuple_lt->Qij,args_tuple_iterator_next_1->Qim,entry_tuple_iterator_next->Qir,plain_reversed_new->QrV,excAttr_ValueError->QrW,args_list_index_2->QsL,entry_list_index->QuT,slot_list_index->Qu7,args_zip_next_1->Qu8,entry_zip_next->QxM,slot_int_rmul->Qyn
open PySem.Obj renaming mapSeq->Yr,data_mapFields->QrT
open PySem.Builtin.List renaming listTooLong->YJ
open List.Perm renaming append_right->Qan,append_left->Qaw,trans->QaX,refl->QoA
open True renaming intro->QaH
open PySem.Challenge renaming rw_rooklands_k14_stands_numbered->QaI,pw_rooklands_k14_stands_numbered->Qu1
open PySem.Str renaming ofString->QaW
open PySem.SeqAt.Reads renaming unique->Qa6
open PySem.PyData.int renaming inj->Qck
open PySem.Builtin renaming bitAnd->QcK,bitOr->Qdi
open PySem.SeqAt renaming eqv_refl->Qdb,eqAt_reads->Qfg,list_indexAt->Qow
open Ne renaming symm->Qea
open Array.Perm renaming refl->Qef
open Int.ofNat renaming inj->Qf9
open PySem.Heap.IsSliceOf renaming new->Qga
open PySem.Heap.SameBut renaming update->Qg6
open PySem.Calls renaming Name_function_global->Qg7,evalArgs_plain->QlC,spliced_cons->QoB,spliced_nil->QoP
open Sum renaming inr->Qhe,inl->Qhf
open PySem.SeqAt.EqAt renaming bool_bool->Qhg
open PyProof.Rows.IsTup renaming new->QkC
open PySem.Shared renaming heap->Qlt
open PySem.Paired renaming length->QuP
open Prod.mk renaming inj->Qu2
open PySem.Heap.UpToSlots renaming of_keeps->QxL
open PySem.Walks renaming range->Qx4
open PySem.W.WShape renaming has->Qx5
open PyProof.Rows.SortSt renaming mk'->Qx8
open PySem.W.Looks renaming of_pure->Qx9
open PySem.EqMixed renaming ne_str_int->Qya,ne_str_bool->Qyb,ne_int_str->Qyc,ne_bool_str->Qyd,eq_str_int->Qye,eq_str_bool->Qyf,eq_int_str->Qyg,eq_bool_str->Qyh
open PySem PySem.Spec PyProof.Rows
set_option Elab.async false
set_option linter.all false
set_option maxRecDepth 100000
namespace L2
abbrev Key:=Sum Int Str
def QwO:Key->Value->Bool
 |.inl k,v=>Value.isInt k v
 |.inr x,v=>Value.isStrOf x v
def QAA(w:JH):Key->Int
 |.inl k=>hashInt k
 |.inr x=>hashStr w x
theorem Ya:∀{k:Key}{v:Value},QwO k v=true->(∃i t,k=Qhf i/\v=Qkw i t)∨(∃x t,k=Qhe x/\v=Qkv x t)
 |.inl i,v,h=>by
  obtain⟨t,e⟩:=Value.isInt_shape (k:=i) (v:=v) h;exact .inl ⟨i,t,rfl,e⟩
 |.inr x,v,h=>by
  obtain⟨t,e⟩:=Value.isStrOf_shape (x:=x) (v:=v) h;exact .inr ⟨x,t,rfl,e⟩
theorem QwN(a b:Int):decide ((Qhf a:Key)=Qhf b)=(a == b):=by
 by_cases e:a=b
 ·subst e;simp
 ·have h:¬(Qhf a:Key)=Qhf b:=λq=>e (Sum.inl.inj q)
  rw[decide_eq_false h];exact(beq_eq_false_iff_ne.mpr e).symm
theorem QwJ(a b:Str):decide ((Qhe a:Key)=Qhe b)=decide (a=b):=by
 by_cases e:a=b
 ·subst e;simp
 ·have h:¬(Qhe a:Key)=Qhe b:=λq=>e (Sum.inr.inj q)
  rw[decide_eq_false h,decide_eq_false e]
theorem QwM(a:Int)(b:Str):decide ((Qhf a:Key)=Qhe b)=false:=decide_eq_false (λq=>nomatch q)
theorem QwK(a:Str)(b:Int):decide ((Qhe a:Key)=Qhf b)=false:=decide_eq_false (λq=>nomatch q)
def mixKind(prog:QP)(w:JH):PySem.KeyKind prog w Key where
 is:=QwO
 hash:=QAA w
 inj:=λv a b ha hb=>by
  rcases Ya ha with⟨i,t,rfl,rfl⟩ | ⟨x,t,rfl,rfl⟩
  ·rcases Ya hb with⟨j,u,rfl,e⟩ | ⟨y,u,rfl,e⟩
   ·injection e with e1 _;rw[e1]
   ·exact nomatch e
  ·rcases Ya hb with⟨j,u,rfl,e⟩ | ⟨y,u,rfl,e⟩
   ·exact nomatch e
   ·injection e with e1 _;rw[e1]
 byValue:=λk v h=>by
  rcases Ya h with⟨i,t,rfl,rfl⟩ | ⟨x,t,rfl,rfl⟩<;>rfl
 pyHash:=λhv h=>by
  rcases Ya hv with⟨i,t,rfl,rfl⟩ | ⟨x,t,rfl,rfl⟩
  ·exact wpAny_pyHash_int h
  ·exact wpAny_pyHash_str h
 eqBool:=λhu hv h=>by
  rcases Ya hu with⟨i,t,rfl,rfl⟩ | ⟨x,t,rfl,rfl⟩
  ·rcases Ya hv with⟨j,u,rfl,rfl⟩ | ⟨y,u,rfl,rfl⟩
   ·rw[QwN] at h;exact wpAny_eqBool_int h
   ·rw[QwM] at h;exact SeqAt.EqAt.int_str i t y u _ _ _ _ h
  ·rcases Ya hv with⟨j,u,rfl,rfl⟩ | ⟨y,u,rfl,rfl⟩
   ·rw[QwK] at h;exact SeqAt.EqAt.str_int x t j u _ _ _ _ h
   ·rw[QwJ] at h;exact wpAny_eqBool_str h
 «strs» := λk x t v h=>by
  rcases Ya h with⟨i,u,rfl,e⟩ | ⟨y,u,rfl,e⟩
  ·exact nomatch e
  ·injection e with e1 _
   subst e1;cases v<;>rfl
inductive V where
 |non | bl (b:Bool) | int (i:Int) | str (x:Str) | byt (b:Array UInt8) | flt (b:UInt64) | ref (a:Addr) | ty (n:String)
 deriving DecidableEq
def RelV:V->Value->Prop
 |.non,u=>u=Zs
 |.bl b,u=>u=ZW b
 |.int i,u=>∃t,u=Qkw i t
 |.str x,u=>∃t,u=Qkv x t
 |.byt b,u=>∃t,u=Value.bytes b t
 |.flt b,u=>∃t,u=Qx6 b t
 |.ref a,u=>u=JT a
 |.ty n,u=>u=Yl n
abbrev Vals:List V->List Value->Prop:=YR RelV
theorem Vals.length{xs:List V}{us:List Value}(r:Vals xs us):xs.length=us.length:=QuP r
theorem Vals.get:∀{xs:List V}{us:List Value}{i:Nat}{x:V},Vals xs us->xs[i]? = some x->∃u,us[i]? = some u/\RelV x u
 |_,_,_,_,.nil,e=>by simp at e
 |_,_,0,_,.cons r _,e=>by simp at e;subst e;exact⟨_,rfl,r⟩
 |_,_,i+1,x,.cons _ t,e=>by
  obtain⟨u,h1,h2⟩:=Vals.get (i:=i) (x:=x) t (by simpa using e);exact⟨u,by simpa using h1,h2⟩
theorem Vals.set{x:V}{u:Value}(r:RelV x u):∀{xs:List V}{us:List Value}(i:Nat),Vals xs us->Vals (xs.set i x) (us.set i u)
 |_,_,_,.nil=>.nil
 |_,_,0,.cons _ t=>.cons r t
 |_,_,i+1,.cons q t=>.cons q (Vals.set r i t)
theorem Vals.append:∀{xs ys:List V}{us ws:List Value},Vals xs us->Vals ys ws->Vals (xs++ys) (us++ws)
 |_,_,_,_,.nil,s=>s
 |_,_,_,_,.cons r t,s=>.cons r (Vals.append t s)
theorem Vals.take:∀{xs:List V}{us:List Value}(n:Nat),Vals xs us->Vals (xs.take n) (us.take n)
 |_,_,0,_=>.nil
 |_,_,_+1,.nil=>.nil
 |_,_,n+1,.cons r t=>.cons r (Vals.take n t)
theorem Vals.drop:∀{xs:List V}{us:List Value}(n:Nat),Vals xs us->Vals (xs.drop n) (us.drop n)
 |_,_,0,r=>r
 |_,_,_+1,.nil=>.nil
 |_,_,n+1,.cons _ t=>Vals.drop n t
def Qzr:Option V->Option Value->Prop
 |some v,some u=>RelV v u
 |none,none=>True
 |_,_=>False
def KV{κ:Type}:List (κ×V)->List (κ×Value)->Prop:=YR λ(p:κ×V)(q:κ×Value)=>p.1=q.1/\RelV p.2 q.2
def kV:Key->V
 |.inl i=>.int i
 |.inr x=>.str x
inductive HO where
 /-- a list -/
 |lst (xs:List V)
 /-- a tuple (never changes) -/
 |tup (xs:List V)
 /-- a dict whose keys are ints and texts;one whose keys are tuples of ints and texts (the empty one is both) -/
 |dK (kvs:List (Key×V)) | dT (kvs:List (List Key×V))
 /-- a set of ints: its members,its size -/
 |set (S:Int->Bool) (n:Nat)
 /-- an instance of the class at C,its dict at dx,its attributes -/
 |ins (C dx:Addr) (fs:List (Str×V))
 /-- the dict of the instance at x -/
 |own (x:Addr)
 /-- the dict of an exception -/
 |xd (fs:List (Str×V))
 /-- a bound method,f of x -/
 |met (f x:Addr)
 /-- a range object lo,lo+1,.. below hi -/
 |rng (lo hi:Int)
 /-- a thing that is known to the object (the script;a dict while a loop walks it): read,never written while it is so -/
 |frz (o:Obj) (u:HO)
 /-- a code object's table -/
 |tbl (ps:Array Value)
 /-- any other thing,by what is true of its one object (a def of one's own: SetO a S n:=HO.ext λh=>..) -/
 |ext (φ:Zl->Prop)
abbrev Hp:=Addr->Option HO
def upd(H:Hp)(a:Addr)(o:HO):Hp:=λb=>if b=a then some o else H b
theorem JK{H:Hp}{a:Addr}{o:HO}:upd H a o a=some o:=by unfold upd;rw[if_pos rfl]
theorem J8{H:Hp}{a b:Addr}{o:HO}(h:b≠a):upd H a o b=H b:=by unfold upd;rw[if_neg h]
theorem Z1{H:Hp}{a b:Addr}{o:HO}(h:H a=some o)(h':H b=none):a≠b:=by
 intro e;subst e;rw[h] at h';cases h'
section
variable(P:QP)(w:JH)
def ObjOk(H:Hp)(h:Zl)(a:Addr):HO->Prop
 |.lst xs=>xs.length<=sizeLine/\∃(its:List Value)(n:Nat),Vals xs its/\h.get? a=some { cls:=.type "list",data:=.seq its.toArray n }
 |.tup xs=>xs.length<=sizeLine/\∃its:List Value,Vals xs its/\IsTup h a its.toArray
 |.dK kvs=>kvs.length<=sizeLine/\(a == sysModules)=false/\∃vs,KV kvs vs/\h.DictOf (mixKind P w) a vs
 |.dT kvs=>kvs.length<=sizeLine/\(a == sysModules)=false/\∃xs:List (List Key×Addr×Value),
   YR (λ(p:List Key×V)(q:List Key×Addr×Value)=>p.1=q.1/\H q.2.1=some (.tup (p.1.map kV))/\RelV p.2 q.2.2) kvs xs /\
   ∃o es ep,h.get? a=some o/\o.ExactDict/\o.data=.dict es ep/\es.toList=xs.map (entryOfKey (tupleKind (mixKind P w)))/\(xs.map (·.1)).Nodup
 |.set S n=>h.SetOf (intKind P w) a S n
 |.ins C dx fs=>H dx=some (.own a)/\fs.length<=1000/\dx≠a/\h.get? a=some (PySem.W.instObj C dx) /\
   ∃mA,h.Ns1 dx mA/\(∀f,Qzr (fs.lookup f) (mA f))/\PySem.Within mA (fs.map (·.1))
 |.own _=>∃o,h.get? a=some o
 |.xd fs=>∃mA,h.Ns1 a mA/\∀f,Qzr (fs.lookup f) (mA f)
 |.rng lo hi=>∃t u v,h.get? a=some { cls:=.type "range",data:=.fields #[.int lo t,.int hi u,.int 1 v] }
 |.frz o u=>h.get? a=some o/\ObjOk H h a u
 |.tbl ps=>h.get? a=some { cls:=.none,data:=.fields ps }
 |.met f x=>h.get? a=some (PySem.W.methodObj (.ref f) (.ref x))
 |.ext φ=>φ h/\(∃o,h.get? a=some o)/\∀h1 h2:Zl,φ h1->(∀o,h1.get? a=some o->h2.get? a=some o)->φ h2
def HOk(H:Hp)(h:Zl):Prop:=∀a o,H a=some o->ObjOk P w H h a o
end
section
variable{P:QP}{w:JH}{H H':Hp}{h h':Zl}{a:Addr}{o:HO}
theorem ObjOk.lt(x:ObjOk P w H h a o):a<h.objs.size:=by
 cases o with
 |lst xs=>obtain⟨_,_,_,_,e⟩:=x;exact Qv e
 |tup xs=>obtain⟨_,_,_,p⟩:=x;exact p.lt
 |dK kvs=>obtain⟨_,_,_,_,o,_,_,e,_⟩:=x;exact Qv e
 |dT kvs=>obtain⟨_,_,_,_,o,_,_,e,_⟩:=x;exact Qv e
 |set S n=>obtain⟨o,_,_,_,e,_⟩:=x;exact Qv e
 |ins C dx fs=>obtain⟨_,_,_,e,_⟩:=x;exact Qv e
 |own y=>obtain⟨_,e⟩:=x;exact Qv e
 |xd fs=>obtain⟨_,⟨_,_,_,e,_⟩,_⟩:=x;exact Qv e
 |rng lo hi=>obtain⟨_,_,_,e⟩:=x;exact Qv e
 |frz ob u=>obtain⟨e,_⟩:=x;exact Qv e
 |tbl ps=>exact Qv (show h.get? a=some _ from x)
 |met f y=>exact Qv (show h.get? a=some _ from x)
 |ext φ=>obtain⟨_,⟨_,e⟩,_⟩:=x;exact Qv e
theorem YR.mapP{α β:Type}{F G:α->β->Prop}:∀{l₁:List α}{l₂:List β},YR F l₁ l₂->(∀a b,F a b->G a b)->YR G l₁ l₂
 |_,_,.nil,_=>.nil
 |_,_,.cons r t,f=>.cons (f _ _ r) (YR.mapP t f)
theorem ObjOk.stay(x:ObjOk P w H h a o)(k:∀b u,(b=a∨H b=some (.own a))->h.get? b=some u->h'.get? b=some u)
  (ho:∀b,H b=some (.own a)->H' b=some (.own a))(ht:∀b xs,H b=some (.tup xs)->H' b=some (.tup xs)):ObjOk P w H' h' a o:=by
 induction o with
 |lst xs=>obtain⟨z,its,n,r,e⟩:=x;exact⟨z,its,n,r,k _ _ (.inl rfl) e⟩
 |tup xs=>obtain⟨z,its,r,ob,e,c⟩:=x;exact⟨z,its,r,ob,k _ _ (.inl rfl) e,c⟩
 |dK kvs=>obtain⟨z,y,vs,r,ob,es,ep,e,c⟩:=x;exact⟨z,y,vs,r,ob,es,ep,k _ _ (.inl rfl) e,c⟩
 |dT kvs=>
  obtain⟨z,y,xs,r,ob,es,ep,e,c⟩:=x;exact⟨z,y,xs,YR.mapP r λp q z=>⟨z.1,ht _ _ z.2.1,z.2.2⟩,ob,es,ep,k _ _ (.inl rfl) e,c⟩
 |set S n=>obtain⟨ob,es,ep,t,e,c⟩:=x;exact⟨ob,es,ep,t,k _ _ (.inl rfl) e,c⟩
 |ins C dx fs=>
  obtain⟨d,z,ne,e,mA,⟨od,es,ep,e2,c⟩,r⟩:=x;exact⟨ho _ d,z,ne,k _ _ (.inl rfl) e,mA,⟨od,es,ep,k _ _ (.inr d) e2,c⟩,r⟩
 |own y=>obtain⟨ob,e⟩:=x;exact⟨ob,k _ _ (.inl rfl) e⟩
 |xd fs=>obtain⟨mA,⟨od,es,ep,e,c⟩,r⟩:=x;exact⟨mA,⟨od,es,ep,k _ _ (.inl rfl) e,c⟩,r⟩
 |rng lo hi=>obtain⟨t,u,v,e⟩:=x;exact⟨t,u,v,k _ _ (.inl rfl) e⟩
 |frz ob u ih=>obtain⟨e,q⟩:=x;exact⟨k _ _ (.inl rfl) e,ih q⟩
 |tbl ps=>
  have e:h.get? a=some { cls:=.none,data:=.fields ps }:=x;show h'.get? a=some { cls:=.none,data:=.fields ps };exact k a _ (.inl rfl) e
 |met f y=>
  have e:h.get? a=some (PySem.W.methodObj (.ref f) (.ref y)):=x;show h'.get? a=some (PySem.W.methodObj (.ref f) (.ref y));exact k a _ (.inl rfl) e
 |ext φ=>obtain⟨p,⟨o,e⟩,st⟩:=x;exact⟨st _ _ p λo q=>k _ _ (.inl rfl) q,⟨o,k _ _ (.inl rfl) e⟩,st⟩
theorem HOk.lt(x:HOk P w H h)(e:H a=some o):a<h.objs.size:=(x a o e).lt
theorem HOk.fresh(x:HOk P w H h)(e:h.objs.size<=a):H a=none:=by
 cases q:H a with
 |none=>rfl
 |some u=>exact absurd (Q1 (x.lt q) e) (Yk _)
theorem HOk.kept(x:HOk P w H h)(k:∀b u,h.get? b=some u->h'.get? b=some u):HOk P w H h':=λa o e=>
 (x a o e).stay (λb u _ q=>k b u q) (λ_ q=>q) λ_ _ q=>q
theorem HOk.laid(x:HOk P w H h)(k:∀b u,h.get? b=some u->h'.get? b=some u)(hp:h.objs.size<=a)(new:ObjOk P w (upd H a o) h' a o):HOk P w (upd H a o) h':=λb u e=>by
 have hn:=x.fresh hp;by_cases hb:b=a
 ·subst hb;rw[JK] at e;cases e;exact new
 ·rw[J8 hb] at e;exact(x b u e).stay (λc v _ q=>k c v q) (λc q=>by rw[J8 (Z1 q hn)];exact q) λc xs q=>by rw[J8 (Z1 q hn)];exact q
end
def Rd(H:Hp)(a:Addr)(u:HO):Prop:=H a=some u∨∃o,H a=some (.frz o u)
theorem Rd.ok{P:QP}{w:JH}{H:Hp}{h:Zl}{a:Addr}{u:HO}(r:Rd H a u)(x:HOk P w H h):ObjOk P w H h a u:=by
 rcases r with r | ⟨o,r⟩
 ·exact x a u r
 ·obtain⟨_,q⟩:=x a _ r;exact q
def Mut:Option HO->Prop
 |some (.lst _)=>True
 |some (.dK _)=>True
 |some (.dT _)=>True
 |some (.set _ _)=>True
 |some (.ins _ _ _)=>True
 |some (.ext _)=>True
 |_=>False
section
variable{P:QP}{w:JH}{H:Hp}{h h':Zl}{x e:Addr}{o':HO}
theorem HOk.write(ok:HOk P w H h)(mu:Mut (H x))(he:e=x∨H e=some (.own x))(k:∀b u,b≠e->h.get? b=some u->h'.get? b=some u)(heo:∃u,h'.get? e=some u)
  (new:ObjOk P w (upd H x o') h' x o'):HOk P w (upd H x o') h':=λb u q=>by
 have nown:∀c y,H c=some (.own y)->c≠x:=λc y r z=>by subst z;rw[r] at mu;exact mu
 have ntup:∀c xs,H c=some (.tup xs)->c≠x:=λc xs r z=>by subst z;rw[r] at mu;exact mu
 by_cases hb:b=x
 ·subst hb;rw[JK] at q;cases q;exact new
 ·rw[J8 hb] at q;by_cases hbe:b=e
  ·have q':H b=some (.own x):=by
    rcases he with z | z
    ·exact absurd (hbe.trans z) hb
    ·rw[hbe];exact z
   rw[q] at q';cases q';obtain⟨v,hv⟩:=heo;exact⟨v,by rw[hbe];exact hv⟩
  ·refine(ok b u q).stay (λc v hc r=>k c v ?_ r) (λc r=>by rw[J8 (nown c b r)];exact r) λc xs r=>by rw[J8 (ntup c xs r)];exact r
   rcases hc with rfl | hc
   ·exact hbe
   ·rintro rfl;rcases he with z | z
    ·exact nown c b hc z
    ·rw[hc] at z;cases z;exact hb rfl
end
structure Un (fs ex:List Addr) (H H':Hp) (h h':Zl):Prop where
 keep:∀b o,h.get? b=some o->H b=none->b∉fs->b∉ex->h'.get? b=some o
 slot:∀b o,h.get? b=some o->H b=none->b∈fs->b∉ex->∃sl,h'.get? b=some { o with slots:=sl }
 free:∀b o,h.get? b=some o->H b=none->b∉ex->H' b=none
 there:∀b o,h.get? b=some o->b∉ex->∃o',h'.get? b=some o'
 tups:∀b xs,H b=some (.tup xs)->H' b=some (.tup xs)
 frzs:∀b o u,H b=some (.frz o u)->H' b=some (.frz o u)
 tbls:∀b ps,H b=some (.tbl ps)->∃more,H' b=some (.tbl (ps++more))
section
variable{fs fs' ex ex':List Addr}{H H1 H2:Hp}{h h1 h2 h':Zl}{a x e:Addr}{o:HO}
theorem Un.any(u:Un fs ex H H1 h h1){b:Addr}{ob:Obj}(q:h.get? b=some ob)(n:H b=none)(hx:b∉ex):∃sl,h1.get? b=some { ob with slots:=sl }:=by
 by_cases hb:b∈fs
 ·exact u.slot b ob q n hb hx
 ·exact⟨ob.slots,u.keep b ob q n hb hx⟩
theorem Un.kept(k:∀b u,h.get? b=some u->h'.get? b=some u):Un fs ex H H h h':=
 ⟨λb ob q _ _ _=>k b ob q,λb ob q _ _ _=>⟨ob.slots,k b ob q⟩,λ_ _ _ n _=>n,λb ob q _=>⟨ob,k b ob q⟩,λ_ _ q=>q,λ_ _ _ q=>q,λ_ ps q=>⟨#[],by rw[q];simp⟩⟩
theorem Un.refl:Un fs ex H H h h:=Un.kept λ_ _ q=>q
theorem Un.laid(k:∀b u,h.get? b=some u->h'.get? b=some u)(hp:h.objs.size<=a)(hn:H a=none):Un fs ex H (upd H a o) h h' where
 keep:=λb u q _ _ _=>k b u q
 slot:=λb u q _ _ _=>⟨u.slots,k b u q⟩
 free:=λb u q n _=>by rw[J8 (QY (Q1 (Qv q) hp))];exact n
 there:=λb u q _=>⟨u,k b u q⟩
 tups:=λb xs q=>by rw[J8 (Z1 q hn)];exact q
 frzs:=λb u xs q=>by rw[J8 (Z1 q hn)];exact q
 tbls:=λb ps q=>⟨#[],by rw[J8 (Z1 q hn),q];simp⟩
theorem Un.write(mu:Mut (H x))(he:e=x∨H e=some (.own x))(k:∀b u,b≠e->h.get? b=some u->h'.get? b=some u)(heo:∃u,h'.get? e=some u):Un fs ex H (upd H x o) h h':=by
 have hx:∀b,H b=none->b≠x:=λb n z=>by subst z;rw[n] at mu;exact mu
 have hb:∀b,H b=none->b≠e:=λb n z=>by
  subst z;rcases he with r | r
  ·exact hx b n r
  ·rw[n] at r;cases r
 have hm:∀b u,H b=some u->¬Mut (some u)->b≠x:=λb u q nm z=>by subst z;rw[q] at mu;exact nm mu
 refine⟨λb u q n _ _=>k b u (hb b n) q,λb u q n _ _=>⟨u.slots,k b u (hb b n) q⟩,λb u q n _=>by rw[J8 (hx b n)];exact n,λb u q _=>?_,
  λb xs q=>by rw[J8 (hm b _ q λz=>z)];exact q,λb u xs q=>by rw[J8 (hm b _ q λz=>z)];exact q,λb ps q=>⟨#[],by rw[J8 (hm b _ q λz=>z),q];simp⟩⟩
 by_cases hbe:b=e
 ·subst hbe;exact heo
 ·exact⟨u,k b u hbe q⟩
end
def trk(h:Zl)(H:Hp):List Addr:=(JX h.objs.size).filter λa=>(H a).isSome
def Qrp(h:Zl)(H:Hp):Zl:=PySem.W.hideAll h (trk h H)
theorem QnF(h:Zl)(H:Hp):(Qrp h H).objs.size=h.objs.size:=PySem.W.hideAll_size _ _
theorem Qro{h:Zl}{H:Hp}{b:Addr}{o:Obj}(e:h.get? b=some o)(n:H b=none):(Qrp h H).get? b=some o:=
 PySem.W.hideAll_get _ e λhm=>by
  have q:(H b).isSome=true:=(Ji.mp hm).2;rw[n] at q;simp at q
theorem Qt9{h:Zl}{H:Hp}{b:Addr}{o:Obj}(e:(Qrp h H).get? b=some o):h.get? b=some o/\H b=none:=by
 have e':h.get? b=some o:=PySem.W.of_hideAll (trk h H) e;refine⟨e',?_⟩;cases q:H b with
 |none=>rfl
 |some x=>
  have hm:b∈trk h H:=Ji.mpr ⟨Z9.mpr (Qv e'),by simp[q]⟩;have z:(Qrp h H).get? b=none:=PySem.W.hideAll_none (trk h H) hm;rw[z] at e;cases e
def QuK(g h:Zl)(L:Addr):List (Addr×Obj):=(JX h.objs.size).filterMap λa=>if a=L∨(g.get? a).isSome=true then none else(h.get? a).map λo=>(a,o)
def rest(g h:Zl)(L d:Addr):List (Addr×Obj):=(QuK g h L).filter λp=>decide (p.1≠d)
structure Mod (K:PySem.W.Frag) (mg:Str->Option Value) (base:Zl):Prop where
 kin:K.In base
 glob:base.Ns mainGlobals mg
 blt:∃mb,base.Ns builtinsNs mb/\∀x:Str,x ≠ "__name__" -> mb x=bootBuiltins x
 nolimit:base.NoLimit
structure Cx where
 prog:QP
 w:JH
 K:PySem.W.Frag
 mg:Str->Option Value
 base:Zl
 A:Js
 N:List Str
 s₀:Shared
 H₀:Hp
 env:Env
 outer:List Env
 stack:List Env
 ex:List Addr
 fn:Str->Bool
 calm:Bool
 pn:List (Addr×Obj)
 xe:Value->Shared->Prop
def frs(l:List Env):List Addr:=l.filterMap (·.frame)
abbrev Cx.fs (X:Cx):List Addr:=frs X.outer
def Vis(sc:Qbk)(x:Str):Prop:=sc.names.lookup x=some .local∨sc.names.lookup x=some .cell∨sc.names.lookup x=some .free
def Loc(sc:Qbk)(x:Str):Prop:=sc.names.lookup x=some .local∨sc.names.lookup x=some .cell
def Look(env:Env)(h:Zl)(m:Str->Option Value)(x:Str)(u:Value):Prop:=
 (env.kindOf x=some .local/\m x=some u)∨((env.kindOf x=some .cell∨env.kindOf x=some .free)/\∃c,env.cells.lookup x=some c/\h.IsCell c (some u))
structure Cx.Ok (X:Cx):Prop where
 mod:Mod X.K X.mg X.base
 kind:X.env.scope.kind=.function
 glob:X.env.globals=mainGlobals
 blt:X.env.builtins=builtinsNs
 above:X.s₀.heap.objs.size<=X.env.locals
 inj:∀x y c,X.env.cells.lookup x=some c->X.env.cells.lookup y=some c->x=y
 has:∀x,(X.env.kindOf x=some .cell∨X.env.kindOf x=some .free)->∃c,X.env.cells.lookup x=some c
 cab:∀x c,X.fn x=true->X.env.cells.lookup x=some c->X.s₀.heap.objs.size<=c
 hd:X.calm=true->X.A.handled=none
 frames:X.A.frames=some X.stack
 stk:X.stack=X.outer∨(X.stack=X.env::X.outer/\X.env.frame=some X.env.locals)
 exf:∀b∈X.ex,b≠X.env.locals/\∀x c,X.env.cells.lookup x=some c->c≠b
 bs:∀b o,X.base.get? b=some o->X.s₀.heap.get? b=some o/\X.H₀ b=none
 bsz:X.base.objs.size<=X.s₀.heap.objs.size
 noex:∀b o,X.base.get? b=some o->b∉X.ex
 exfs:∀b∈X.ex,b∉X.fs
 funs:X.s₀.heap.FunFrames X.base X.outer
 frf:∀b∈X.fs,X.H₀ b=none
structure Inv (X:Cx) (pins:List (Addr×Obj)) (σ:List (Option V)) (H:Hp) (s:Shared):Prop where
 ok:X.Ok
 os:s.os=X.s₀.os
 bare:Qd2 s.gens
 base:Un X.fs X.ex X.H₀ H X.s₀.heap s.heap
 loc:∃m,s.heap.Ns X.env.locals m/\∀(i:Nat)(x:Str)(v:V),X.N[i]? = some x->σ[i]? = some (some v)->Vis X.env.scope x->∃u,RelV v u/\Look X.env s.heap m x u
 cell:∀x c,X.env.cells.lookup x=some c->∃v,s.heap.IsCell c v
 free:H X.env.locals=none
 freeC:∀x c,X.env.cells.lookup x=some c->H c=none
 pin:∀p∈X.pn++pins,s.heap.get? p.1=some p.2/\H p.1=none/\p.1≠X.env.locals/\p.1∉X.fs/\∀v,p.2.data≠.cell v
 hok:HOk X.prog X.w H s.heap
 len:σ.length=X.N.length
section
variable{X:Cx}{pins:List (Addr×Obj)}{σ:List (Option V)}{H H':Hp}{s:Shared}{h':Zl}
theorem Cx.Ok.nofr(ok:X.Ok){b:Addr}{o:Obj}(e:X.base.get? b=some o):b∉X.fs:=λhb=>by
 have:=(ok.funs.mem hb).1;rw[e] at this;cases this
theorem Inv.bs(I:Inv X pins σ H s):∀b o,X.base.get? b=some o->s.heap.get? b=some o/\H b=none:=λb o e=>
 ⟨I.base.keep b o (I.ok.bs b o e).1 (I.ok.bs b o e).2 (I.ok.nofr e) (I.ok.noex b o e),I.base.free b o (I.ok.bs b o e).1 (I.ok.bs b o e).2 (I.ok.noex b o e)⟩
theorem Inv.bk(I:Inv X pins σ H s):∀b o,X.base.get? b=some o->s.heap.get? b=some o:=λb o e=>(I.bs b o e).1
theorem Inv.mod(I:Inv X pins σ H s):Mod X.K X.mg X.base:=I.ok.mod
theorem Inv.kIn(I:Inv X pins σ H s):X.K.In s.heap:=I.ok.mod.kin.keeps I.bk
theorem Inv.fr(I:Inv X pins σ H s):∃m,Fr X.base X.env.locals s.heap m:=
 let ⟨m,hn,_⟩:=I.loc
 ⟨m,hn,I.bk,QQ I.ok.bsz I.ok.above⟩
theorem Inv.lt(I:Inv X pins σ H s):X.env.locals<s.heap.objs.size:=let ⟨_,hn,_⟩:=I.loc;hn.lt
theorem Inv.sz(I:Inv X pins σ H s):X.s₀.heap.objs.size<=s.heap.objs.size:=QQ I.ok.above (YI I.lt)
theorem Inv.nofs(I:Inv X pins σ H s){a:Addr}(h:s.heap.objs.size<=a):a∉X.fs:=λhb=>by
 obtain⟨_,o,ho,_⟩:=I.ok.funs.mem hb;exact absurd (Q1 (Qv ho) (QQ I.sz h)) (Yk _)
theorem Inv.cne(I:Inv X pins σ H s):∀x c,X.env.cells.lookup x=some c->c≠X.env.locals:=λx c e z=>by
 obtain⟨v,o,ho,hd⟩:=I.cell x c e;obtain⟨m,⟨o',es,ep,ho',hd',_⟩,_⟩:=I.loc;rw[z,ho'] at ho;cases ho;rw[hd'] at hd;cases hd
theorem Inv.funs(I:Inv X pins σ H s):s.heap.FunFrames X.base X.outer:=by
 have all:∀(l:List Env),(∀b∈frs l,b∈X.fs)->X.s₀.heap.FunFrames X.base l->s.heap.FunFrames X.base l:=by
  intro l;induction l with
  |nil=>intro _ _;trivial
  |cons env r ih=>
   intro hs hl;obtain⟨hk,⟨L,o,hf,hn,ho,hd⟩,hr⟩:=hl;have hL:L∈X.fs:=hs L (by unfold frs;rw[Qak,hf];exact Zt);obtain⟨sl,e⟩:=I.base.slot L o ho (I.ok.frf L hL) hL λz=>I.ok.exfs L z hL
   exact⟨hk,⟨L,_,hf,hn,e,hd⟩,ih (λb hb=>hs b (by unfold frs;rw[Qak,hf];exact Jw _ hb)) hr⟩
 exact all X.outer (λ_ hb=>hb) I.ok.funs
theorem Inv.stack(I:Inv X pins σ H s):s.heap.FunFrames X.base X.stack:=by
 rcases I.ok.stk with e | ⟨e,hf⟩
 ·rw[e];exact I.funs
 ·rw[e];obtain⟨m,hn,_⟩:=I.loc;refine .cons (by rw[I.ok.kind];decide) hf hn ?_ I.funs
  exact Heap.get?_none_of_le (QQ I.ok.bsz I.ok.above)
theorem Inv.stkSub(I:Inv X pins σ H s):∀b∈frs X.stack,b∈X.env.locals::X.fs:=λb hb=>by
 rcases I.ok.stk with e | ⟨e,hf⟩
 ·rw[e] at hb;exact Jw _ hb
 ·rw[e] at hb;unfold frs at hb;rw[Qak,hf] at hb;exact hb
theorem Inv.stkFree(I:Inv X pins σ H s):∀b∈frs X.stack,H b=none:=λb hb=>by
 rcases Qz.mp (I.stkSub b hb) with e | hb
 ·rw[e];exact I.free
 ·obtain⟨_,o,ho,_⟩:=I.ok.funs.mem hb;exact I.base.free b o ho (I.ok.frf b hb) λz=>I.ok.exfs b z hb
theorem Inv.step{g':Array GenState}{t':Nat}{d':Drawn}{ch:List Addr}(I:Inv X pins σ H s)
  (hch:∀b∈ch,(b∈X.ex∨X.s₀.heap.objs.size<=b)/\b≠X.env.locals/\(∀x c,X.env.cells.lookup x=some c->c≠b)/\∀p∈X.pn++pins,p.1≠b)
  (keep:∀b o,b≠X.env.locals->b∉X.fs->b∉ch->s.heap.get? b=some o->H b=none->h'.get? b=some o)
  (slot:∀b o,b≠X.env.locals->b∈X.fs->b∉ch->s.heap.get? b=some o->H b=none->∃sl,h'.get? b=some { o with slots:=sl })(free:∀b o,b∉ch->s.heap.get? b=some o->H b=none->H' b=none)
  (there:∀b o,b∉ch->s.heap.get? b=some o->∃o',h'.get? b=some o')
  (tups:∀b xs,H b=some (.tup xs)->H' b=some (.tup xs))(frzs:∀b o u,H b=some (.frz o u)->H' b=some (.frz o u))(tbls:∀b ps,H b=some (.tbl ps)->∃more,H' b=some (.tbl (ps++more)))
  (ns:∀m,s.heap.Ns X.env.locals m->h'.Ns X.env.locals m)(hok:HOk X.prog X.w H' h')(hg:Qd2 g') :
  Inv X pins σ H' { s with heap:=h',gens:=g',drawn:=d',toks:=t' }:=by
 have neL:∀b o,X.s₀.heap.get? b=some o->b≠X.env.locals:=λb o e=>QY (Q1 (Qv e) I.ok.above)
 have neC:∀b o,X.s₀.heap.get? b=some o->b∉X.ex->b∉ch:=λb o e hx hb=>by
  rcases(hch b hb).1 with z | z
  ·exact hx z
  ·exact absurd (Q1 (Qv e) z) (Yk _)
 have cellK:∀x c,X.env.cells.lookup x=some c->∀v,s.heap.IsCell c v->h'.IsCell c v:=λx c e v ⟨o,ho,hd⟩=>by
  have nch:c∉ch:=λz=>(hch c z).2.2.1 x c e rfl
  by_cases hc:c∈X.fs
  ·obtain⟨sl,q⟩:=slot c o (I.cne x c e) hc nch ho (I.freeC x c e);exact⟨_,q,hd⟩
  ·exact⟨o,keep c o (I.cne x c e) hc nch ho (I.freeC x c e),hd⟩
 refine⟨I.ok,I.os,hg,⟨λb o e n hb hx=>?_,λb o e n hb hx=>?_,λb o e n hx=>?_,λb o e hx=>?_,λb xs e=>tups b xs (I.base.tups b xs e),λb o xs e=>frzs b o xs (I.base.frzs b o xs e),λb ps e=>?_⟩,?_,λx c e=>?_,?_,λx c e=>?_,λp hp=>?_,hok,I.len⟩
 ·exact keep b o (neL b o e) hb (neC b o e hx) (I.base.keep b o e n hb hx) (I.base.free b o e n hx)
 ·obtain⟨sl,e1⟩:=I.base.slot b o e n hb hx;obtain⟨sl',e2⟩:=slot b _ (neL b o e) hb (neC b o e hx) e1 (I.base.free b o e n hx);exact⟨sl',e2⟩
 ·obtain⟨o',e1⟩:=I.base.there b o e hx;exact free b o' (neC b o e hx) e1 (I.base.free b o e n hx)
 ·obtain⟨o',e1⟩:=I.base.there b o e hx;exact there b o' (neC b o e hx) e1
 ·obtain⟨m1,e1⟩:=I.base.tbls b ps e;obtain⟨m2,e2⟩:=tbls b _ e1;exact⟨m1++m2,by rw[e2,Array.append_assoc]⟩
 ·obtain⟨m,hn,hl⟩:=I.loc;refine⟨m,ns m hn,λi x v e1 e2 e3=>?_⟩;obtain⟨u,r,l⟩:=hl i x v e1 e2 e3;refine⟨u,r,?_⟩;rcases l with l | ⟨k,c,e,z⟩
  ·exact .inl l
  ·exact .inr ⟨k,c,e,cellK x c e _ z⟩
 ·obtain⟨v,z⟩:=I.cell x c e;exact⟨v,cellK x c e v z⟩
 ·obtain⟨m,⟨o,_,_,ho,_⟩,_⟩:=I.loc;exact free _ o (λz=>(hch _ z).2.1 rfl) ho I.free
 ·obtain⟨v,o,ho,hd⟩:=I.cell x c e;exact free c o (λz=>(hch c z).2.2.1 x c e rfl) ho (I.freeC x c e)
 ·obtain⟨e,n,ne,nf,d⟩:=I.pin p hp;have nch:p.1∉ch:=λz=>(hch p.1 z).2.2.2 p hp rfl
  exact⟨keep p.1 p.2 ne nf nch e n,free p.1 p.2 nch e n,ne,nf,d⟩
theorem Inv.un{t':Nat}(I:Inv X pins σ H s)(u:Un X.fs [] H H' s.heap h')(hok:HOk X.prog X.w H' h'):Inv X pins σ H' { s with heap:=h',toks:=t' }:=by
 obtain⟨m,⟨o,es,ep,ho,r⟩,_⟩:=id I.loc;obtain⟨sl,hL⟩:=u.any ho I.free (by simp);exact I.step (g':=s.gens) (d':=s.drawn) (ch:=[]) (λ_ z=>nomatch z) (λb o _ hb _ e n=>u.keep b o e n hb (by simp)) (λb o _ hb _ e n=>u.slot b o e n hb (by simp)) (λb o _ e n=>u.free b o e n (by simp)) (λb o _ e=>u.there b o e (by simp)) u.tups u.frzs u.tbls (λm' hm=>by
  obtain⟨o',es',ep',ho',r'⟩:=hm;rw[ho] at ho';cases ho';exact⟨_,es',ep',hL,r'⟩) hok I.bare
theorem Inv.call{g':Array GenState}{t':Nat}{d':Drawn}{ch:List Addr}(I:Inv X pins σ H s)(u:Un (frs X.stack) ch H H' s.heap h')(hok:HOk X.prog X.w H' h')(hg:Qd2 g')
  (hch:∀b∈ch,(b∈X.ex∨X.s₀.heap.objs.size<=b)/\b≠X.env.locals/\(∀x c,X.env.cells.lookup x=some c->c≠b)/\∀p∈X.pn++pins,p.1≠b) :
  Inv X pins σ H' { s with heap:=h',gens:=g',drawn:=d',toks:=t' }:=by
 obtain⟨m,⟨o,es,ep,ho,r⟩,_⟩:=id I.loc;obtain⟨sl,hL⟩:=u.any ho I.free λz=>(hch _ z).2.1 rfl
 exact I.step (ch:=ch) hch (λb o hL hb hc e n=>u.keep b o e n (λz=>(Qz.mp (I.stkSub b z)).elim hL hb) hc) (λb o _ _ hc e n=>u.any e n hc) (λb o hc e n=>u.free b o e n hc) (λb o hc e=>u.there b o e hc) u.tups u.frzs u.tbls (λm' hm=>by
  obtain⟨o',es',ep',ho',r'⟩:=hm;rw[ho] at ho';cases ho';exact⟨_,es',ep',hL,r'⟩) hok hg
theorem Inv.turned{t':Nat}{it:Addr}(I:Inv X pins σ H s)(k:∀b o,b≠it->s.heap.get? b=some o->h'.get? b=some o)(hn:H it=none)(hL:it≠X.env.locals)
  (h1:it∈X.ex∨X.s₀.heap.objs.size<=it)(h2:∀x c,X.env.cells.lookup x=some c->c≠it)(h3:∀p∈X.pn++pins,p.1≠it):Inv X pins σ H { s with heap:=h',toks:=t' }:=by
 have nit:∀b u,H b=some u->b≠it:=λb u e z=>by rw[z,hn] at e;cases e
 refine I.step (g':=s.gens) (d':=s.drawn) (ch:=[it]) (λb hb=>?_) (λb o _ _ hc e _=>k b o (λz=>hc (by simp[z])) e) (λb o _ _ hc e _=>⟨o.slots,k b o (λz=>hc (by simp[z])) e⟩) (λ_ _ _ _ n=>n)
  (λb o hc e=>⟨o,k b o (λz=>hc (by simp[z])) e⟩) (λ_ _ e=>e) (λ_ _ _ e=>e) (λb ps e=>⟨#[],by rw[e];simp⟩) (λm hm=>?_) (λb u e=>?_) I.bare
 ·have e:b=it:=by simpa using hb
  subst e;exact⟨h1,hL,h2,h3⟩
 ·obtain⟨o,es,ep,ho,r⟩:=hm;exact⟨o,es,ep,k _ o (Qea hL) ho,r⟩
 ·refine(I.hok b u e).stay (λc v hc q=>k c v ?_ q) (λ_ q=>q) λ_ _ q=>q
  rcases hc with z | z
  ·rw[z];exact nit b u e
  ·exact nit c _ z
theorem Inv.tok(I:Inv X pins σ H s)(t:Nat):Inv X pins σ H { s with toks:=t }:=I.un (h':=s.heap) (t':=t) Un.refl I.hok
theorem Inv.kept{t':Nat}(I:Inv X pins σ H s)(k:∀b u,s.heap.get? b=some u->h'.get? b=some u):Inv X pins σ H { s with heap:=h',toks:=t' }:=I.un (Un.kept k) (I.hok.kept k)
theorem Inv.laid{a:Addr}{o:HO}{t':Nat}(I:Inv X pins σ H s)(k:∀b u,s.heap.get? b=some u->h'.get? b=some u)(hp:s.heap.objs.size<=a)(new:ObjOk X.prog X.w (upd H a o) h' a o) :
  Inv X pins σ (upd H a o) { s with heap:=h',toks:=t' }:=I.un (Un.laid k hp (I.hok.fresh hp)) (I.hok.laid k hp new)
theorem Inv.write{x e:Addr}{o:HO}{t':Nat}(I:Inv X pins σ H s)(mu:Mut (H x))(he:e=x∨H e=some (.own x))(k:∀b u,b≠e->s.heap.get? b=some u->h'.get? b=some u)(heo:∃u,h'.get? e=some u)
  (new:ObjOk X.prog X.w (upd H x o) h' x o):Inv X pins σ (upd H x o) { s with heap:=h',toks:=t' }:=I.un (Un.write mu he k heo) (I.hok.write mu he k heo new)
theorem Inv.weak{σ':List (Option V)}(I:Inv X pins σ H s)(hl:σ'.length=σ.length)(w:∀(i:Nat) v,σ'[i]? = some (some v)->σ[i]? = some (some v)):Inv X pins σ' H s:=
 ⟨I.ok,I.os,I.bare,I.base,let ⟨m,hn,hl'⟩:=I.loc;⟨m,hn,λi x v e1 e2 e3=>hl' i x v e1 (w i v e2) e3⟩,I.cell,I.free,I.freeC,I.pin,I.hok,hl.trans I.len⟩
theorem Inv.pins_of{pins':List (Addr×Obj)}(I:Inv X pins σ H s)(h:∀p∈pins',s.heap.get? p.1=some p.2/\H p.1=none/\p.1≠X.env.locals/\p.1∉X.fs/\∀v,p.2.data≠.cell v):Inv X pins' σ H s:=
 ⟨I.ok,I.os,I.bare,I.base,I.loc,I.cell,I.free,I.freeC,λp hp=>(Jm.mp hp).elim (λz=>I.pin p (YW _ z)) (h p),I.hok,I.len⟩
theorem QgH{N:List Str}(hN:N.Nodup){i j:Nat}{x:Str}(a:N[i]? = some x)(b:N[j]? = some x):i=j:=by
 obtain⟨h1,e1⟩:=Qx.mp a;obtain⟨h2,e2⟩:=Qx.mp b;exact(List.getElem_inj hN).mp (e1.trans e2.symm)
theorem Qhu{M:QkB}{A:Js}{E:Value->Shared->Prop}{i:Nat}{x:Str}{v:V}{u:Value}{Q:Unit->Shared->Prop}(I:Inv X pins σ H s)(hN:X.N.Nodup)(hi:X.N[i]? = some x)(hx:Loc X.env.scope x)(r:RelV v u)
  (h:∀s',Inv X pins (σ.set i (some v)) H s'->(∃a,QbE a s.heap s'.heap/\(a=X.env.locals∨X.env.cells.lookup x=some a))->Q () s')(hf:X.fn x=true∨X.env.scope.names.lookup x=some .local:=by first | exact .inl rfl | exact .inr rfl | assumption):wpAny M A (storeName X.env x u) Q E s:=by
 obtain⟨m,hn,hl⟩:=id I.loc;have hcls:(X.env.scope.kind == .class||(X.env.scope.kind == .module&&X.env.locals != X.env.globals))=false:=by rw[I.ok.kind];rfl
 have hiσ:i < σ.length:=by rw[I.len];exact(Qx.mp hi).1
 have cne:=I.cne;have tracked:∀{a:Addr}{h':Zl},(∃o,s.heap.get? a=some o/\H a=none)->QbE a s.heap h'->HOk X.prog X.w H h':=λ{a h'} ha hs b ob e=>by
  obtain⟨_,_,hfree⟩:=ha;refine(I.hok b ob e).stay (λc w' hc q=>(hs.2 c ?_).trans q) (λ_ q=>q) λ_ _ q=>q
  rintro rfl;rcases hc with rfl | hc
  ·rw[hfree] at e;cases e
  ·rw[hfree] at hc;cases hc
 rcases hx with hk | hk
 ·refine wpAny_storeName_local hk hn (λh' hn' hs=>?_) hcls;obtain⟨oL,_,_,hoL,_⟩:=id hn;refine h _ ⟨I.ok,I.os,I.bare,⟨λb o e n hb hx=>?_,λb o e n hb hx=>?_,I.base.free,λb o e hx=>?_,I.base.tups,I.base.frzs,I.base.tbls⟩,⟨_,hn',λj y v' e1 e2 e3=>?_⟩,λy c e=>?_,I.free,I.freeC,λp hp=>?_,tracked ⟨oL,hoL,I.free⟩ hs,by simpa using I.len⟩ ⟨_,hs,.inl rfl⟩
  ·exact(hs.2 b (QY (Q1 (Qv e) I.ok.above))).trans (I.base.keep b o e n hb hx)
  ·obtain⟨sl,e1⟩:=I.base.slot b o e n hb hx;exact⟨sl,(hs.2 b (QY (Q1 (Qv e) I.ok.above))).trans e1⟩
  ·obtain⟨o',e1⟩:=I.base.there b o e hx;exact⟨o',(hs.2 b (QY (Q1 (Qv e) I.ok.above))).trans e1⟩
  ·by_cases hj:j=i
   ·subst hj;rw[hi] at e1;cases e1;rw[QaF hiσ] at e2;cases e2;exact⟨u,r,.inl ⟨hk,by simp⟩⟩
   ·rw[Qa9 (Qea hj)] at e2;obtain⟨u',r',q⟩:=hl j y v' e1 e2 e3;refine⟨u',r',?_⟩;rcases q with⟨k,e⟩ | ⟨k,c,e,z⟩
    ·refine .inl ⟨k,?_⟩;have:y≠x:=λe=>hj (QgH hN e1 (e ▸ hi))
     simp[this,e]
    ·exact .inr ⟨k,c,e,z.sameBut hs (cne y c e)⟩
  ·obtain⟨w',z⟩:=I.cell y c e;exact⟨w',z.sameBut hs (cne y c e)⟩
  ·obtain⟨e,n,ne,nf,d⟩:=I.pin p hp;exact⟨(hs.2 p.1 ne).trans e,n,ne,nf,d⟩
 ·have hfn:X.fn x=true:=by
   rcases hf with z | z
   ·exact z
   ·rw[z] at hk;cases hk
  obtain⟨c,hc⟩:=I.ok.has x (.inl hk);obtain⟨w',z⟩:=I.cell x c hc;refine wpAny_storeName_cell I.ok.kind hk hc z (λh' hc' hs=>?_);obtain⟨oc,hoc,hocd⟩:=id z;refine h { s with heap:=h' } ⟨I.ok,I.os,I.bare,⟨λb o e n hb hx=>?_,λb o e n hb hx=>?_,I.base.free,λb o e hx=>?_,I.base.tups,I.base.frzs,I.base.tbls⟩,⟨m,hn.sameBut hs (Qea (cne x c hc)),λj y v' e1 e2 e3=>?_⟩,λy c' e=>?_,I.free,I.freeC,λp hp=>?_,tracked ⟨oc,hoc,I.freeC x c hc⟩ hs,by simpa using I.len⟩ ⟨c,hs,.inr hc⟩
  ·exact(hs.2 b (QY (Q1 (Qv e) (I.ok.cab x c hfn hc)))).trans (I.base.keep b o e n hb hx)
  ·obtain⟨sl,e1⟩:=I.base.slot b o e n hb hx;exact⟨sl,(hs.2 b (QY (Q1 (Qv e) (I.ok.cab x c hfn hc)))).trans e1⟩
  ·obtain⟨o',e1⟩:=I.base.there b o e hx;exact⟨o',(hs.2 b (QY (Q1 (Qv e) (I.ok.cab x c hfn hc)))).trans e1⟩
  ·by_cases hj:j=i
   ·subst hj;rw[hi] at e1;cases e1;rw[QaF hiσ] at e2;cases e2;exact⟨u,r,.inr ⟨.inl hk,c,hc,hc'⟩⟩
   ·rw[Qa9 (Qea hj)] at e2;obtain⟨u',r',q⟩:=hl j y v' e1 e2 e3;refine⟨u',r',?_⟩;rcases q with q | ⟨k,c',e,z'⟩
    ·exact .inl q
    ·refine .inr ⟨k,c',e,z'.sameBut hs ?_⟩;rintro rfl;exact hj (QgH hN e1 (I.ok.inj _ _ _ e hc ▸ hi))
  ·by_cases hcc:c'=c
   ·subst hcc;exact⟨_,hc'⟩
   ·obtain⟨w2,z2⟩:=I.cell y c' e;exact⟨w2,z2.sameBut hs hcc⟩
  ·obtain⟨e,n,ne,nf,d⟩:=I.pin p hp;refine⟨(hs.2 p.1 ?_).trans e,n,ne,nf,d⟩;intro q;rw[q,hoc] at e;have q':oc=p.2:=Qw e;exact d w' (by rw[<- q'];exact hocd)
theorem Qeh{M:QkB}{A:Js}{E:Value->Shared->Prop}{i:Nat}{x:Str}{v:V}{u:Value}{Q:Unit->Shared->Prop}(I:Inv X pins σ H s)(hN:X.N.Nodup)(hi:X.N[i]? = some x)(hx:Loc X.env.scope x)(r:RelV v u)
  (h:∀s',Inv X pins (σ.set i (some v)) H s'->Q () s')(hf:X.fn x=true∨X.env.scope.names.lookup x=some .local:=by first | exact .inl rfl | exact .inr rfl | assumption):wpAny M A (storeName X.env x u) Q E s:=
 Qhu I hN hi hx r (λs' I' _=>h s' I') hf
theorem Inv.call'{s':Shared}{ch:List Addr}(I:Inv X pins σ H s)(ho:s'.os=s.os)(u:Un (frs X.stack) ch H H' s.heap s'.heap)(hok:HOk X.prog X.w H' s'.heap)(hg:Qd2 s'.gens)
  (hch:∀b∈ch,(b∈X.ex∨X.s₀.heap.objs.size<=b)/\b≠X.env.locals/\(∀x c,X.env.cells.lookup x=some c->c≠b)/\∀p∈X.pn++pins,p.1≠b):Inv X pins σ H' s':=by
 obtain⟨h',g',d',t',o'⟩:=s';have e:o'=s.os:=ho;subst e;exact I.call (g':=g') (t':=t') (d':=d') u hok hg hch
end
abbrev XK:=Value->Option Addr->Hp->Prop
abbrev St:=List (Option V)
abbrev VK:=V->Hp->Prop
abbrev TE:=St->Hp->VK->Prop
abbrev TT:=St->Hp->(Bool->Hp->Prop)->Prop
abbrev TA:=St->Hp->(List V->Hp->Prop)->Prop
structure Ends where
 nx:St->Hp->Prop
 rt:VK
 bk:St->Hp->Prop:=λ_ _=>False
 ct:St->Hp->Prop:=λ_ _=>False
abbrev TS:=Ends->St->Hp->Prop
def EP(X:Cx)(pins:List (Addr×Obj))(σ:St)(Q:VK)(u:Value)(s':Shared):Prop:=∃v H',Inv X pins σ H' s'/\RelV v u/\Q v H'
def TP(X:Cx)(pins:List (Addr×Obj))(σ:St)(Q:Bool->Hp->Prop)(b:Bool)(s':Shared):Prop:=∃H',Inv X pins σ H' s'/\Q b H'
def AP(X:Cx)(pins:List (Addr×Obj))(σ:St)(Q:List V->Hp->Prop)(us:List Value)(s':Shared):Prop:=∃vs H',Inv X pins σ H' s'/\Vals vs us/\Q vs H'
def SP(X:Cx)(pins:List (Addr×Obj))(D:Ends)(f:Flow)(s':Shared):Prop:=
 match f with
 |.next=>∃σ' H',Inv X pins σ' H' s'/\D.nx σ' H'
 |.brk=>∃σ' H',Inv X pins σ' H' s'/\D.bk σ' H'
 |.cont=>∃σ' H',Inv X pins σ' H' s'/\D.ct σ' H'
 |.ret u=>∃v σ' H',Inv X pins σ' H' s'/\RelV v u/\D.rt v H'
def PE(X:Cx)(e:Q5)(t:TE):Prop:=
 ∀(pins:List (Addr×Obj))(s:Shared)(σ:St)(H:Hp)(Q:VK),Inv X pins σ H s->t σ H Q->wpAny (model X.prog X.w) X.A (eval e X.env) (EP X pins σ Q) X.xe s
def PT(X:Cx)(e:Q5)(t:TT):Prop:=
 ∀(pins:List (Addr×Obj))(s:Shared)(σ:St)(H:Hp)(Q:Bool->Hp->Prop),Inv X pins σ H s->t σ H Q->wpAny (model X.prog X.w) X.A (isTrue e X.env (eval e X.env)) (TP X pins σ Q) X.xe s
def PW(X:Cx)(e:Q5)(t:TT):Prop:=
 ∀(whole:Sem Value)(pins:List (Addr×Obj))(s:Shared)(σ:St)(H:Hp)(Q:Bool->Hp->Prop),Inv X pins σ H s->t σ H Q->wpAny (model X.prog X.w) X.A (isTrue e X.env whole) (TP X pins σ Q) X.xe s
theorem PW.pt{X:Cx}{e:Q5}{t:TT}(h:PW X e t):PT X e t:=h _
def PA(X:Cx)(es:List Q5)(t:TA):Prop:=
 ∀(pos:Pos)(pins:List (Addr×Obj))(s:Shared)(σ:St)(H:Hp)(Q:List V->Hp->Prop),Inv X pins σ H s->t σ H Q->wpAny (model X.prog X.w) X.A (spliced (backTo pos (starEach es X.env))) (AP X pins σ Q) X.xe s
def PS(X:Cx)(st:Z6)(t:TS):Prop:=
 ∀(pins:List (Addr×Obj))(s:Shared)(σ:St)(H:Hp)(D:Ends),Inv X pins σ H s->t D σ H->wpAny (model X.prog X.w) X.A (exec st X.env) (SP X pins D) X.xe s
def PSs(X:Cx)(st:List Z6)(t:TS):Prop:=
 ∀(pins:List (Addr×Obj))(s:Shared)(σ:St)(H:Hp)(D:Ends),Inv X pins σ H s->t D σ H->wpAny (model X.prog X.w) X.A (execs st X.env) (SP X pins D) X.xe s
theorem thn{α:Type}{t:Sem α}{Q Q':α->Shared->Prop}{M:QkB}{A:Js}{E:Value->Shared->Prop}{s:Shared}(h:wpAny M A t Q E s)(hQ:∀a s,Q a s->Q' a s):wpAny M A t Q' E s:=J6 h hQ λ_ _ x=>x
section
variable{X:Cx}
def Qhs(i:Nat):TE:=λσ H Q=>∃v,σ[i]? = some (some v)/\Q v H
def tC(v:V):TE:=λ_ H Q=>Q v H
theorem Qsc{i:Nat}{x:Str}{pos:Pos}(hN:X.N[i]? = some x)(hv:Vis X.env.scope x)(hd:(x == ("__debug__" : Str))=false:=by decide)(hcd:(x == ("__classdict__" : Str))=false:=by decide):PE X (.Name x pos) (Qhs i):=by
 intro pins s σ H Q I h;obtain⟨v,e,h⟩:=h;obtain⟨m,hn,hl⟩:=I.loc;obtain⟨u,r,l⟩:=hl i x v hN e hv;have fin:EP X pins σ Q u s:=⟨v,H,I,r,h⟩;rcases l with⟨hk,hm⟩ | ⟨hk,c,hc,hcell⟩
 ·exact Qx1 (QuN I.ok.kind hk hn hm fin) hd
 ·rcases hk with hk | hk
  ·exact Qx1 (QuY I.ok.kind hk hc hcell fin) hd
  ·exact Qx1 (wpAny_loadName_free I.ok.kind hk hc hcell fin hcd) hd
theorem YM{i j pos}:PE X (.Constant (.int i) j pos) (tC (.int i)):=λ_ _ _ H _ I h=>wpAny_Constant_int ⟨.int i,H,I.tok _,⟨_,rfl⟩,h⟩
theorem Qpz{b j pos}:PE X (.Constant (.bool b) j pos) (tC (.bl b)):=λ_ _ _ H _ I h=>Constant_bool ⟨.bl b,H,I,rfl,h⟩
theorem Qse{j pos}:PE X (.Constant .none j pos) (tC .non):=λ_ _ _ H _ I h=>Constant_none ⟨.non,H,I,rfl,h⟩
theorem QmL{x j pos}:PE X (.Constant (.str x) j pos) (tC (.str x)):=λ_ _ _ H _ I h=>Calls.Constant_str ⟨.str x,H,I.tok _,⟨_,rfl⟩,h⟩
def Gl(X:Cx)(x:Str):Prop:=X.env.kindOf x=some .globalImplicit
theorem Qdz{E:Value->Shared->Prop}{pins:List (Addr×Obj)}{s:Shared}{σ:St}{H:Hp}{x:Str}{u:Value}{pos:Pos}{Q:Value->Shared->Prop}(I:Inv X pins σ H s)(hg:Gl X x)(hm:X.mg x=some u)(h:Q u s)
  (hd:(x == ("__debug__" : Str))=false:=by decide):wpAny (model X.prog X.w) X.A (eval (.Name x pos) X.env) Q E s:=
 Qg7 I.ok.kind hg (Calls.loadGlobal_global (by rw[I.ok.glob];exact I.mod.glob.keeps I.bk) hm h) hd
theorem Qcq{E:Value->Shared->Prop}{pins:List (Addr×Obj)}{s:Shared}{σ:St}{H:Hp}{x:Str}{u:Value}{pos:Pos}{Q:Value->Shared->Prop}(I:Inv X pins σ H s)(hg:Gl X x)(hm:X.mg x=none)(hv:bootBuiltins x=some u)(h:Q u s)
  (hn:x ≠ "__name__" := by decide)(hd:(x == ("__debug__" : Str))=false:=by decide):wpAny (model X.prog X.w) X.A (eval (.Name x pos) X.env) Q E s:=by
 obtain⟨mb,h1,h2⟩:=I.mod.blt;exact Qg7 I.ok.kind hg (Calls.loadGlobal_builtin (by rw[I.ok.glob];exact I.mod.glob.keeps I.bk) hm (by rw[I.ok.blt];exact h1.keeps I.bk) ((h2 x hn).trans hv) h) hd
theorem QmM{x:Str}{v:V}{u:Value}{pos:Pos}(hg:Gl X x)(hm:X.mg x=some u)(r:RelV v u)(hd:(x == ("__debug__" : Str))=false:=by decide):PE X (.Name x pos) (tC v):=
 λ_ _ _ H _ I h=>Qdz I hg hm ⟨v,H,I,r,h⟩ hd
theorem Qag{x:Str}{v:V}{u:Value}{pos:Pos}(hg:Gl X x)(hm:X.mg x=none)(hv:bootBuiltins x=some u)(r:RelV v u)(hn:x ≠ "__name__" := by decide)(hd:(x == ("__debug__" : Str))=false:=by decide):PE X (.Name x pos) (tC v):=
 λ_ _ _ H _ I h=>Qcq I hg hm hv ⟨v,H,I,r,h⟩ hn hd
variable{a b:Q5}{ta tb:TE}{pos:Pos}
def tB(t:TE):TT:=λσ H Q=>t σ H λx H1=>∃c,x=.bl c/\Q c H1
theorem QhH{e:Q5}{t:TE}(h:PE X e t)(he:∀whole,isTrue e X.env whole=(do let v <- whole;standAt e.pos;holding [v] (truthy v)):=by intro _;rfl):PT X e (tB t):=by
 intro pins s σ H Q I hw;refine isTrue_plain (thn (h pins s σ H _ I hw) λv s1 ⟨x,H1,I1,r1,q1⟩=>?_) (he _);obtain⟨d,rfl,q⟩:=q1;cases r1;exact Zp ⟨H1,I1,q⟩
variable{tA tB':TT}{rest:List Q5}
def QAm(t u:TT):TT:=λσ H Q=>t σ H λc H1=>if c=true then u σ H1 Q else Q false H1
def tOr(t u:TT):TT:=λσ H Q=>t σ H λc H1=>if c=true then Q true H1 else u σ H1 Q
def QAi(t:TT):TT:=λσ H Q=>t σ H λc H1=>Q (!c) H1
theorem Qth(ha:PT X a tA):PW X (.BoolOp .And [a] pos) tA:=by
 intro wh pins s σ H Q I h;refine isTrue_and (thn (ha pins s σ H Q I h) λc s1 e=>?_);cases c with
 |true=>exact isTrue_and_nil e
 |false=>exact e
theorem QjL(ha:PT X a tA):PW X (.BoolOp .Or [a] pos) tA:=by
 intro wh pins s σ H Q I h;refine isTrue_or (thn (ha pins s σ H Q I h) λc s1 e=>?_);cases c with
 |false=>exact isTrue_or_nil e
 |true=>exact e
theorem QvS(ha:PT X a tA)(hb:PW X (.BoolOp .And (b::rest) pos) tB'):PW X (.BoolOp .And (a::b::rest) pos) (QAm tA tB'):=by
 intro wh pins s σ H Q I h;refine isTrue_and (thn (ha pins s σ H _ I h) λc s1 ⟨H1,I1,q1⟩=>?_);cases c with
 |true=>exact hb wh pins s1 σ H1 Q I1 q1
 |false=>exact⟨H1,I1,q1⟩
theorem QmB(ha:PT X a tA)(hb:PW X (.BoolOp .Or (b::rest) pos) tB'):PW X (.BoolOp .Or (a::b::rest) pos) (tOr tA tB'):=by
 intro wh pins s σ H Q I h;refine isTrue_or (thn (ha pins s σ H _ I h) λc s1 ⟨H1,I1,q1⟩=>?_);cases c with
 |true=>exact⟨H1,I1,q1⟩
 |false=>exact hb wh pins s1 σ H1 Q I1 q1
theorem Qr5(ha:PT X a tA):PT X (.UnaryOp .Not a pos) (QAi tA):=by
 intro pins s σ H Q I h;exact isTrue_not (ha pins s σ H (λc H1=>Q (!c) H1) I h)
def Qyy(ta tb:TE):TE:=λσ H Q=>ta σ H λx H1=>∃c,x=.bl c/\if c=true then tb σ H1 Q else Q (.bl false) H1
def Qyu(ta:TE):TE:=λσ H Q=>ta σ H λx H1=>∃c,x=.bl c/\Q (.bl (!c)) H1
theorem QhJ{op}{t:TE}(h:PE X a t):PE X (.BoolOp op [a] pos) t:=λpins s σ H Q I hw=>BoolOp_one (h pins s σ H Q I hw)
theorem QhL(ha:PE X a ta)(hb:PE X (.BoolOp .And (b::rest) pos) tb):PE X (.BoolOp .And (a::b::rest) pos) (Qyy ta tb):=by
 intro pins s σ H Q I h;refine BoolOp_and (thn (ha pins s σ H _ I h) λv s1 ⟨x,H1,I1,r1,q1⟩=>?_);obtain⟨c,rfl,q1⟩:=q1;cases r1;refine Zp ?_
 cases c with
 |true=>exact hb pins s1 σ H1 Q I1 q1
 |false=>exact⟨.bl false,H1,I1,rfl,q1⟩
theorem Qsd(ha:PE X a ta):PE X (.UnaryOp .Not a pos) (Qyu ta):=by
 intro pins s σ H Q I h;refine UnaryOp_ (thn (ha pins s σ H _ I h) λv s1 ⟨x,H1,I1,r1,q1⟩=>?_);obtain⟨c,rfl,q1⟩:=q1;cases r1;exact not_of (Zp ⟨.bl (!c),H1,I1,rfl,q1⟩)
def tIf(t:TT)(ta tb:TE):TE:=λσ H Q=>t σ H λc H1=>if c=true then ta σ H1 Q else tb σ H1 Q
theorem Qpw{c:Q5}(hc:PT X c tA)(ha:PE X a ta)(hb:PE X b tb):PE X (.IfExp c a b pos) (tIf tA ta tb):=by
 intro pins s σ H Q I h;refine wpAny_IfExp (thn (hc pins s σ H _ I h) λd s1 ⟨H1,I1,q1⟩=>?_);cases d with
 |true=>exact ha pins s1 σ H1 Q I1 q1
 |false=>exact hb pins s1 σ H1 Q I1 q1
end
def SqL(K:PySem.W.Frag)(H:Hp)(a:Addr)(xs:List V):Prop:=
 Rd H a (.lst xs) ∨
  ∃(o:Obj)(its:Array Value)(n:Nat),K.lookup a=some o/\o.cls=.type "list" /\ o.dict=none/\o.data=.seq its n/\its.size<=sizeLine/\Vals xs its.toList
def SqT(K:PySem.W.Frag)(H:Hp)(a:Addr)(xs:List V):Prop:=
 Rd H a (.tup xs) ∨
  ∃(o:Obj)(its:Array Value)(n:Nat),K.lookup a=some o/\o.cls=.type "tuple" /\ o.data=.seq its n/\its.size<=sizeLine/\Vals xs its.toList
def QAP:Value->Option V
 |.none=>some .non
 |.bool b=>some (.bl b)
 |.int i _=>some (.int i)
 |.str x _=>some (.str x)
 |.bytes b _=>some (.byt b)
 |.float b _=>some (.flt b)
 |.ref a=>some (.ref a)
 |.type n=>some (.ty n)
 |_=>none
theorem RelV.abs{x:V}{u:Value}(r:RelV x u):QAP u=some x:=by
 cases x with
 |non=>cases r;rfl
 |bl _=>cases r;rfl
 |int _=>obtain⟨t,rfl⟩:=r;rfl
 |str _=>obtain⟨t,rfl⟩:=r;rfl
 |byt _=>obtain⟨t,rfl⟩:=r;rfl
 |flt _=>obtain⟨t,rfl⟩:=r;rfl
 |ref _=>cases r;rfl
 |ty _=>cases r;rfl
theorem RelV.inj{x y:V}{u:Value}(r:RelV x u)(q:RelV y u):x=y:=Qw (r.abs.symm.trans q.abs)
theorem Vals.inj:∀{xs ys:List V}{us:List Value},Vals xs us->Vals ys us->xs=ys
 |_,_,_,.nil,.nil=>rfl
 |_,_,_,.cons r t,.cons r' t'=>by rw[r.inj r',Vals.inj t t']
section
variable{X:Cx}{pins:List (Addr×Obj)}{σ:St}{H:Hp}{s:Shared}{a:Addr}{xs ys:List V}
theorem SqL.of{K:PySem.W.Frag}(h:H a=some (.lst xs)):SqL K H a xs:=.inl (.inl h)
theorem SqT.of{K:PySem.W.Frag}(h:H a=some (.tup xs)):SqT K H a xs:=.inl (.inl h)
theorem Inv.list(I:Inv X pins σ H s)(h:SqL X.K H a xs):∃its:List Value,Vals xs its/\PlainL s.heap a its.toArray/\xs.length<=sizeLine:=by
 rcases h with h | ⟨o,its,n,hk,hc,hd,hs,hz,r⟩
 ·obtain⟨z,its,n,r,e⟩:=h.ok I.hok;exact⟨its,r,⟨_,n,e,rfl,rfl,rfl⟩,z⟩
 ·refine⟨its.toList,r,⟨o,n,I.kIn a o hk,hc,hd,by simpa using hs⟩,?_⟩;have e:=r.length;simp only[Qo] at e;omega
theorem Inv.tuple(I:Inv X pins σ H s)(h:SqT X.K H a xs):∃its:List Value,Vals xs its/\IsTup s.heap a its.toArray/\xs.length<=sizeLine:=by
 rcases h with h | ⟨o,its,n,hk,hc,hs,hz,r⟩
 ·obtain⟨z,its,r,p⟩:=h.ok I.hok;exact⟨its,r,p,z⟩
 ·refine⟨its.toList,r,⟨o,I.kIn a o hk,hc,n,by simpa using hs⟩,?_⟩;have e:=r.length;simp only[Qo] at e;omega
theorem Inv.list_inj(I:Inv X pins σ H s)(h:SqL X.K H a xs)(h':SqL X.K H a ys):xs=ys:=by
 obtain⟨its,r,⟨o,n,e,_,_,d⟩,_⟩:=I.list h;obtain⟨its',r',⟨o',n',e',_,_,d'⟩,_⟩:=I.list h';rw[e] at e';cases e';rw[d] at d';injection d' with d1 _
 have:its=its':=by simpa using congrArg QxO d1
 subst this;exact r.inj r'
theorem Inv.tuple_inj(I:Inv X pins σ H s)(h:SqT X.K H a xs)(h':SqT X.K H a ys):xs=ys:=by
 obtain⟨its,r,⟨o,e,_,n,d⟩,_⟩:=I.tuple h;obtain⟨its',r',⟨o',e',_,n',d'⟩,_⟩:=I.tuple h';rw[e] at e';cases e';rw[d] at d';injection d' with d1 _
 have:its=its':=by simpa using congrArg QxO d1
 subst this;exact r.inj r'
end
abbrev Cx.wish (X:Cx) (E:Value->Shared->Prop):Cx:={ X with xe:=E }
abbrev Cx.nox (X:Cx):Cx:=X.wish λ_ _=>False
theorem Cx.Ok.wish{X:Cx}(ok:X.Ok)(E:Value->Shared->Prop):(X.wish E).Ok:=
 ⟨ok.mod,ok.kind,ok.glob,ok.blt,ok.above,ok.inj,ok.has,ok.cab,ok.hd,ok.frames,ok.stk,ok.exf,ok.bs,ok.bsz,ok.noex,ok.exfs,ok.funs,ok.frf⟩
theorem Cx.Ok.unwish{X:Cx}{E:Value->Shared->Prop}(ok:(X.wish E).Ok):X.Ok:=
 ⟨ok.mod,ok.kind,ok.glob,ok.blt,ok.above,ok.inj,ok.has,ok.cab,ok.hd,ok.frames,ok.stk,ok.exf,ok.bs,ok.bsz,ok.noex,ok.exfs,ok.funs,ok.frf⟩
section
variable{X:Cx}{pins:List (Addr×Obj)}{σ:St}{H:Hp}{s:Shared}{E:Value->Shared->Prop}
theorem Inv.wish(I:Inv X pins σ H s)(E:Value->Shared->Prop):Inv (X.wish E) pins σ H s:=⟨I.ok.wish E,I.os,I.bare,I.base,I.loc,I.cell,I.free,I.freeC,I.pin,I.hok,I.len⟩
theorem Inv.unwish(I:Inv (X.wish E) pins σ H s):Inv X pins σ H s:=⟨I.ok.unwish,I.os,I.bare,I.base,I.loc,I.cell,I.free,I.freeC,I.pin,I.hok,I.len⟩
theorem SP.unwish{D:Ends}{f:Flow}{s':Shared}(h:SP (X.wish E) pins D f s'):SP X pins D f s':=by
 cases f with
 |next=>obtain⟨σ',H',I,q⟩:=h;exact⟨σ',H',I.unwish,q⟩
 |brk=>obtain⟨σ',H',I,q⟩:=h;exact⟨σ',H',I.unwish,q⟩
 |cont=>obtain⟨σ',H',I,q⟩:=h;exact⟨σ',H',I.unwish,q⟩
 |ret u=>obtain⟨v,σ',H',I,r,q⟩:=h;exact⟨v,σ',H',I.unwish,r,q⟩
theorem PE.nox{e:Q5}{t:TE}(h:PE X.nox e t):PE X e t:=λpins s σ H Q I hw=>
 J6 (h pins s σ H Q (I.wish _) hw) (λ_ _ ⟨v,H',I',r,q⟩=>⟨v,H',I'.unwish,r,q⟩) λ_ _ z=>Jz z
theorem PT.nox{e:Q5}{t:TT}(h:PT X.nox e t):PT X e t:=λpins s σ H Q I hw=>
 J6 (h pins s σ H Q (I.wish _) hw) (λ_ _ ⟨H',I',q⟩=>⟨H',I'.unwish,q⟩) λ_ _ z=>Jz z
theorem PSs.nox{st:List Z6}{t:TS}(h:PSs X.nox st t):PSs X st t:=λpins s σ H D I hw=>
 J6 (h pins s σ H D (I.wish _) hw) (λ_ _ q=>q.unwish) λ_ _ z=>Jz z
end
section
variable{X:Cx}{st:Z6}{rest:List Z6}{t u:TS}{e:Q5}{te:TE}{pos:Pos}
def Qyv:TS:=λD σ H=>D.nx σ H
def QAf(t u:TS):TS:=λD σ H=>t { D with nx:=u D } σ H
theorem Qcx:PSs X [] Qyv:=λ_ _ σ H _ I h=>Y6 ⟨σ,H,I,h⟩
theorem ZM(h1:PS X st t)(h2:PSs X rest u):PSs X (st::rest) (QAf t u):=by
 intro pins s σ H D I h;refine Qbr (thn (h1 pins s σ H { D with nx:=u D } I h) λf s1 q=>?_);cases f with
 |next=>
  obtain⟨σ',H',I',q⟩:=q;exact h2 pins s1 σ' H' D I' q
 |ret v=>exact q
 |brk=>exact q
 |cont=>exact q
theorem Qaf(h1:PS X st t):PSs X [st] t:=by
 intro pins s σ H D I h;refine Qbr (thn (h1 pins s σ H D I h) λf s1 q=>?_);cases f with
 |next=>exact Y6 q
 |ret v=>exact q
 |brk=>exact q
 |cont=>exact q
theorem Inv.quiet{pins:List (Addr×Obj)}{σ:St}{H:Hp}{s:Shared}(I:Inv X pins σ H s):interactive X.env=false:=by simp[interactive,I.ok.kind]
def QlY(te:TE):TS:=λD σ H=>te σ H λ_ H1=>D.nx σ H1
theorem Qgy(he:PE X e te)(hs:swapsWith e none pos.line X.env=pure false:=by rfl):PS X (.Expr e pos) (QlY te):=by
 intro pins s σ H D I h;exact wpAny_Expr_any (thn (he pins s σ H _ I h) λv s1 ⟨x,H1,I1,r1,q1⟩=>⟨σ,H1,I1,q1⟩) I.quiet hs
def QAh(te:TE):TS:=λD σ H=>te σ H D.rt
theorem Qa3(he:PE X e te):PS X (.Return (some e) pos) (QAh te):=by
 intro pins s σ H D I h;exact Qhd (thn (he pins s σ H _ I h) λv s1 ⟨x,H1,I1,r1,q1⟩=>⟨x,σ,H1,I1,r1,q1⟩)
def QAl(c:TT)(t u:TS):TS:=λD σ H=>c σ H λb H1=>if b=true then t D σ H1 else u D σ H1
theorem QiL{c:Q5}{a b:List Z6}{tc:TT}(hc:PT X c tc)(ha:PSs X a t)(hb:PSs X b u):PS X (.If c a b pos) (QAl tc t u):=by
 intro pins s σ H D I h;refine wpAny_If (thn (hc pins s σ H _ I h) λd s1 ⟨H1,I1,q1⟩=>?_);cases d with
 |true=>exact ha pins s1 σ H1 D I1 q1
 |false=>exact hb pins s1 σ H1 D I1 q1
end
abbrev TG:=V->St->Hp->(St->Hp->Prop)->Prop
abbrev TGs:=List V->St->Hp->(St->Hp->Prop)->Prop
def PG(X:Cx)(target:Q5)(t:TG):Prop:=
 ∀(pins:List (Addr×Obj))(s:Shared)(σ:St)(H:Hp)(v:V)(u:Value)(Q:St->Hp->Prop),Inv X pins σ H s->RelV v u->t v σ H Q ->
  wpAny (model X.prog X.w) X.A (assign target X.env u) (λ_ s'=>∃σ' H',Inv X pins σ' H' s'/\Q σ' H') X.xe s
def PGs(X:Cx)(ts:List Q5)(t:TGs):Prop:=
 ∀(pins:List (Addr×Obj))(s:Shared)(σ:St)(H:Hp)(vs:List V)(us:List Value)(Q:St->Hp->Prop),Inv X pins σ H s->Vals vs us->t vs σ H Q ->
  wpAny (model X.prog X.w) X.A (assignInOrder ((assignEach ts X.env).map (·.2)) us) (λ_ s'=>∃σ' H',Inv X pins σ' H' s'/\Q σ' H') X.xe s
abbrev TSet:=V->V->V->Hp->(Hp->Prop)->Prop
def Qzs(X:Cx)(t:TSet):Prop:=
 ∀(pins:List (Addr×Obj))(s:Shared)(σ:St)(H:Hp)(o i v:V)(ov iv u:Value)(Q:Hp->Prop),Inv X pins σ H s->RelV o ov->RelV i iv->RelV v u->t o i v H Q ->
  wpAny (model X.prog X.w) X.A (setItem ov iv u) (λ_ s'=>∃H',Inv X pins σ H' s'/\Q H') X.xe s
abbrev TIp:=V->V->Hp->VK->Prop
def PIp(X:Cx)(op:QcN)(t:TIp):Prop:=
 ∀(pins:List (Addr×Obj))(s:Shared)(σ:St)(H:Hp)(x y:V)(v u:Value)(Q:VK),Inv X pins σ H s->RelV x v->RelV y u->t x y H Q ->
  wpAny (model X.prog X.w) X.A (inplaceOp op v u) (EP X pins σ Q) X.xe s
section
variable{X:Cx}{pos:Pos}
def Qfm(i:Nat):TG:=λv σ H Q=>Q (σ.set i (some v)) H
theorem QeL{i:Nat}{x:Str}(hN:X.N.Nodup)(hi:X.N[i]? = some x)(hx:Loc X.env.scope x)(hf:X.fn x=true∨X.env.scope.names.lookup x=some .local:=by first | exact .inl rfl | exact .inr rfl | assumption):PG X (.Name x pos) (Qfm i):=by
 intro pins s σ H v u Q I r h;exact Qx0 (Qeh I hN hi hx r (λs' I'=>⟨_,H,I',h⟩) hf)
def Qza:TGs:=λvs σ H Q=>vs=[]/\Q σ H
def Qrs(t:TG)(u:TGs):TGs:=λvs σ H Q=>∃v r,vs=v::r/\t v σ H λσ' H'=>u r σ' H' Q
theorem QmI:PGs X [] Qza:=by
 intro pins s σ H vs us Q I r h;obtain⟨e,h⟩:=h;subst e;cases r;exact assignInOrder_nil ⟨σ,H,I,h⟩
theorem QgA{e:Q5}{es:List Q5}{t:TG}{u:TGs}(h1:PG X e t)(h2:PGs X es u)
  (hs:(assignEach (e::es) X.env).map (·.2)=assign e X.env::(assignEach es X.env).map (·.2):=by rfl):PGs X (e::es) (Qrs t u):=by
 intro pins s σ H vs us Q I r h;obtain⟨v,vr,e1,h⟩:=h;subst e1;cases r with
 |cons r rr=>
  rw[hs];refine assignInOrder_cons (thn (h1 pins s σ H _ _ _ I r h) λ_ s1 ⟨σ1,H1,I1,q1⟩=>?_);exact h2 pins s1 σ1 H1 _ _ Q I1 rr q1
def Qy9(K:PySem.W.Frag)(n:Nat)(t:TGs):TG:=λv σ H Q=>∃a xs,v=.ref a/\SqT K H a xs/\xs.length=n/\t xs σ H Q
theorem Qsb{es:List Q5}{k:Nat}{t:TGs}{n:Nat}(hc:X.calm=true)(h:PGs X es t)
  (hn:(assignEach es X.env).length=n:=by rfl)(hst:(assignEach es X.env).findIdx? (·.1)=none:=by rfl):PG X (.Tuple es k pos) (Qy9 X.K n t):=by
 intro pins s σ H v u Q I r hw;obtain⟨a,xs,e1,hq,hl,hw⟩:=hw;subst e1;cases r;obtain⟨its,rv,ht,hz⟩:=I.tuple hq;refine assign_Tuple_tuple (I.ok.hd hc) ht (by simp[hn,<- hl,rv.length]) hst λh' hx=>?_
 have I1:Inv X pins σ H { s with heap:=h' }:=I.kept (t':=s.toks) λb o e=>hx b o (QY (Qv e)) e
 exact h pins _ σ H xs _ Q I1 (by simpa using rv) hw
def gSub(to ti:TE)(t:TSet):TG:=λv σ H Q=>to σ H λo H1=>ti σ H1 λi H2=>t o i v H2 λH3=>Q σ H3
theorem QvY{o i:Q5}{to ti:TE}{t:TSet}(ho:PE X o to)(hi:PE X i ti)(hs:Qzs X t)
  (ha:∀v,assign (.Subscript o i pos) X.env v=(do
   let ov <- holding [v] (eval o X.env)
   let iv <- holding [v,ov] (eval i X.env)
   standAt pos
   holding [v,ov,iv] (setItem ov iv v)
   release [v,ov,iv] []):=by intro _;rfl):PG X (.Subscript o i pos) (gSub to ti t):=by
 intro pins s σ H v u Q I r h;rw[ha];refine Qa (Z2 (thn (ho pins s σ H _ I h) λov s1 ⟨x,H1,I1,r1,q1⟩=>?_));refine Qa (Z2 (thn (hi pins s1 σ H1 _ I1 q1) λiv s2 ⟨y,H2,I2,r2,q2⟩=>?_));refine Qa (QoE (Qa (Z2 (thn (hs pins s2 σ H2 x y v ov iv u _ I2 r1 r2 r q2) λ_ s3 ⟨H3,I3,q3⟩=>?_))));exact wpAny_release ⟨σ,H3,I3,q3⟩
def QsV(te:TE)(g:TG):TS:=λD σ H=>te σ H λx H1=>g x σ H1 D.nx
theorem Qr7{tg e:Q5}{te:TE}{g:TG}(he:PE X e te)(hg:PG X tg g)(hs:swapsWithSole [tg] e pos.line X.env=pure false:=by rfl)(hw:swappedStores [tg] e X.env=pure none:=by rfl)
  (h1:(assignEach [tg] X.env).map (·.2)=[assign tg X.env]:=by rfl):PS X (.Assign [tg] e pos) (QsV te g):=by
 intro pins s σ H D I h;refine wpAny_Assign_stores (thn (he pins s σ H _ I h) λv s1 ⟨x,H1,I1,r1,q1⟩=>?_) hs hw;rw[h1];exact thn (hg pins s1 σ H1 x v _ I1 r1 q1) λ_ s2 q=>q
theorem Qa2{i:Nat}{x:Str}{e:Q5}{te:TE}{pos':Pos}(hN:X.N.Nodup)(hi:X.N[i]? = some x)(hx:Loc X.env.scope x)(he:PE X e te)(hs:swapsWith e (some (.Name x pos')) pos.line X.env=pure false:=by rfl)(hf:X.fn x=true∨X.env.scope.names.lookup x=some .local:=by first | exact .inl rfl | exact .inr rfl | assumption) :
  PS X (.Assign [.Name x pos'] e pos) (QsV te (Qfm i)):=by
 intro pins s σ H D I h;refine wpAny_Assign_Name (thn (he pins s σ H _ I h) λv s1 ⟨y,H1,I1,r1,q1⟩=>?_) hs;exact Qeh I1 hN hi hx r1 (λs2 I2=>⟨_,H1,I2,q1⟩) hf
def Qzw(i:Nat)(te:TE)(ti:TIp):TS:=λD σ H=>∃x,σ[i]? = some (some x)/\te σ H λy H1=>ti x y H1 λz H2=>D.nx (σ.set i (some z)) H2
theorem QvV{i:Nat}{x:Str}{e:Q5}{te:TE}{op:QcN}{ti:TIp}{pos':Pos}(hN:X.N.Nodup)(hi:X.N[i]? = some x)(hx:Loc X.env.scope x)(he:PE X e te)(ho:PIp X op ti)(hf:X.fn x=true∨X.env.scope.names.lookup x=some .local:=by first | exact .inl rfl | exact .inr rfl | assumption) :
  PS X (.AugAssign (.Name x pos') op e pos) (Qzw i te ti):=by
 intro pins s σ H D I h;obtain⟨v,e1,h⟩:=h;obtain⟨m,hn,hl⟩:=I.loc;have vis:Vis X.env.scope x:=by rcases hx with k | k;exact .inl k;exact .inr (.inl k)
 obtain⟨u,r,l⟩:=hl i x v hi e1 vis;refine wpAny_AugAssign_Name ?_
 have go:wpAny (model X.prog X.w) X.A (eval e X.env) (λw s₂=>wpAny (model X.prog X.w) X.A (inplaceOp op u w) (λr s₃=>wpAny (model X.prog X.w) X.A (storeName X.env x r) (λ_=>SP X pins D .next) X.xe s₃) X.xe s₂) X.xe s:=by
  refine thn (he pins s σ H _ I h) λw s1 ⟨y,H1,I1,r1,q1⟩=>?_
  refine thn (ho pins s1 σ H1 v y u w _ I1 r r1 q1) λz s2 ⟨zv,H2,I2,r2,q2⟩=>?_
  exact Qeh I2 hN hi hx r2 (λs3 I3=>⟨_,H2,I3,q2⟩) hf
 rcases l with⟨hk,hm⟩ | ⟨hk,c,hc,hcell⟩
 ·exact QuN I.ok.kind hk hn hm go
 ·rcases hk with hk | hk
  ·exact QuY I.ok.kind hk hc hcell go
  ·rcases hx with k | k
   ·have:X.env.scope.names.lookup x=some .free:=hk;rw[k] at this;cases this
   ·have:X.env.scope.names.lookup x=some .free:=hk;rw[k] at this;cases this
def Qvq(to ti te:TE)(tget:V->V->Hp->VK->Prop)(tip:TIp)(tset:TSet):TS:=λD σ H=>to σ H λo H1=>ti σ H1 λi H2=>tget o i H2 λx H3=>te σ H3 λy H4=>tip x y H4 λz H5=>tset o i z H5 λH6=>D.nx σ H6
def Qz7(X:Cx)(t:V->V->Hp->VK->Prop):Prop:=
 ∀(pins:List (Addr×Obj))(s:Shared)(σ:St)(H:Hp)(o i:V)(ov iv:Value)(Q:VK),Inv X pins σ H s->RelV o ov->RelV i iv->t o i H Q ->
  wpAny (model X.prog X.w) X.A (getItem ov iv) (EP X pins σ Q) X.xe s
theorem Qtl{o i e:Q5}{to ti te:TE}{tget:V->V->Hp->VK->Prop}{tip:TIp}{tset:TSet}{op:QcN}{tpos:Pos}(ho:PE X o to)(hi:PE X i ti)(hg:Qz7 X tget)(he:PE X e te)(hp:PIp X op tip)(hs:Qzs X tset)
  (ha:∀ov iv new,augStore i ov iv new=(do holding [new,ov,iv] (setItem ov iv new);release [new,ov,iv] [];pure .next):=by intros;rfl):PS X (.AugAssign (.Subscript o i tpos) op e pos) (Qvq to ti te tget tip tset):=by
 intro pins s σ H D I h;refine wpAny_AugAssign_SubscriptAny (thn (ho pins s σ H _ I h) λov s1 ⟨x1,H1,I1,r1,q1⟩=>?_) ha;refine thn (hi pins s1 σ H1 _ I1 q1) λiv s2 ⟨x2,H2,I2,r2,q2⟩=>?_
 refine thn (hg pins s2 σ H2 x1 x2 ov iv _ I2 r1 r2 q2) λold s3 ⟨x3,H3,I3,r3,q3⟩=>?_
 refine thn (he pins s3 σ H3 _ I3 q3) λv s4 ⟨x4,H4,I4,r4,q4⟩=>?_
 refine thn (hp pins s4 σ H4 x3 x4 old v _ I4 r3 r4 q4) λnew s5 ⟨x5,H5,I5,r5,q5⟩=>?_
 exact thn (hs pins s5 σ H5 x1 x2 x5 ov iv new _ I5 r1 r2 r5 q5) λ_ s6 ⟨H6,I6,q6⟩=>⟨σ,H6,I6,q6⟩
def ipI(f:Int->Int->Int):TIp:=λx y H Q=>∃i j,x=.int i/\y=.int j/\Q (.int (f i j)) H
theorem Qnz:PIp X .Add (ipI λi j=>i+j):=by
 intro pins s σ H x y v u Q I r1 r2 h;obtain⟨i,j,e1,e2,q⟩:=h;subst e1;subst e2;obtain⟨t,rfl⟩:=r1;obtain⟨t',rfl⟩:=r2;exact iadd_int ⟨.int _,H,I.tok _,⟨_,rfl⟩,q⟩
theorem QwU:PIp X .Sub (ipI λi j=>i - j):=by
 intro pins s σ H x y v u Q I r1 r2 h;obtain⟨i,j,e1,e2,q⟩:=h;subst e1;subst e2;obtain⟨t,rfl⟩:=r1;obtain⟨t',rfl⟩:=r2;exact isub_int ⟨.int _,H,I.tok _,⟨_,rfl⟩,q⟩
end
section
variable{X:Cx}{pos:Pos}
def Qvl(c:TT)(tb:TS):TS:=λD σ H=>∃W:Nat->St->Hp->Prop,(∃m,W m σ H)/\∀m σ H,W m σ H ->
 c σ H λb H1=>if b=true then ∃N:St->Hp->Prop,(∀σ' H',N σ' H'->∃m',m'<m/\W m' σ' H')/\tb { D with nx:=N,ct:=N,bk:=D.nx } σ H1 else D.nx σ H1
theorem Qpn{c:Q5}{body:List Z6}{tc:TT}{tb:TS}(hp:Qf7 (model X.prog X.w) X.A X.env X.xe)(hc:PT X c tc)(hb:PSs X body tb):PS X (.While c body [] pos) (Qvl tc tb):=by
 intro pins s σ H D I h;obtain⟨W,⟨m0,w0⟩,turn⟩:=h;refine wpAny_While (codeAny_whileLoop (λn s'=>∃σ' H',Inv X pins σ' H' s'/\W n σ' H') ?_ m0 ⟨σ,H,I,w0⟩);rintro n s1 ⟨σ1,H1,I1,w1⟩;refine Y4 hp (thn (hc pins s1 σ1 H1 _ I1 (turn n σ1 H1 w1)) λb s2 ⟨H2,I2,q2⟩=>?_);cases b with
 |true=>
  obtain⟨N,hN,q2⟩:=q2;rw[if_pos rfl];refine Y4 hp (thn (hb pins s2 σ1 H2 _ I2 q2) λf s3 q3=>?_);cases f with
  |next=>
   obtain⟨σ3,H3,I3,n3⟩:=q3;obtain⟨m',hm,w3⟩:=hN σ3 H3 n3;exact⟨m',hm,σ3,H3,I3,w3⟩
  |cont=>
   obtain⟨σ3,H3,I3,n3⟩:=q3;obtain⟨m',hm,w3⟩:=hN σ3 H3 n3;exact⟨m',hm,σ3,H3,I3,w3⟩
  |brk=>exact q3
  |ret v=>exact q3
 |false=>
  rw[if_neg Qt];exact Y6 ⟨σ1,H2,I2,q2⟩
end
structure It where
 go:Nat->Hp->Prop
 yld:Nat->Hp->V->Hp->Prop
 stop:Nat->Hp->Prop
def FpOk(X:Cx)(pins:List (Addr×Obj))(H:Hp)(b:Addr):Prop:=
 H b=none/\b≠X.env.locals/\b∉X.fs/\(b∈X.ex∨X.s₀.heap.objs.size<=b)/\(∀x c,X.env.cells.lookup x=some c->c≠b)/\∀p∈X.pn++pins,p.1≠b
theorem Inv.fpOk{X:Cx}{pins:List (Addr×Obj)}{σ:St}{H H':Hp}{s:Shared}{b:Addr}(I:Inv X pins σ H s)(hb:s.heap.objs.size<=b)(hn:H' b=none):FpOk X pins H' b:=by
 refine⟨hn,QcP (Q1 I.lt hb),I.nofs hb,.inr (QQ I.sz hb),λx c e z=>?_,λp hp z=>?_⟩
 ·obtain⟨v,q⟩:=I.cell x c e;exact absurd (Q1 q.lt (by rw[z];exact hb)) (Yk _)
 ·exact absurd (Q1 (Qv (I.pin p hp).1) (by rw[z];exact hb)) (Yk _)
structure Turn (P:QP) (w:JH) (K:PySem.W.Frag) (tg:Q5) (J:It) (fp:List Addr) (it:Addr) (tn:Nat->Zl->Prop):Prop where
 mem:it∈fp
 obj:∀i h,tn i h->∀b∈fp,∃o,h.get? b=some o/\∀v,o.data≠.cell v
 keep:∀i h h',tn i h->(∀b∈fp,∀o,h.get? b=some o->h'.get? b=some o)->tn i h'
 item:∀(X:Cx),X.prog=P->X.w=w->X.K=K->X.calm=true->∀(i:Nat)(pins:List (Addr×Obj))(s:Shared)(σ:St)(H:Hp)(E:Value->Shared->Prop),Inv X pins σ H s->(∀b∈fp,FpOk X pins H b)->tn i s.heap->J.go i H ->
  wpAny (model P w) X.A (pyNext (.ref it)) (λr s1=>∃u,r=some u /\
   wpAny (model P w) X.A (letOwnedTupleGo tg (.ref it) u) (λ_ s2=>∃x H',Inv X pins σ H' s2/\RelV x u/\J.yld i H x H'/\tn (i+1) s2.heap/\∀b∈fp,H' b=none) E s1) E s
 done:∀(X:Cx),X.prog=P->X.w=w->X.K=K->X.calm=true->∀(i:Nat)(pins:List (Addr×Obj))(s:Shared)(σ:St)(H:Hp)(E:Value->Shared->Prop),Inv X pins σ H s->(∀b∈fp,FpOk X pins H b)->tn i s.heap->J.stop i H ->
  wpAny (model P w) X.A (pyNext (.ref it)) (λr s1=>r=none/\Inv X pins σ H s1) E s
 self:∀(A:Js)(i:Nat)(s:Shared)(Q:Value->Shared->Prop)(E:Value->Shared->Prop),tn i s.heap->Q (.ref it) s->wpAny (model P w) A (pyIter (.ref it)) Q E s
abbrev TI:=St->Hp->(It->Hp->Prop)->Prop
def PIE(X:Cx)(pins:List (Addr×Obj))(σ:St)(tg:Q5)(R:It->Hp->Prop)(itv:Value)(s2:Shared):Prop:=
 ∃(it:Addr)(fp:List Addr)(tn:Nat->Zl->Prop)(J:It)(H':Hp),itv=.ref it/\Inv X pins σ H' s2/\Turn X.prog X.w X.K tg J fp it tn/\tn 0 s2.heap/\(∀b∈fp,FpOk X pins H' b)/\R J H'
def PI(X:Cx)(tg iter:Q5)(wi:TI):Prop:=
 ∀(pins:List (Addr×Obj))(s:Shared)(σ:St)(H:Hp)(R:It->Hp->Prop),Inv X pins σ H s->wi σ H R ->
  wpAny (model X.prog X.w) X.A (eval iter X.env) (λv s1=>wpAny (model X.prog X.w) X.A (pyIter v) (PIE X pins σ tg R) X.xe s1) X.xe s
theorem Qrq{M:QkB}{A:Js}{E:Value->Shared->Prop}{s:Shared}{tg:Q5}{it:Addr}{u:Value}{o:Obj}{n:String}{vs:Array Value}{Q:Unit->Shared->Prop}(ho:s.heap.get? it=some o)(hc:o.cls=.type n)(hd:o.data=.fields vs)
  (hn:["enumerate", "zip", "dict_itemiterator", "dict_reverseitemiterator", "odict_iterator", "itertools.zip_longest", "itertools.pairwise"].contains n=false)(hQ:Q () s):wpAny M A (letOwnedTupleGo tg (.ref it) u) Q E s:=by
 unfold letOwnedTupleGo;cases tg<;>first
  |exact Qk hQ
  |(cases u<;>first
    |exact Qk hQ
    |(refine Qa (wpAny_load ho ?_)
      rw[hc,hd];show wpAny M A (if(["enumerate", "zip", "dict_itemiterator", "dict_reverseitemiterator", "odict_iterator", "itertools.zip_longest", "itertools.pairwise"].contains n&&vs[0]? == some (rawInt _))=true then _ else _) Q E s;rw[if_neg (by intro h;rw[hn,Qab] at h;cases h)];exact Qk hQ))
def Itl(K:PySem.W.Frag)(a:Addr):It:=
 ⟨λi H=>∃xs x,SqL K H a xs/\xs[i]? = some x,λi H x H'=>H'=H/\∀xs,SqL K H a xs->xs[i]? = some x,λi H=>∃xs,SqL K H a xs/\xs.length<=i⟩
def Itt(K:PySem.W.Frag)(a:Addr):It:=
 ⟨λi H=>∃xs x,SqT K H a xs/\xs[i]? = some x,λi H x H'=>H'=H/\∀xs,SqT K H a xs->xs[i]? = some x,λi H=>∃xs,SqT K H a xs/\xs.length<=i⟩
def Itr(lo:Int)(n:Nat):It:=⟨λi _=>i<n,λi H x H'=>H'=H/\x=.int (lo+i),λi _=>n<=i⟩
theorem QlT{P:QP}{w:JH}{K:PySem.W.Frag}{tg:Q5}(a it:Addr):Turn P w K tg (Itl K a) [it] it (λi h=>h.IsListIter it a i) where
 mem:=by simp
 obj:=λi h st b hb=>by
  have e:b=it:=by simpa using hb
  subst e;obtain⟨o,e,c,d⟩:=st;exact⟨o,e,λv z=>by rw[d] at z;cases z⟩
 keep:=λi h h' st k=>st.at λo e=>k it (by simp) o e
 item:=by
  intro X hP hw hK hc i pins s σ H E I hf st hg;subst hP hw hK;obtain⟨xs,x,hq,hx⟩:=hg;obtain⟨its,rv,p,hz⟩:=I.list hq;obtain⟨u,hu,ru⟩:=rv.get hx;obtain⟨f0,f1,f2,f3,f4,f5⟩:=hf it (by simp);refine wpAny_pyNext_list_item st p.isList (x:=u) (by simpa using hu) λh' st' sb=>?_
  have I1:Inv X pins σ H { s with heap:=h' }:=I.turned (t':=s.toks) (λb o hb e=>(sb.2 b hb).trans e) f0 f1 f3 f4 f5;obtain⟨o,e,c,d⟩:=id st';exact⟨u,rfl,Qrq (s:={ s with heap:=h' }) e c d (by decide) ⟨x,H,I1,ru,⟨rfl,λys hy=>by rw[I.list_inj hy hq];exact hx⟩,st',λb hb=>(hf b hb).1⟩⟩
 done:=by
  intro X hP hw hK hc i pins s σ H E I hf st hg;subst hP hw hK;obtain⟨xs,hq,hx⟩:=hg;obtain⟨its,rv,p,hz⟩:=I.list hq;obtain⟨f0,f1,f2,f3,f4,f5⟩:=hf it (by simp);have hl:=rv.length;exact wpAny_pyNext_list_end (I.ok.hd hc) st p.isList (by simp;omega) λh' eb=>⟨rfl,I.turned (t':=s.toks) (λb o hb e=>eb b o hb e) f0 f1 f3 f4 f5⟩
 self:=λ_ _ _ _ _ st h=>wpAny_pyIter_listiter st h
theorem QkI{P:QP}{w:JH}{K:PySem.W.Frag}{tg:Q5}(a it:Addr):Turn P w K tg (Itt K a) [it] it (λi h=>h.IsTupleIter it a i) where
 mem:=by simp
 obj:=λi h st b hb=>by
  have e:b=it:=by simpa using hb
  subst e;obtain⟨o,e,c,d⟩:=st;exact⟨o,e,λv z=>by rw[d] at z;cases z⟩
 keep:=λi h h' st k=>st.at λo e=>k it (by simp) o e
 item:=by
  intro X hP hw hK hc i pins s σ H E I hf st hg;subst hP hw hK;obtain⟨xs,x,hq,hx⟩:=hg;obtain⟨its,rv,p,hz⟩:=I.tuple hq;obtain⟨u,hu,ru⟩:=rv.get hx;obtain⟨f0,f1,f2,f3,f4,f5⟩:=hf it (by simp);refine wpAny_pyNext_tuple_item st (show s.heap.IsTuple a its.toArray from p) (x:=u) (by simpa using hu) λh' st' sb=>?_
  have I1:Inv X pins σ H { s with heap:=h' }:=I.turned (t':=s.toks) (λb o hb e=>(sb.2 b hb).trans e) f0 f1 f3 f4 f5;obtain⟨o,e,c,d⟩:=id st';exact⟨u,rfl,Qrq (s:={ s with heap:=h' }) e c d (by decide) ⟨x,H,I1,ru,⟨rfl,λys hy=>by rw[I.tuple_inj hy hq];exact hx⟩,st',λb hb=>(hf b hb).1⟩⟩
 done:=by
  intro X hP hw hK hc i pins s σ H E I hf st hg;subst hP hw hK;obtain⟨xs,hq,hx⟩:=hg;obtain⟨its,rv,p,hz⟩:=I.tuple hq;obtain⟨f0,f1,f2,f3,f4,f5⟩:=hf it (by simp);have hl:=rv.length;exact wpAny_pyNext_tuple_end (I.ok.hd hc) st (show s.heap.IsTuple a its.toArray from p) (by simp;omega) λh' eb=>⟨rfl,I.turned (t':=s.toks) (λb o hb e=>eb b o hb e) f0 f1 f3 f4 f5⟩
 self:=λ_ _ _ _ _ st h=>wpAny_pyIter_tupleiter st h
theorem QkJ{P:QP}{w:JH}{K:PySem.W.Frag}{tg:Q5}(it:Addr)(lo:Int)(n:Nat):Turn P w K tg (Itr lo n) [it] it (λi h=>QkD h it (lo+(i:Nat)*1) ((n:Int) - (i:Nat)) 1) where
 mem:=by simp
 obj:=λi h st b hb=>by
  have e:b=it:=by simpa using hb
  subst e;exact⟨_,st,λv z=>by
   have z':Data.fields _=Data.cell v:=z;cases z'⟩
 keep:=λi h h' st k=>k it (by simp) _ st
 item:=by
  intro X hP hw hK hc i pins s σ H E I hf st hg;subst hP hw hK;obtain⟨f0,f1,f2,f3,f4,f5⟩:=hf it (by simp);have W:=Qx4 (prog:=X.prog) (w:=X.w) (I.ok.hd hc) it lo 1 n;refine W.item i s _ _ hg st λv h' tk hv st' kk=>?_
  obtain⟨t,rfl⟩:=hv;have I1:Inv X pins σ H { s with heap:=h',toks:=tk }:=I.turned (λb o hb e=>kk b o (by simpa using hb) e) f0 f1 f3 f4 f5;refine⟨_,rfl,Qrq (s:={ s with heap:=h',toks:=tk }) (n := "range_iterator") st' rfl rfl (by decide) ⟨.int (lo+i),H,I1,⟨t,?_⟩,⟨rfl,rfl⟩,st',λb hb=>(hf b hb).1⟩⟩;rw[Int.mul_one]
 done:=by
  intro X hP hw hK hc i pins s σ H E I hf st hg;subst hP hw hK;obtain⟨f0,f1,f2,f3,f4,f5⟩:=hf it (by simp);exact QrN (I.ok.hd hc) st (by have:n<=i:=hg;omega) λh' eb=>⟨rfl,I.turned (t':=s.toks) (λb o hb e=>eb b o hb e) f0 f1 f3 f4 f5⟩
 self:=λ_ _ _ _ _ st h=>Qdd st h
section
variable{X:Cx}{tg:Q5}
def Qy6(K:PySem.W.Frag)(tl:TE):TI:=λσ H R=>tl σ H λx H1=>∃a,x=.ref a/\(∃xs,SqL K H1 a xs)/\R (Itl K a) H1
def QAH(K:PySem.W.Frag)(tl:TE):TI:=λσ H R=>tl σ H λx H1=>∃a,x=.ref a/\(∃xs,SqT K H1 a xs)/\R (Itt K a) H1
theorem Qtp{l:Q5}{tl:TE}(hl:PE X l tl):PI X tg l (Qy6 X.K tl):=by
 intro pins s σ H R I h;refine thn (hl pins s σ H _ I h) λv s1 ⟨x,H1,I1,r1,q1⟩=>?_
 obtain⟨a,e,⟨xs,hq⟩,q⟩:=q1;subst e;cases r1;obtain⟨its,rv,p,hz⟩:=I1.list hq;refine QxZ p.isList ?_
 refine⟨s1.heap.objs.size,[s1.heap.objs.size],_,_,H1,rfl,I1.kept (t':=s1.toks) λb o e=>Qe _ e,QlT a _,⟨_,QK _ rfl,rfl,rfl⟩,λb hb=>?_,q⟩;have e:b=s1.heap.objs.size:=by simpa using hb
 subst e;exact I1.fpOk (Ql _) (I1.hok.fresh (Ql _))
theorem QvX{l:Q5}{tl:TE}(hl:PE X l tl):PI X tg l (QAH X.K tl):=by
 intro pins s σ H R I h;refine thn (hl pins s σ H _ I h) λv s1 ⟨x,H1,I1,r1,q1⟩=>?_
 obtain⟨a,e,⟨xs,hq⟩,q⟩:=q1;subst e;cases r1;obtain⟨its,rv,p,hz⟩:=I1.tuple hq;refine YO (show s1.heap.IsTuple a its.toArray from p) ?_
 refine⟨s1.heap.objs.size,[s1.heap.objs.size],_,_,H1,rfl,I1.kept (t':=s1.toks) λb o e=>Qe _ e,QkI a _,⟨_,QK _ rfl,rfl,rfl⟩,λb hb=>?_,q⟩;have e:b=s1.heap.objs.size:=by simpa using hb
 subst e;exact I1.fpOk (Ql _) (I1.hok.fresh (Ql _))
theorem Qpf{pins:List (Addr×Obj)}{σ:St}{H:Hp}{s:Shared}{R:It->Hp->Prop}{E:Value->Shared->Prop}{lo hi:Int}{t u v:Tok}{tk:Nat}(I:Inv X pins σ H s)(h1 : -(2^62)<=lo)(h2:lo<2^62)(h3 : -(2^62)<=hi)(h4:hi<2^62)
  (q:R (Itr lo (hi - lo).toNat) H):wpAny (model X.prog X.w) X.A (pyIter (.ref s.heap.objs.size)) (PIE X pins σ tg R) E { s with heap:=s.heap.push { cls:=.type "range",data:=.fields #[.int lo t,.int hi u,.int 1 v] },toks:=tk }:=by
 refine wpAny_pyIter_range (IsRange.new ..) (small_one h1 h2 h3 h4) ?_
 have I1:Inv X pins σ H { s with heap:=s.heap.push { cls:=.type "range",data:=.fields #[.int lo t,.int hi u,.int 1 v] },toks:=tk }:=I.kept λb o e=>Qe _ e
 refine⟨(s.heap.push { cls:=.type "range",data:=.fields #[.int lo t,.int hi u,.int 1 v] }).objs.size,[(s.heap.push { cls:=.type "range",data:=.fields #[.int lo t,.int hi u,.int 1 v] }).objs.size],_,_,H,rfl,
  I1.kept (t':=tk) λb o e=>Qe _ e,QkJ _ lo (hi - lo).toNat,?_,λb hb=>?_,q⟩
 ·have e1:lo+((0:Nat):Int)*1=lo:=by simp
  have e2:(((hi - lo).toNat:Nat):Int) - ((0:Nat):Int)=ZN lo hi 1:=by rw[QoH];split<;>omega
  show QkD _ _ (lo+((0:Nat):Int)*1) ((((hi - lo).toNat:Nat):Int) - ((0:Nat):Int)) 1;rw[e1,e2];exact QK _ rfl
 ·have e:b=(s.heap.push { cls:=.type "range",data:=.fields #[.int lo t,.int hi u,.int 1 v] }).objs.size:=by simpa using hb
  subst e;exact I1.fpOk (Ql _) (I1.hok.fresh (Ql _))
def Qy5(ta:TA):TI:=λσ H R=>ta σ H λvs H1=>∃j:Int,vs=[.int j] /\ -(2^62)<=j/\j<2^62/\R (Itr 0 j.toNat) H1
theorem QhI{a:Q5}{ta:TA}{p pos:Pos}(hg:Gl X "range")(hm:X.mg "range" = none)(ha:PA X [a] ta)(hs:starEach [a] X.env=[(false,eval a X.env)]:=by rfl):PI X tg (.Call (.Name "range" p) [a] [] pos) (Qy5 ta):=by
 intro pins s σ H R I h;refine Call_ (Qcq I hg hm boot_range (JJ (thn (ha pos pins s σ H _ I h) λus s1 ⟨vs,H1,I1,r1,q1⟩=>?_) hs rfl));obtain⟨j,e,q1,q2,q⟩:=q1;subst e;cases r1 with
 |cons r rr=>
  cases rr;obtain⟨t,rfl⟩:=r;exact call_range_1 (Qpf I1 (by omega) (by omega) q1 q2 (by simpa using q))
def tFor(wi:TI)(g:TG)(tb:TS):TS:=λD σ H=>wi σ H λJ H1=>∃W:Nat->Nat->St->Hp->Prop,(∃m,W 0 m σ H1)/\∀i m σ H,W i m σ H ->
 (J.stop i H/\D.nx σ H)∨(J.go i H/\∃N:St->Hp->Prop,(∀σ' H',N σ' H'->∃m',m'<m/\W (i+1) m' σ' H')/\∀x H',J.yld i H x H'->g x σ H' λσ2 H2=>tb { D with nx:=N,ct:=N,bk:=D.nx } σ2 H2)
def QjP(fp:List Addr)(h:Zl):List (Addr×Obj):=fp.filterMap λb=>(h.get? b).map λo=>(b,o)
theorem Qce{fp:List Addr}{h:Zl}{b:Addr}{o:Obj}(hb:b∈fp)(e:h.get? b=some o):(b,o)∈QjP fp h:=Yw.mpr ⟨b,hb,by rw[e];rfl⟩
theorem Qne{fp:List Addr}{h:Zl}{p:Addr×Obj}(hp:p∈QjP fp h):p.1∈fp/\h.get? p.1=some p.2:=by
 obtain⟨b,hb,e⟩:=Yw.mp hp;cases q:h.get? b with
 |none=>rw[q] at e;cases e
 |some o=>
  rw[q] at e;have e':(b,o)=p:=Qw e;subst e';exact⟨hb,q⟩
theorem Inv.pinned{pins:List (Addr×Obj)}{σ:St}{H:Hp}{s:Shared}{fp:List Addr}(I:Inv X pins σ H s)(hf:∀b∈fp,FpOk X pins H b)(ho:∀b∈fp,∃o,s.heap.get? b=some o/\∀v,o.data≠.cell v):Inv X (pins++QjP fp s.heap) σ H s:=
 I.pins_of λp hp=>(Jm.mp hp).elim (λz=>I.pin p (JG _ z)) λz=>by
  obtain⟨hb,e⟩:=Qne z;obtain⟨f0,f1,f2,_⟩:=hf p.1 hb;obtain⟨o,e',d⟩:=ho p.1 hb;rw[e] at e';cases e';exact⟨e,f0,f1,f2,d⟩
theorem Inv.unpinned{pins pl:List (Addr×Obj)}{σ:St}{H:Hp}{s:Shared}(I:Inv X (pins++pl) σ H s):Inv X pins σ H s:=I.pins_of λp hp=>I.pin p (JG _ (YW _ hp))
theorem Qr6{iter:Q5}{body:List Z6}{wi:TI}{g:TG}{tb:TS}{pos:Pos}(hp:Qf7 (model X.prog X.w) X.A X.env X.xe)(hc:X.calm=true)(hi:PI X tg iter wi)(hg:PG X tg g)(hb:PSs X body tb)
  (hs:∀x,foldedSetIterable iter X.env x=pure x:=by intro _;rfl):PS X (.For tg iter body [] pos) (tFor wi g tb):=by
 intro pins s σ H D I h;refine wpAny_For (thn (hi pins s σ H _ I h) λv s1 h1=>thn h1 λitv s2 h2=>?_) hs;obtain⟨it,fp,tn,J,H2,e,I2,T,st2,f2,W,⟨m0,w0⟩,turn⟩:=h2;subst e;have stat:∀{H':Hp},(∀b∈fp,H' b=none)->∀b∈fp,FpOk X pins H' b:=λhn b hb=>⟨hn b hb,(f2 b hb).2⟩
 refine codeAny_forLoop_any (λn s'=>∃i σ' H',Inv X pins σ' H' s'/\tn i s'.heap/\(∀b∈fp,H' b=none)/\W i n σ' H') ?_ m0 ⟨0,σ,H2,I2,st2,λb hb=>(f2 b hb).1,w0⟩
 rintro n s3 ⟨i,σ3,H3,I3,st3,fr3,w3⟩;rcases turn i n σ3 H3 w3 with⟨stop,qn⟩ | ⟨go,N,hN,step⟩
 ·refine Y4 hp (thn (T.done X rfl rfl rfl hc i pins s3 σ3 H3 X.xe I3 (stat fr3) st3 stop) λr s4 ⟨hr,I4⟩=>?_);subst hr;exact Y6 ⟨σ3,H3,I4,qn⟩
 ·refine Y4 hp (thn (T.item X rfl rfl rfl hc i pins s3 σ3 H3 X.xe I3 (stat fr3) st3 go) λr s4 ⟨u,hr,h4⟩=>?_);subst hr;refine Y4 hp (thn h4 λ_ s5 ⟨x,H5,I5,r5,y5,st5,fr5⟩=>?_);have I5':=I5.pinned (stat fr5) (T.obj _ _ st5);refine Y4 hp (thn (hg _ s5 σ3 H5 x u _ I5' r5 (step x H5 y5)) λ_ s6 ⟨σ6,H6,I6,q6⟩=>?_);refine Y4 hp (thn (hb _ s6 σ6 H6 _ I6 q6) λf s7 q7=>?_);have again:∀{σ7:St}{H7:Hp},Inv X (pins++QjP fp s5.heap) σ7 H7 s7->N σ7 H7->∃m,m<n/\∃i σ' H',Inv X pins σ' H' s7/\tn i s7.heap/\(∀b∈fp,H' b=none)/\W i m σ' H':=λ{σ7 H7} I7 n7=>by
   obtain⟨m',hm,w7⟩:=hN σ7 H7 n7;refine⟨m',hm,i+1,σ7,H7,I7.unpinned,T.keep _ _ _ st5 λb hb o e=>(I7.pin (b,o) (JG _ (JG _ (Qce hb e)))).1,λb hb=>?_,w7⟩;obtain⟨o,e,d⟩:=T.obj _ _ st5 b hb;exact(I7.pin (b,o) (JG _ (JG _ (Qce hb e)))).2.1
  cases f with
  |next=>obtain⟨σ7,H7,I7,n7⟩:=q7;exact again I7 n7
  |cont=>obtain⟨σ7,H7,I7,n7⟩:=q7;exact again I7 n7
  |brk=>obtain⟨σ7,H7,I7,q7⟩:=q7;exact⟨σ7,H7,I7.unpinned,q7⟩
  |ret v=>obtain⟨x7,σ7,H7,I7,r7,q7⟩:=q7;exact⟨x7,σ7,H7,I7.unpinned,r7,q7⟩
end
theorem QnI{lo:Int}{n:Nat}{g:TG}{tb:TS}{D:Ends}{σ:St}{H:Hp}(Pv:Nat->St->Hp->Prop)(h0:Pv 0 σ H)
  (hs:∀i σ H,i<n->Pv i σ H->g (.int (lo+i)) σ H λσ2 H2=>tb { D with nx:=Pv (i+1),ct:=Pv (i+1),bk:=D.nx } σ2 H2)(hd:∀σ H,Pv n σ H->D.nx σ H) :
  ∃W:Nat->Nat->St->Hp->Prop,(∃m,W 0 m σ H)/\∀i m σ H,W i m σ H ->
   ((Itr lo n).stop i H/\D.nx σ H)∨((Itr lo n).go i H/\∃N:St->Hp->Prop,(∀σ' H',N σ' H'->∃m',m'<m/\W (i+1) m' σ' H')/\∀x H',(Itr lo n).yld i H x H'->g x σ H' λσ2 H2=>tb { D with nx:=N,ct:=N,bk:=D.nx } σ2 H2):=by
 refine⟨λi m σ H=>m=n - i/\i<=n/\Pv i σ H,⟨n,by simp,QC _,h0⟩,?_⟩;rintro i m σ H ⟨rfl,hi,p⟩;by_cases hlt:i<n
 ·refine .inr ⟨hlt,Pv (i+1),λσ' H' p'=>⟨n - (i+1),by omega,rfl,hlt,p'⟩,λx H' y=>?_⟩;obtain⟨e,y⟩:=y;subst e y;exact hs i σ _ hlt p
 ·have e:i=n:=by omega
  subst e;exact .inl ⟨Ql _,hd σ H p⟩
abbrev R2:=V->V->Hp->VK->Prop
def OpR(X:Cx)(f:Value->Value->Sem Value)(r:R2):Prop:=
 ∀(pins:List (Addr×Obj))(s:Shared)(σ:St)(H:Hp)(x y:V)(v u:Value)(Q:VK),Inv X pins σ H s->RelV x v->RelV y u->r x y H Q ->
  wpAny (model X.prog X.w) X.A (f v u) (EP X pins σ Q) X.xe s
def UnR(X:Cx)(f:Value->Sem Value)(r:V->Hp->VK->Prop):Prop:=
 ∀(pins:List (Addr×Obj))(s:Shared)(σ:St)(H:Hp)(x:V)(v:Value)(Q:VK),Inv X pins σ H s->RelV x v->r x H Q ->
  wpAny (model X.prog X.w) X.A (f v) (EP X pins σ Q) X.xe s
def CallR(X:Cx)(f:Value)(r:List V->Hp->VK->Prop):Prop:=
 ∀(pins:List (Addr×Obj))(s:Shared)(σ:St)(H:Hp)(xs:List V)(us:List Value)(Q:VK),Inv X pins σ H s->Vals xs us->r xs H Q ->
  wpAny (model X.prog X.w) X.A (call f us) (EP X pins σ Q) X.xe s
def QAQ(X:Cx)(r:V->Hp->(Bool->Hp->Prop)->Prop):Prop:=
 ∀(pins:List (Addr×Obj))(s:Shared)(σ:St)(H:Hp)(x:V)(v:Value)(Q:Bool->Hp->Prop),Inv X pins σ H s->RelV x v->r x H Q ->
  wpAny (model X.prog X.w) X.A (truthy v) (TP X pins σ Q) X.xe s
def tOp(r:R2)(ta tb:TE):TE:=λσ H Q=>ta σ H λx H1=>tb σ H1 λy H2=>r x y H2 Q
def tUn(r:V->Hp->VK->Prop)(ta:TE):TE:=λσ H Q=>ta σ H λx H1=>r x H1 Q
def rI(C:Int->Int->Prop)(g:Int->Int->V):R2:=λx y H Q=>∃i j,x=.int i/\y=.int j/\C i j/\Q (g i j) H
def rI0(g:Int->Int->V):R2:=λx y H Q=>∃i j,x=.int i/\y=.int j/\Q (g i j) H
def rU(g:Int->V):V->Hp->VK->Prop:=λx H Q=>∃i,x=.int i/\Q (g i) H
section
variable{X:Cx}{a b c:Q5}{ta tb tc:TE}{pos:Pos}
theorem Qzp(ha:PE X a ta)(hb:PE X b tb){pins:List (Addr×Obj)}{s:Shared}{σ:St}{H:Hp}{R:V->V->Hp->Prop}(I:Inv X pins σ H s)
  (h:ta σ H λx H1=>tb σ H1 λy H2=>R x y H2){Q:Value->Shared->Prop}{f:Value->Value->Sem Value}
  (hf:∀v u s2 x y H2,Inv X pins σ H2 s2->RelV x v->RelV y u->R x y H2->wpAny (model X.prog X.w) X.A (f v u) Q X.xe s2) :
  wpAny (model X.prog X.w) X.A (eval a X.env) (λv s₁=>wpAny (model X.prog X.w) X.A (eval b X.env) (λu s₂=>wpAny (model X.prog X.w) X.A (f v u) Q X.xe s₂) X.xe s₁) X.xe s:=by
 refine thn (ha pins s σ H _ I h) λv s1 ⟨x,H1,I1,r1,q1⟩=>?_
 refine thn (hb pins s1 σ H1 _ I1 q1) λu s2 ⟨y,H2,I2,r2,q2⟩=>?_
 exact hf v u s2 x y H2 I2 r1 r2 q2
theorem QaT{op:QcN}{r:R2}(ho:OpR X (binaryOp op) r)(ha:PE X a ta)(hb:PE X b tb):PE X (.BinOp a op b pos) (tOp r ta tb):=by
 intro pins s σ H Q I h;exact wpAny_BinOp (Qzp ha hb I h λv u s2 x y H2 I2 rx ry q=>ho pins s2 σ H2 x y v u Q I2 rx ry q)
theorem QyQ{op:UnaryOp}{r:V->Hp->VK->Prop}(ho:UnR X (unaryOp op) r)(ha:PE X a ta):PE X (.UnaryOp op a pos) (tUn r ta):=by
 intro pins s σ H Q I h;exact UnaryOp_ (thn (ha pins s σ H _ I h) λv s1 ⟨x,H1,I1,r1,q1⟩=>ho pins s1 σ H1 x v Q I1 r1 q1)
theorem opI{f:Value->Value->Sem Value}{C:Int->Int->Prop}{g:Int->Int->Int}
  (rule:∀(i j:Int)(t u:Tok)(s:Shared)(Q:Value->Shared->Prop)(E:Value->Shared->Prop),C i j->Q (.int (g i j) s.toks) { s with toks:=s.toks+1 }->wpAny (model X.prog X.w) X.A (f (.int i t) (.int j u)) Q E s) :
  OpR X f (rI C λi j=>.int (g i j)):=by
 intro pins s σ H x y v u Q I rx ry h;obtain⟨i,j,rfl,rfl,hc,q⟩:=h;obtain⟨t,rfl⟩:=rx;obtain⟨t',rfl⟩:=ry;exact rule i j t t' s _ _ hc ⟨.int (g i j),H,I.tok _,⟨_,rfl⟩,q⟩
theorem QxS{f:Value->Value->Sem Value}{g:Int->Int->Int}
  (rule:∀(i j:Int)(t u:Tok)(s:Shared)(Q:Value->Shared->Prop)(E:Value->Shared->Prop),Q (.int (g i j) s.toks) { s with toks:=s.toks+1 }->wpAny (model X.prog X.w) X.A (f (.int i t) (.int j u)) Q E s) :
  OpR X f (rI0 λi j=>.int (g i j)):=by
 intro pins s σ H x y v u Q I rx ry h;obtain⟨i,j,rfl,rfl,q⟩:=h;obtain⟨t,rfl⟩:=rx;obtain⟨t',rfl⟩:=ry;exact rule i j t t' s _ _ ⟨.int (g i j),H,I.tok _,⟨_,rfl⟩,q⟩
theorem QyY{f:Value->Value->Sem Value}{g:Int->Int->Bool}
  (rule:∀(i j:Int)(t u:Tok)(s:Shared)(Q:Value->Shared->Prop)(E:Value->Shared->Prop),Q (.bool (g i j)) s->wpAny (model X.prog X.w) X.A (f (.int i t) (.int j u)) Q E s) :
  OpR X f (rI0 λi j=>.bl (g i j)):=by
 intro pins s σ H x y v u Q I rx ry h;obtain⟨i,j,rfl,rfl,q⟩:=h;obtain⟨t,rfl⟩:=rx;obtain⟨t',rfl⟩:=ry;exact rule i j t t' s _ _ ⟨.bl (g i j),H,I,rfl,q⟩
def QAc(i j:Int):Prop:=0<=j/\j<=1000000/\i.natAbs<2^64
def CMul(i j:Int):Prop:=(-(2^64)<i/\i<2^64)∨(-(2^64)<j/\j<2^64)
theorem CMul.ok{i j:Int}(h:CMul i j):IntMulOk i j:=by
 rcases h with⟨h1,h2⟩ | ⟨h1,h2⟩
 ·exact .of_left (intBits_le_64 h1 h2)
 ·exact .of_right (intBits_le_64 h1 h2)
theorem QfL:OpR X (binaryOp .Add) (rI0 λi j=>.int (i+j)):=QxS λ_ _ _ _ _ _ _ q=>add_int q
theorem Qcp:OpR X (binaryOp .Sub) (rI0 λi j=>.int (i - j)):=QxS λ_ _ _ _ _ _ _ q=>sub_int q
theorem QfK:OpR X (binaryOp .Mult) (rI CMul λi j=>.int (i*j)):=opI λ_ _ _ _ _ _ _ hc q=>mul_int q hc.ok
theorem QhO:OpR X (binaryOp .Mod) (rI (λ_ j=>0<j) λi j=>.int (i % j)):=opI λi j _ _ _ _ _ hc q=>by
 have h1:(0:Int)<j:=hc;exact mod_int' (by omega) (by rw[Int.fmod_eq_emod_of_nonneg i (by omega)];exact q)
theorem QhM:OpR X (binaryOp .Pow) (rI QAc λi j=>.int (i^j.toNat)):=opI λ_ _ _ _ _ _ _ hc q=>pow_int_small hc.1 hc.2.1 hc.2.2 q
theorem QjR:OpR X (binaryOp .LShift) (rI QAc λi j=>.int (i*2^j.toNat)):=opI λ_ _ _ _ _ _ _ hc q=>lshift_int_small hc.1 hc.2.1 hc.2.2 q
theorem Qwt:OpR X (binaryOp .BitAnd) (rI0 λi j=>.int (QcK i j)):=QxS λ_ _ _ _ _ _ _ q=>and_int q
theorem QyX:OpR X (binaryOp .BitOr) (rI0 λi j=>.int (Qdi i j)):=QxS λ_ _ _ _ _ _ _ q=>or_int q
theorem unI{f:Value->Sem Value}{g:Int->Int}
  (rule:∀(i:Int)(t:Tok)(s:Shared)(Q:Value->Shared->Prop)(E:Value->Shared->Prop),Q (.int (g i) s.toks) { s with toks:=s.toks+1 }->wpAny (model X.prog X.w) X.A (f (.int i t)) Q E s) :
  UnR X f (rU λi=>.int (g i)):=by
 intro pins s σ H x v Q I rx h;obtain⟨i,rfl,q⟩:=h;obtain⟨t,rfl⟩:=rx;exact rule i t s _ _ ⟨.int (g i),H,I.tok _,⟨_,rfl⟩,q⟩
theorem Qvb:UnR X (unaryOp .USub) (rU λi=>.int (-i)):=unI λ_ _ _ _ _ q=>neg_int q
end
def Qzx:V->V->Bool
 |.non,.non=>true | .non,.int _=>true | .int _,.non=>true | .non,.bl _=>true | .bl _,.non=>true | .non,.str _=>true | .str _,.non=>true
 |.int _,.int _=>true | .bl _,.bl _=>true | .str _,.str _=>true | .byt _,.byt _=>true
 |.int _,.str _=>true | .str _,.int _=>true | .bl _,.str _=>true | .str _,.bl _=>true
 |_,_=>false
def rEq:R2:=λx y H Q=>Qzx x y=true/\Q (.bl (decide (x=y))) H
def rNe:R2:=λx y H Q=>Qzx x y=true/\Q (.bl (!decide (x=y))) H
theorem QnW{i j:Int}:decide (V.int i=V.int j)=(i == j):=by
 rw[YG];simp
theorem Qsu{i j:Bool}:decide (V.bl i=V.bl j)=(i == j):=by
 rw[YG];simp
theorem QnV{i j:Str}:decide (V.str i=V.str j)=(i == j):=by
 rw[YG];simp
theorem QnX{i j:Array UInt8}:decide (V.byt i=V.byt j)=(i.toList == j.toList):=by
 rw[YG];cases i;cases j;simp
section
variable{X:Cx}{a b c:Q5}{ta tb tc:TE}{pos:Pos}
theorem ZT{pins:List (Addr×Obj)}{σ:St}{H:Hp}{s:Shared}{Q:VK}{k k':Bool}(I:Inv X pins σ H s)(q:Q (.bl k) H)(e:k=k'):EP X pins σ Q (.bool k') s:=by
 subst e;exact⟨.bl k,H,I,rfl,q⟩
theorem QtW:OpR X (compareOp .Eq) rEq:=by
 intro pins s σ H x y v u Q I rx ry h;obtain⟨hs,q⟩:=h;cases x with
 |non=>
  cases rx;cases y with
  |non=>cases ry;exact PySem.EqNone.eq_none_none (ZT I q (by simp))
  |bl j=>cases ry;exact PySem.EqNone.eq_none_bool (ZT I q (by simp))
  |int j=>obtain⟨t',rfl⟩:=ry;exact PySem.EqNone.eq_none_int (ZT I q (by simp))
  |str j=>obtain⟨t',rfl⟩:=ry;exact PySem.EqNone.eq_none_str (ZT I q (by simp))
  |_=>exact absurd (show false=true from hs) Qt
 |bl i=>
  cases rx;cases y with
  |non=>cases ry;exact PySem.EqNone.eq_bool_none (ZT I q (by simp))
  |bl j=>cases ry;exact eq_bool (ZT I q Qsu)
  |str j=>obtain⟨t',rfl⟩:=ry;exact PySem.EqMixed.eq_bool_str (ZT I q (by simp))
  |_=>exact absurd (show false=true from hs) Qt
 |int i=>
  obtain⟨t,rfl⟩:=rx;cases y with
  |non=>cases ry;exact PySem.EqNone.eq_int_none (ZT I q (by simp))
  |int j=>obtain⟨t',rfl⟩:=ry;exact eq_int (ZT I q QnW)
  |str j=>obtain⟨t',rfl⟩:=ry;exact PySem.EqMixed.eq_int_str (ZT I q (by simp))
  |_=>exact absurd (show false=true from hs) Qt
 |str i=>
  obtain⟨t,rfl⟩:=rx;cases y with
  |non=>cases ry;exact PySem.EqNone.eq_str_none (ZT I q (by simp))
  |bl j=>cases ry;exact PySem.EqMixed.eq_str_bool (ZT I q (by simp))
  |int j=>obtain⟨t',rfl⟩:=ry;exact PySem.EqMixed.eq_str_int (ZT I q (by simp))
  |str j=>obtain⟨t',rfl⟩:=ry;exact eq_str (ZT I q QnV)
  |_=>exact absurd (show false=true from hs) Qt
 |byt i=>
  obtain⟨t,rfl⟩:=rx;cases y with
  |byt j=>obtain⟨t',rfl⟩:=ry;exact PySem.W.eq_bytes (ZT I q QnX)
  |_=>exact absurd (show false=true from hs) Qt
 |_=>cases y<;>exact absurd (show false=true from hs) Qt
theorem QpX:OpR X (compareOp .NotEq) rNe:=by
 intro pins s σ H x y v u Q I rx ry h;obtain⟨hs,q⟩:=h;cases x with
 |non=>
  cases rx;cases y with
  |non=>cases ry;exact PySem.EqNone.ne_none_none (ZT I q (by simp))
  |bl j=>cases ry;exact PySem.EqNone.ne_none_bool (ZT I q (by simp))
  |int j=>obtain⟨t',rfl⟩:=ry;exact PySem.EqNone.ne_none_int (ZT I q (by simp))
  |str j=>obtain⟨t',rfl⟩:=ry;exact PySem.EqNone.ne_none_str (ZT I q (by simp))
  |_=>exact absurd (show false=true from hs) Qt
 |bl i=>
  cases rx;cases y with
  |non=>cases ry;exact PySem.EqNone.ne_bool_none (ZT I q (by simp))
  |bl j=>cases ry;exact ne_bool (ZT I q (congrArg not Qsu))
  |str j=>obtain⟨t',rfl⟩:=ry;exact PySem.EqMixed.ne_bool_str (ZT I q (by simp))
  |_=>exact absurd (show false=true from hs) Qt
 |int i=>
  obtain⟨t,rfl⟩:=rx;cases y with
  |non=>cases ry;exact PySem.EqNone.ne_int_none (ZT I q (by simp))
  |int j=>obtain⟨t',rfl⟩:=ry;exact ne_int (ZT I q (congrArg not QnW))
  |str j=>obtain⟨t',rfl⟩:=ry;exact PySem.EqMixed.ne_int_str (ZT I q (by simp))
  |_=>exact absurd (show false=true from hs) Qt
 |str i=>
  obtain⟨t,rfl⟩:=rx;cases y with
  |non=>cases ry;exact PySem.EqNone.ne_str_none (ZT I q (by simp))
  |bl j=>cases ry;exact PySem.EqMixed.ne_str_bool (ZT I q (by simp))
  |int j=>obtain⟨t',rfl⟩:=ry;exact PySem.EqMixed.ne_str_int (ZT I q (by simp))
  |str j=>obtain⟨t',rfl⟩:=ry;exact ne_str (ZT I q (congrArg not QnV))
  |_=>exact absurd (show false=true from hs) Qt
 |byt i=>
  obtain⟨t,rfl⟩:=rx;cases y with
  |byt j=>obtain⟨t',rfl⟩:=ry;exact PySem.W.ne_bytes (ZT I q (congrArg not QnX))
  |_=>exact absurd (show false=true from hs) Qt
 |_=>cases y<;>exact absurd (show false=true from hs) Qt
theorem QkY:OpR X (compareOp .Lt) (rI0 λi j=>.bl (decide (i<j))):=QyY λ_ _ _ _ _ _ _ q=>lt_int q
theorem QkZ:OpR X (compareOp .LtE) (rI0 λi j=>.bl (decide (i<=j))):=QyY λ_ _ _ _ _ _ _ q=>le_int q
theorem QtV:OpR X (compareOp .GtE) (rI0 λi j=>.bl (decide (j<=i))):=QyY λ_ _ _ _ _ _ _ q=>ge_int q
theorem Qwp:OpR X (compareOp .Is) (λx y H Q=>y=.non/\Q (.bl (decide (x=.non))) H):=by
 intro pins s σ H x y v u Q I rx ry h;obtain⟨rfl,q⟩:=h;cases ry;refine is_none_gen (ZT I q ?_);cases x<;>first
  |(cases rx;rfl)
  |(obtain⟨t,rfl⟩:=rx;rfl)
def isObj:HO->Bool
 |.lst _=>true
 |.ins _ _ _=>true
 |_=>false
theorem obj_there{pins:List (Addr×Obj)}{s:Shared}{σ:St}{H:Hp}{a:Addr}{o:HO}(I:Inv X pins σ H s)(h:H a=some o)(p:isObj o=true):∃ob,s.heap.get? a=some ob/\ob.cls≠.type "tuple" := by
 cases o with
 |lst xs=>
  obtain⟨_,its,n,_,e⟩:xs.length<=sizeLine/\∃(its:List Value)(n:Nat),Vals xs its/\s.heap.get? a=some { cls:=.type "list",data:=.seq its.toArray n }:=I.hok a _ h
  exact⟨_,e,(by show Yl "list" ≠ .type "tuple";decide +kernel)⟩
 |ins C dx fs=>
  have x:=I.hok a _ h;obtain⟨_,_,_,e,_⟩:=x;exact⟨_,e,(by show JT C≠.type "tuple";exact λz=>by cases z)⟩
 |_=>exact absurd (show false=true from p) Qt
theorem OpR.or{f:Value->Value->Sem Value}{r r':R2}(h:OpR X f r)(h':OpR X f r'):OpR X f (λx y H Q=>r x y H Q∨r' x y H Q):=by
 intro pins s σ H x y v u Q I rx ry q;rcases q with q | q
 ·exact h pins s σ H x y v u Q I rx ry q
 ·exact h' pins s σ H x y v u Q I rx ry q
theorem ZS(b:Q5){op:QkF}(h:op≠.In:=by decide)(h2:op≠.NotIn:=by decide):behindInMarks op b=false:=by
 have e1:(op == CmpOp.In)=false:=by cases op<;>first | rfl | exact absurd rfl h
 have e2:(op == CmpOp.NotIn)=false:=by cases op<;>first | rfl | exact absurd rfl h2
 cases b<;>simp[behindInMarks,e1,e2]
theorem QeM{op:QkF}{r:R2}(ho:OpR X (compareOp op) r)(ha:PE X a ta)(hb:PE X b tb)(hm:behindInMarks op b=false):PE X (.Compare a [op] [b] pos) (tOp r ta tb):=by
 intro pins s σ H Q I h;exact wpAny_Compare1 (Qzp ha hb I h λv u s2 x y H2 I2 rx ry q=>ho pins s2 σ H2 x y v u Q I2 rx ry q) hm
def Qvm(t:TE):TT:=λσ H Q=>t σ H λx H'=>∃k,x=.bl k/\Q k H'
theorem Qcw{op:QkF}{r:R2}(ho:OpR X (compareOp op) r)(ha:PE X a ta)(hb:PE X b tb)(hm:behindInMarks op b=false):PT X (.Compare a [op] [b] pos) (Qvm (tOp r ta tb)):=by
 intro pins s σ H Q I h;refine wpAny_isTrue_Compare1 (thn (ha pins s σ H _ I h) λv s1 ⟨x,H1,I1,r1,q1⟩=>thn (hb pins s1 σ H1 _ I1 q1) λu s2 ⟨y,H2,I2,r2,q2⟩=>
  thn (ho pins s2 σ H2 x y v u _ I2 r1 r2 q2) λc s3 ⟨z,H3,I3,r3,k,e,q3⟩=>?_) hm
 subst e;cases r3;exact Zp ⟨H3,I3,q3⟩
def QlZ(r r':R2)(ta tb tc:TE):TE:=λσ H Q=>ta σ H λx H1=>tb σ H1 λy H2=>r x y H2 λz H3=>∃k,z=.bl k /\
 (if k=true then tc σ H3 λw' H4=>r' y w' H4 Q else Q (.bl false) H3)
theorem Qpx{op op':QkF}{r r':R2}(ho:OpR X (compareOp op) r)(ho':OpR X (compareOp op') r')(ha:PE X a ta)(hb:PE X b tb)(hc:PE X c tc)
  (hm:lastMarks [op,op'] [b,c]=false:=by with_unfolding_all rfl):PE X (.Compare a [op,op'] [b,c] pos) (QlZ r r' ta tb tc):=by
 intro pins s σ H Q I h;refine Compare_chain (thn (ha pins s σ H _ I h) λv s1 ⟨x,H1,I1,r1,q1⟩=>chain_link (thn (hb pins s1 σ H1 _ I1 q1) λu s2 ⟨y,H2,I2,r2,q2⟩=>
  thn (ho pins s2 σ H2 x y v u _ I2 r1 r2 q2) λd s3 ⟨z,H3,I3,r3,k,e,q3⟩=>?_)) hm
 subst e;cases r3;refine Zp ?_
 cases k with
 |false=>exact ite_ff ⟨.bl false,H3,I3,rfl,q3⟩
 |true=>exact ite_tt (chain_last (thn (hc pins s3 σ H3 _ I3 q3) λw' s4 ⟨z',H4,I4,r4,q4⟩=>ho' pins s4 σ H4 y z' u w' Q I4 r2 r4 q4))
theorem Qpk{op op':QkF}{r r':R2}(ho:OpR X (compareOp op) r)(ho':OpR X (compareOp op') r')(ha:PE X a ta)(hb:PE X b tb)(hc:PE X c tc)
  (hm:lastMarks [op,op'] [b,c]=false:=by with_unfolding_all rfl):PT X (.Compare a [op,op'] [b,c] pos) (Qvm (QlZ r r' ta tb tc)):=by
 intro pins s σ H Q I h;refine isTrue_chain (thn (ha pins s σ H _ I h) λv s1 ⟨x,H1,I1,r1,q1⟩=>test_link (thn (hb pins s1 σ H1 _ I1 q1) λu s2 ⟨y,H2,I2,r2,q2⟩=>
  thn (ho pins s2 σ H2 x y v u _ I2 r1 r2 q2) λd s3 ⟨z,H3,I3,r3,k,e,q3⟩=>?_)) hm
 subst e;cases r3;refine Zp ?_
 cases k with
 |false=>
  obtain⟨k',e',q'⟩:=q3;cases e';exact ite_ff ⟨H3,I3,q'⟩
 |true=>
  refine ite_tt (test_last (thn (hc pins s3 σ H3 _ I3 q3) λw' s4 ⟨z',H4,I4,r4,q4⟩=>thn (ho' pins s4 σ H4 y z' u w' _ I4 r2 r4 q4) λd' s5 ⟨z2,H5,I5,r5,k2,e2,q5⟩=>?_));subst e2;cases r5;exact Zp ⟨H5,I5,q5⟩
def Qzq(K:PySem.W.Frag)(x:V)(H:Hp)(k:Bool):Prop:=
 match x with
 |.non=>k=false
 |.bl b=>k=b
 |.int i=>k=(i != 0)
 |.str y=>y.length<=sizeLine/\k=((y.length:Int) != 0)
 |.byt y=>y.size<=sizeLine/\k=((y.size:Int) != 0)
 |.ref p=>(∃xs,SqL K H p xs/\k = !xs.isEmpty)∨(∃xs,SqT K H p xs/\k = !xs.isEmpty)∨∃kvs,H p=some (.dK kvs)/\k = !kvs.isEmpty
 |_=>False
theorem Qle{κ:Type}{kvs:List (κ×V)}{vs:List (κ×Value)}(r:KV kvs vs):(!vs.isEmpty) = !kvs.isEmpty:=by
 cases r<;>rfl
theorem QfY{xs:List V}{its:List Value}(r:Vals xs its):(!its.toArray.isEmpty) = !xs.isEmpty:=by
 cases r<;>simp
theorem QfR:(sizeLine:Nat)<2^63:=by rw[sizeLine_eq];decide
theorem Qvg:QAQ X (λx H Q=>∃k,Qzq X.K x H k/\Q k H):=by
 intro pins s σ H x v Q I rx h;obtain⟨k,e,q⟩:=h;have hl:=QfR;have hs:sizeLine=16777216:=sizeLine_eq;cases x with
 |non=>
  cases rx;have e':k=false:=e;subst e';exact truthy_none ⟨H,I,q⟩
 |bl b=>
  cases rx;have e':k=b:=e;subst e';exact Zp ⟨H,I,q⟩
 |int i=>
  obtain⟨t,rfl⟩:=rx;have e':k=(i != 0):=e;subst e';exact PySem.P.truthy_int ⟨H,I,q⟩
 |str y=>
  obtain⟨t,rfl⟩:=rx;obtain⟨hy,e'⟩:y.length<=sizeLine/\k=((y.length:Int) != 0):=e;subst e';exact PySem.P.truthy_str (by omega) ⟨H,I.tok _,q⟩
 |byt y=>
  obtain⟨t,rfl⟩:=rx;obtain⟨hy,e'⟩:y.size<=sizeLine/\k=((y.size:Int) != 0):=e;subst e';exact PySem.W.truthy_bytes (by omega) ⟨H,I.tok _,q⟩
 |ref p=>
  cases rx;have e':(∃xs,SqL X.K H p xs/\k = !xs.isEmpty)∨(∃xs,SqT X.K H p xs/\k = !xs.isEmpty)∨∃kvs,H p=some (.dK kvs)/\k = !kvs.isEmpty:=e
  rcases e' with⟨xs,hx,e'⟩ | ⟨xs,hx,e'⟩ | ⟨kvs,hx,e'⟩
  ·subst e';obtain⟨its,r,pl,hz⟩:=I.list hx;have hlen:=r.length;exact wpAny_truthy_list pl.isList (by simp only[Qp];omega) ⟨H,I.tok _,by rw[QfY r];exact q⟩
  ·subst e';obtain⟨its,r,pl,hz⟩:=I.tuple hx;have hlen:=r.length;exact truthy_tuple pl (by simp only[Qp];omega) ⟨H,I.tok _,by rw[QfY r];exact q⟩
  ·subst e';obtain⟨hz,hS,vs,r,m⟩:kvs.length<=sizeLine/\(p == sysModules)=false/\∃vs,KV kvs vs/\s.heap.DictOf (mixKind X.prog X.w) p vs:=I.hok p _ hx
   have hlen:kvs.length=vs.length:=QuP r;exact wpAny_truthy_dict hS m (by omega) ⟨H,I.tok _,by rw[Qle r];exact q⟩
 |_=>exact(show False from e).elim
theorem Qpj(ha:PE X a ta)(he:∀whole,isTrue a X.env whole=(do let v <- whole;standAt a.pos;holding [v] (truthy v))) :
  PT X a (λσ H Q=>ta σ H λx H'=>∃k,Qzq X.K x H' k/\Q k H'):=by
 intro pins s σ H Q I h;exact isTrue_plain (thn (ha pins s σ H _ I h) λv s1 ⟨x,H1,I1,r1,q1⟩=>Qvg pins s1 σ H1 x v Q I1 r1 q1) (he _)
theorem vals1{x:V}{us:List Value}(r:Vals [x] us):∃u,us=[u]/\RelV x u:=by
 cases r with
 |cons r1 r2=>cases r2;exact⟨_,rfl,r1⟩
theorem vals2{x y:V}{us:List Value}(r:Vals [x,y] us):∃u w',us=[u,w']/\RelV x u/\RelV y w':=by
 cases r with
 |cons r1 r2=>
  cases r2 with
  |cons r3 r4=>cases r4;exact⟨_,_,rfl,r1,r3⟩
theorem Qod(hc:X.calm=true):CallR X (.builtin "max") (λxs H Q=>∃i j,xs=[.int i,.int j]/\Q (.int (if j > i then j else i)) H):=by
 intro pins s σ H xs us Q I r h;obtain⟨i,j,rfl,q⟩:=h;obtain⟨u,w',rfl,⟨t,rfl⟩,⟨t',rfl⟩⟩:=vals2 r;refine max_two_ints (I.ok.hd hc) λh' tk k=>⟨_,H,I.kept k,?_,q⟩
 by_cases hj:j > i
 ·rw[if_pos hj,if_pos hj];exact⟨_,rfl⟩
 ·rw[if_neg hj,if_neg hj];exact⟨_,rfl⟩
theorem Qe6(hc:X.calm=true):CallR X (.builtin "min") (λxs H Q=>∃i j,xs=[.int i,.int j]/\Q (.int (if j<i then j else i)) H):=by
 intro pins s σ H xs us Q I r h;obtain⟨i,j,rfl,q⟩:=h;obtain⟨u,w',rfl,⟨t,rfl⟩,⟨t',rfl⟩⟩:=vals2 r;refine min_two_ints (I.ok.hd hc) λh' tk k=>⟨_,H,I.kept k,?_,q⟩
 by_cases hj:j<i
 ·rw[if_pos hj,if_pos hj];exact⟨_,rfl⟩
 ·rw[if_neg hj,if_neg hj];exact⟨_,rfl⟩
end
structure ObjM (h:Zl) (x dx C:Addr) (mA:Str->Option Value):Prop where
 obj:h.get? x=some (PySem.W.instObj C dx)
 ns:h.Ns1 dx mA
 ne:dx≠x
theorem Qnr{h:Zl}{dx:Addr}{mA:Str->Option Value}(n:h.Ns1 dx mA):∃od,h.get? dx=some od/\∀name,PySem.W.lookIn name od=some (mA name):=by
 obtain⟨o,es,ep,ho,hd,hk,_,hm⟩:=n;refine⟨o,ho,λname=>?_⟩;have e:=hm name;unfold nsFind findBy at e;rw[<- Array.find?_toList] at e;unfold PySem.W.lookIn;rw[hd]
 dsimp only
 split
 ·rename_i y q
  rw[q] at e;exact congrArg some e
 ·rename_i q
  rw[q] at e;have a:es.toList.any (·.refKey)=false:=by
   rw[List.any_eq_false];intro y hy;obtain⟨z,t,hkey⟩:=hk y (QcV.mp hy);simp[DictEntry.refKey,hkey]
  have a':¬es.toList.any (·.refKey)=true:=by rw[a];exact Qt
  rw[if_neg a'];exact congrArg some e
theorem ObjM.look{h:Zl}{x dx C:Addr}{mA:Str->Option Value}(I:ObjM h x dx C mA):∃od,PySem.W.InstAt h x (PySem.W.instObj C dx) C (some od)/\∀name,PySem.W.lookIn name od=some (mA name):=
 let ⟨od,ho,hl⟩:=Qnr I.ns
 ⟨od,⟨I.obj,rfl,rfl,ho⟩,hl⟩
section
variable{prog:QP}{w:JH}{A:Js}{E:Value->Shared->Prop}{s:Shared}{K:PySem.W.Frag}{x dx C f:Addr}{mA:Str->Option Value}{name:Str}{v:Value}
end
section
variable{P:QP}{w:JH}{H H':Hp}{h h':Zl}{a C dx:Addr}{fs fs':List (Str×V)}
theorem Quq(hok:HOk P w H h)(e:H a=some (.ins C dx fs)):∃mA,ObjM h a dx C mA/\(∀f,Qzr (fs.lookup f) (mA f))/\PySem.Within mA (fs.map (·.1))/\fs.length<=1000/\H dx=some (.own a):=by
 obtain⟨d,z,ne,ob,mA,n,r,q⟩:=(show ObjOk P w H h a (.ins C dx fs) from hok a _ e);exact⟨mA,⟨ob,n,ne⟩,r,q,z,d⟩
end
structure Cls (K:PySem.W.Frag) (C:Addr):Prop where
 pg:PySem.W.plainGet K C Str.empty=true
 hd:PySem.W.hasDictIn K C=true
 po:PySem.W.plainOver K C=true
 sa:PySem.W.findIn K (.ref C) "__setattr__" = some (some (.builtin "object.__setattr__"))
theorem Cls.get{K:PySem.W.Frag}{C:Addr}(c:Cls K C)(f:Str):PySem.W.plainGet K C f=true:=c.pg
section
variable{X:Cx}{pins:List (Addr×Obj)}{σ:St}{H:Hp}{s:Shared}{a C dx:Addr}{fs:List (Str×V)}{f:Str}{v:V}{A:Js}{E:Value->Shared->Prop}
end
section
variable{X:Cx}{o e value:Q5}{f:Str}{pos pos' tpos:Pos}{ta tv:TE}
def rAdd:V->V->Hp->VK->Prop:=λx y H Q=>∃i j,x=.int i/\y=.int j/\Q (.int (i+j)) H
end
section
variable{X:Cx}{pins:List (Addr×Obj)}{σ:St}{H:Hp}{s:Shared}{A:Js}{E:Value->Shared->Prop}{Q:Value->Shared->Prop}{c:Value}{b:Bool}
inductive TyOf (K:PySem.W.Frag) (H:Hp):V->Value->Prop where
 |non:TyOf K H .non (.type "NoneType")
 |bl (x:Bool):TyOf K H (.bl x) (.type "bool")
 |int (i:Int):TyOf K H (.int i) (.type "int")
 |str (x:Str):TyOf K H (.str x) (.type "str")
 |flt (x:UInt64):TyOf K H (.flt x) (.type "float")
 |lst {a:Addr} {xs:List V} (e:H a=some (.lst xs)):TyOf K H (.ref a) (.type "list")
 |frz {a:Addr} {o:Obj} {xs:List V} (e:H a=some (.frz o (.lst xs))):TyOf K H (.ref a) (.type "list")
 |tup {a:Addr} {xs:List V} (e:H a=some (.tup xs)):TyOf K H (.ref a) (.type "tuple")
 |dK {a:Addr} {kvs:List (Key×V)} (e:H a=some (.dK kvs)):TyOf K H (.ref a) (.type "dict")
 |dT {a:Addr} {kvs:List (List Key×V)} (e:H a=some (.dT kvs)):TyOf K H (.ref a) (.type "dict")
 |ins {a C dx:Addr} {fs:List (Str×V)} (e:H a=some (.ins C dx fs)) (cl:Cls K C) (ha:PySem.W.findIn K (.ref C) "__class__" = some (some (.builtin "object.__class__")))
   (hn:PySem.W.specialIn K (.builtin "object.__class__") "__get__" = some (some (.builtin "getset_descriptor.__get__"))) (htk:PySem.W.takesIn K (.builtin "object.__class__")=some true)
   (hm:PySem.W.mroIn K C (.type "object")=some true):TyOf K H (.ref a) (.ref C)
theorem Qny{x:V}{u t:Value}(I:Inv X pins σ H s)(rx:RelV x u)(ty:TyOf X.K H x t)(e:PySem.W.kitOne X.K t c=some b)(h:∀tk,Q (.bool b) { s with toks:=tk }) :
  wpAny (model X.prog X.w) A (call (.builtin "isinstance") [u,c]) Q E s:=by
 cases ty with
 |non=>cases(show u=Zs from rx);exact PySem.W.kia_one PySem.W.kitx_none I.kIn QaH e (λz=>nomatch z) h
 |bl y=>cases(show u=ZW y from rx);exact PySem.W.kia_one PySem.W.kitx_bool I.kIn QaH e (λz=>nomatch z) h
 |int i=>obtain⟨t,q⟩:=(show ∃t,u=Qkw i t from rx);cases q;exact PySem.W.kia_one PySem.W.kitx_int I.kIn QaH e (λz=>nomatch z) h
 |str y=>obtain⟨t,q⟩:=(show ∃t,u=Qkv y t from rx);cases q;exact PySem.W.kia_one PySem.W.kitx_str I.kIn QaH e (λz=>nomatch z) h
 |flt y=>obtain⟨t,q⟩:=(show ∃t,u=Qx6 y t from rx);cases q;exact PySem.W.kia_one PySem.W.kitx_float I.kIn QaH e (λz=>nomatch z) h
 |@lst a xs ea=>
  cases(show u=JT a from rx);obtain⟨_,_,n,_,h1⟩:=(show ObjOk X.prog X.w H s.heap a (.lst xs) from I.hok a _ ea);exact PySem.W.kia_one PySem.W.kitx_list I.kIn ⟨_,h1,rfl⟩ e (λz=>nomatch z) h
 |@frz a ob xs ea=>
  cases(show u=JT a from rx);obtain⟨_,_,_,n,_,h1⟩:=(show ObjOk X.prog X.w H s.heap a (.frz ob (.lst xs)) from I.hok a _ ea);exact PySem.W.kia_one PySem.W.kitx_list I.kIn ⟨_,h1,rfl⟩ e (λz=>nomatch z) h
 |@tup a xs ea=>
  cases(show u=JT a from rx);obtain⟨_,_,_,p⟩:=(show ObjOk X.prog X.w H s.heap a (.tup xs) from I.hok a _ ea);obtain⟨o,h1,h2,_⟩:=p;exact PySem.W.kia_one PySem.W.kitx_tuple I.kIn ⟨o,h1,h2⟩ e (λz=>nomatch z) h
 |@dK a kvs ea=>
  cases(show u=JT a from rx);obtain⟨_,_,vs,_,p⟩:=(show ObjOk X.prog X.w H s.heap a (.dK kvs) from I.hok a _ ea);obtain⟨o,es,ep,h1,h2,_⟩:=p;exact PySem.W.kia_one PySem.W.kitx_dict I.kIn ⟨o,h1,h2.1⟩ e (λz=>nomatch z) h
 |@dT a kvs ea=>
  cases(show u=JT a from rx);obtain⟨_,_,xs,_,o,es,ep,h1,h2,_⟩:=(show ObjOk X.prog X.w H s.heap a (.dT kvs) from I.hok a _ ea);exact PySem.W.kia_one PySem.W.kitx_dict I.kIn ⟨o,h1,h2.1⟩ e (λz=>nomatch z) h
 |@ins a C dx fs ea cl ha hn htk hm=>
  cases(show u=JT a from rx);obtain⟨mA,O,_⟩:=Quq I.hok ea;obtain⟨od,J,_⟩:=O.look;exact PySem.W.kia_one (PySem.W.kitx_own (cl.get _) cl.hd ha hn htk hm) I.kIn J e (λz=>nomatch z) h
end
structure Room (k:Nat) (A:Js):Prop where
 hd:A.handled=none
 dp:A.depth+3*k+5<recursionLimit
 un:A.units+16*k+200<cLine
theorem Room.mono{j k:Nat}{A:Js}(r:Room k A)(h:j<=k):Room j A:=⟨r.hd,by have:=r.dp;omega,by have:=r.un;omega⟩
theorem Room.deeper{k:Nat}{A:Js}(r:Room (k+1) A)(env:Env):Room k (A.deeper env):=
 ⟨r.hd,by have:=r.dp;show A.depth+1+3*k+5<_;omega,by have:=r.un;show A.units+3+16*k+200<_;omega⟩
theorem Room.depth{k:Nat}{A:Js}(r:Room k A):A.depth<recursionLimit:=by have:=r.dp;omega
theorem Room.units0{k:Nat}{A:Js}(r:Room k A):A.units<cLine:=by have:=r.un;omega
def QoU:TA:=λ_ H Q=>Q [] H
def Qdk(ta:TE)(tr:TA):TA:=λσ H Q=>ta σ H λx H1=>tr σ H1 λxs H2=>Q (x::xs) H2
section
variable{X:Cx}{e:Q5}{es:List Q5}{te:TE}{t:TA}{pos:Pos}
theorem J3:PA X [] QoU:=λ_ _ _ _ H Q I h=>QoP ⟨[],H,I,.nil,h⟩
theorem JF(ha:PE X e te)(hr:PA X es t)(hs:starEach (e::es) X.env=(false,eval e X.env)::starEach es X.env:=by rfl):PA X (e::es) (Qdk te t):=by
 intro pos pins s σ H Q I h;rw[hs];show wpAny _ _ (spliced ((false,eval e X.env)::backTo pos (starEach es X.env))) _ _ s;refine QoB (thn (ha pins s σ H _ I h) λu s1 ⟨x,H1,I1,r1,q1⟩=>?_);exact thn (hr pos pins s1 σ H1 _ I1 q1) λus s2 ⟨xs,H2,I2,r2,q2⟩=>⟨x::xs,H2,I2,.cons r1 r2,q2⟩
def QAj(t:TA):TE:=λσ H Q=>t σ H λxs H1=>xs.length<=sizeLine/\∀p,H1 p=none->Q (.ref p) (upd H1 p (.lst xs))
theorem Qsf(h:PA X es t):PE X (.List es pos) (QAj t):=by
 intro pins s σ H Q I hq;refine QxC (thn (h pos pins s σ H _ I hq) λus s1 ⟨xs,H1,I1,r,z,q⟩=>⟨by rw[<- r.length];exact z,?_⟩);have hf:H1 s1.heap.objs.size=none:=I1.hok.fresh (Ql _);refine⟨.ref s1.heap.objs.size,upd H1 s1.heap.objs.size (.lst xs),I1.laid (t':=s1.toks) (λb u e=>Qe _ e) (Ql _) ?_,rfl,q _ hf⟩;exact⟨z,us,0,r,QK _ rfl⟩
end
abbrev Sp:=List V->Hp->VK->XK->Prop
abbrev CXT:=List Env->Hp->Shared->XK->Value->Shared->Prop
structure Env0 (P:QP) (w:JH) (K:PySem.W.Frag) (mg:Str->Option Value) (base:Zl) (A:Js) (outer:List Env) (s:Shared) (H:Hp):Prop where
 frames:A.frames=some outer
 mod:Mod K mg base
 bs:∀b o,base.get? b=some o->s.heap.get? b=some o/\H b=none
 bsz:base.objs.size<=s.heap.objs.size
 funs:s.heap.FunFrames base outer
 frf:∀b∈frs outer,H b=none
 hok:HOk P w H s.heap
 bare:Qd2 s.gens
def CE(outer:List Env)(P:QP)(w:JH)(H:Hp)(s:Shared)(Q:VK)(u:Value)(s':Shared):Prop:=
 ∃v H',s'.os=s.os/\Qd2 s'.gens/\Un (frs outer) [] H H' s.heap s'.heap/\HOk P w H' s'.heap/\RelV v u/\Q v H'
def CR(CX:CXT)(outer:List Env)(P:QP)(w:JH)(H:Hp)(s:Shared)(Q:VK)(E:XK)(r:Result)(s':Shared):Prop:=
 match r with
 |.ok (.ret u)=>CE outer P w H s Q u s'
 |.ok _=>False
 |.error e=>CX outer H s E e s'
structure FnOk (P:QP) (w:JH) (K:PySem.W.Frag) (mg:Str->Option Value) (base:Zl) (CX:CXT) (k:Nat) (f:Addr) (fd:QL) (ps:List Str) (sp:Sp):Prop where
 len:∀vs H Q E,sp vs H Q E->vs.length=ps.length
 run:∀(A:Js)(outer:List Env)(s:Shared)(H:Hp)(args:Args)(us:List Value)(vs:List V)(Q:VK)(E:XK),Room k A->Env0 P w K mg base A outer s H->Qd1 s fd args (ps.zip us)->Vals vs us->sp vs H Q E ->
  codeAny (model P w) A (.call (.ref f) args) (CR CX outer P w H s Q E) s
theorem FnOk.imp{P:QP}{w:JH}{K:PySem.W.Frag}{mg:Str->Option Value}{base:Zl}{CX:CXT}{k:Nat}{f:Addr}{fd:QL}{ps:List Str}{sp sp':Sp}(F:FnOk P w K mg base CX k f fd ps sp)
  (h:∀vs H Q E,sp' vs H Q E->sp vs H Q E):FnOk P w K mg base CX k f fd ps sp':=
 ⟨λvs H Q E q=>F.len vs H Q E (h _ _ _ _ q),λA outer s H args us vs Q E hr he hb hv hs=>F.run A outer s H args us vs Q E hr he hb hv (h _ _ _ _ hs)⟩
section
variable{X:Cx}{pins:List (Addr×Obj)}{σ:St}{H:Hp}{s s':Shared}
theorem Inv.env0(I:Inv X pins σ H s):Env0 X.prog X.w X.K X.mg X.base X.A X.stack s H:=
 ⟨I.ok.frames,I.ok.mod,I.bs,QQ I.ok.bsz I.sz,I.stack,I.stkFree,I.hok,I.bare⟩
theorem Inv.after{Q:VK}{u:Value}(I:Inv X pins σ H s)(h:CE X.stack X.prog X.w H s Q u s'):EP X pins σ Q u s':=by
 obtain⟨v,H',os,bare,un,hok,r,q⟩:=h;obtain⟨hh,g,d,t,os'⟩:=s';obtain rfl:os'=s.os:=os;exact⟨v,H',I.call (h':=hh) (g':=g) (d':=d) (t':=t) (ch:=[]) un hok bare (λb z=>absurd z (by simp)),r,q⟩
end
def QsU(sp:Sp)(dvs:List V)(E:XK)(t:TA):TE:=λσ H Q=>t σ H λvs H1=>sp (vs++dvs) H1 Q E
def Binds(K:PySem.W.Frag)(fd:QL)(ps:List Str)(ds:List Value):Prop:=
 ∀(s:Shared)(us:List Value),K.In s.heap->(us++ds).length=ps.length->Qd1 s fd ⟨us,[]⟩ (ps.zip (us++ds))
theorem Binds.all{K:PySem.W.Frag}{fd:QL}{ps:List Str}(h:∀us:List Value,us.length=ps.length->bindArgs fd ⟨us,[]⟩=pure (ps.zip us)):Binds K fd ps []:=λs us _ hl=>by
 rw[Je] at hl ⊢;exact .of_eq (h us hl)
def Qc7(CX:CXT)(X:Cx)(E:XK):Prop:=∀(pins:List (Addr×Obj))(σ:St)(H:Hp)(s:Shared)(e:Value)(s':Shared),Inv X pins σ H s->CX X.stack H s E e s'->X.xe e s'
section
variable{X:Cx}{CX:CXT}{k:Nat}{f C:Addr}{fd:QL}{ps:List Str}{sp:Sp}{dvs:List V}{ds:List Value}{E:XK}{x m:Str}{p pos apos:Pos}{e o:Q5}{es:List Q5}{ta:TE}{t:TA}
theorem QvA{pins:List (Addr×Obj)}{σ:St}{H:Hp}{s:Shared}{Q:VK}{us:List Value}{vs:List V}(F:FnOk X.prog X.w X.K X.mg X.base CX k f fd ps sp)(hr:Room k X.A)(hb:Binds X.K fd ps ds)(hd:Vals dvs ds)(hx:Qc7 CX X E)
  (I:Inv X pins σ H s)(r:Vals vs us)(h:sp (vs++dvs) H Q E):wpAny (model X.prog X.w) X.A (call (.ref f) us) (EP X pins σ Q) X.xe s:=by
 have r2:Vals (vs++dvs) (us++ds):=r.append hd;have hl:(us++ds).length=ps.length:=by rw[<- r2.length];exact F.len _ _ _ _ h
 refine Qd9 (Qca (F.run X.A X.stack s H ⟨us,[]⟩ (us++ds) (vs++dvs) Q E hr I.env0 (hb s us I.kIn hl) r2 h) λr s' hq=>?_);cases r with
 |error e=>exact hx pins σ H s e s' I hq
 |ok fl=>
  cases fl with
  |ret u=>exact I.after hq
  |next=>exact Jz hq
  |brk=>exact Jz hq
  |cont=>exact Jz hq
theorem QeN(F:FnOk X.prog X.w X.K X.mg X.base CX k f fd ps sp)(hr:Room k X.A)(hg:Gl X x)(hm:X.mg x=some (.ref f))(hk:PySem.W.keepIn X.K (.ref f)=true)(hb:Binds X.K fd ps ds)(hd:Vals dvs ds)(hx:Qc7 CX X E)
  (ha:PA X (e::es) t)(hdb:(x == ("__debug__" : Str))=false:=by decide)(he:starEach (e::es) X.env=(false,eval e X.env)::starEach es X.env:=by rfl)(hpl:(backTo pos (starEach es X.env)).any (·.1)=false:=by rfl) :
  PE X (.Call (.Name x p) (e::es) [] pos) (QsU sp dvs E t):=by
 intro pins s σ H Q I h;refine YQ (Qdz I hg hm ?_ hdb);refine PySem.W.callWith_K (h₀:=X.base) I.ok.mod.kin hk (thn (ha pos pins s σ H _ I h) λus s1 ⟨vs,H1,I1,r,q⟩=>⟨I1.kIn,?_⟩) he hpl;exact QvA F hr hb hd hx I1 r q
end
section
variable{X:Cx}{CX:CXT}{k:Nat}{f C:Addr}{fd:QL}{ps ks:List Str}{sp:Sp}{E:XK}{x m:Str}{p pos apos kpos:Pos}{e o:Q5}{es:List Q5}{kws:List QcR}{te ta:TE}{t tk:TA}{nm:Option Str}
variable{g:List Value->List Value->List Value}{gV:List V->List V->List V}
end
structure Jx (N P:List Str) (sc:Qbk):Prop where
 kind:sc.kind=.function
 co:sc.isCoroutine=false
 gen:sc.isGenerator=false
 nd:N.Nodup
 pre:N.take P.length=P
 par:∀x∈P,sc.names.lookup x=some .local∨sc.names.lookup x=some .cell
 nofree:∀y∈sc.names,y.2≠.free
theorem Qib{kindOf:Str->Option Qbb}{x:Str}:∀{binds:List (Str×Value)}{m:Str->Option Value},(∀v,(x,v)∉binds)->bindL kindOf binds m x=m x
 |[],_,_=>rfl
 |(n,v)::r,m,h=>by
  unfold bindL;rw[Qib λw hw=>h w (Jw _ hw)];split
  ·have:x≠n:=by rintro rfl;exact h v Zt
   simp[this]
  ·rfl
theorem Qid{kindOf:Str->Option Qbb}{x:Str}:∀{binds:List (Str×Value)}{m:Str->Option Value},(∀v,(x,v)∉binds)->bindC kindOf binds m x=m x
 |[],_,_=>rfl
 |(n,v)::r,m,h=>by
  unfold bindC;rw[Qid λw hw=>h w (Jw _ hw)];split
  ·rfl
  ·have:x≠n:=by rintro rfl;exact h v Zt
   simp[this]
theorem Qic{kindOf:Str->Option Qbb}{x:Str}{v:Value}:∀{P:List Str}{vs:List Value}{i:Nat}{m:Str->Option Value},P.Nodup->P[i]? = some x->vs[i]? = some v->kindOf x=some .local ->
  bindL kindOf (P.zip vs) m x=some v
 |[],_,_,_,_,h,_,_=>by simp at h
 |_::_,[],_,_,_,_,h,_=>by simp at h
 |p::P,w::vs,0,m,nd,h1,h2,hk=>by
  simp at h1 h2;subst h1;subst h2;show bindL kindOf ((p,w)::P.zip vs) m p=_;unfold bindL;rw[Qib λv hv=>(QcF.mp nd).1 (QcE hv).1,if_pos hk];simp
 |p::P,w::vs,i+1,m,nd,h1,h2,hk=>by
  show bindL kindOf ((p,w)::P.zip vs) m x=_;unfold bindL;exact Qic (i:=i) (QcF.mp nd).2 (by simpa using h1) (by simpa using h2) hk
theorem Qie{kindOf:Str->Option Qbb}{x:Str}{v:Value}:∀{P:List Str}{vs:List Value}{i:Nat}{m:Str->Option Value},P.Nodup->P[i]? = some x->vs[i]? = some v->kindOf x≠some .local ->
  bindC kindOf (P.zip vs) m x=some v
 |[],_,_,_,_,h,_,_=>by simp at h
 |_::_,[],_,_,_,_,h,_=>by simp at h
 |p::P,w::vs,0,m,nd,h1,h2,hk=>by
  simp at h1 h2;subst h1;subst h2;show bindC kindOf ((p,w)::P.zip vs) m p=_;unfold bindC;rw[Qid λv hv=>(QcF.mp nd).1 (QcE hv).1,if_neg hk];simp
 |p::P,w::vs,i+1,m,nd,h1,h2,hk=>by
  show bindC kindOf ((p,w)::P.zip vs) m x=_;unfold bindC;exact Qie (i:=i) (QcF.mp nd).2 (by simpa using h1) (by simpa using h2) hk
def start(N:List Str)(vs:List V):St:=vs.map some++Jh (N.length - vs.length) none
def cxOf(CX:CXT)(P:QP)(w:JH)(K:PySem.W.Frag)(mg:Str->Option Value)(base:Zl)(N:List Str)(qual:Str)(scope:Qbk)(f:Addr)(cd:Value)(A:Js)(outer:List Env)(s:Shared)(H:Hp)(E:XK):Cx where
 prog:=P
 w:=w
 K:=K
 mg:=mg
 base:=base
 A:=A.deeper (envOfC qual scope s.heap.objs.size f cd)
 N:=N
 s₀:=s
 H₀:=H
 env:=envOfC qual scope s.heap.objs.size f cd
 outer:=outer
 stack:=envOfC qual scope s.heap.objs.size f cd::outer
 ex:=[]
 calm:=true
 fn:=λ_=>true
 pn:=[]
 xe:=λe s'=>wpAny (model P w) (A.deeper (envOfC qual scope s.heap.objs.size f cd)) (leaving (envOfC qual scope s.heap.objs.size f cd) e) (λ_ s''=>CX outer H s E e s'') (λe' s''=>CX outer H s E e' s'') s'
theorem Qkm{sc:Qbk}{n:Nat}{x:Str}(h:sc.names.lookup x=some .cell):∃c,(cellsFrom n sc.names []).lookup x=some c:=by
 have q:=PySem.W.cellsFrom_some sc.names n [] (.inl h);exact Qhk.mp q
theorem QhW{CX:CXT}{P:QP}{w:JH}{K:PySem.W.Frag}{mg:Str->Option Value}{base:Zl}{N ps:List Str}{qual:Str}{scope:Qbk}{f:Addr}{cd:Value}{A:Js}{outer:List Env}{s s1:Shared}{H:Hp}{E:XK}{us:List Value}{vs:List V}
  (S:Jx N ps scope)(hd:A.handled=none)(e0:Env0 P w K mg base A outer s H)(hl:vs.length=ps.length)(r:Vals vs us)
  (x:InCallC s s.heap.objs.size (bindL (envOfC qual scope s.heap.objs.size f cd).kindOf (ps.zip us) λ_=>none) (cellsFrom (s.heap.objs.size+1) scope.names []) (bindC (envOfC qual scope s.heap.objs.size f cd).kindOf (ps.zip us) λ_=>none) s1) :
  Inv (cxOf CX P w K mg base N qual scope f cd A outer s H E) [] (start N vs) H s1:=by
 have hpl:ps.length<=N.length:=by have:=congrArg List.length S.pre;rw[Zi] at this;omega
 obtain⟨h1,tk,rfl,hk⟩:=x.done;have noA:∀b:Addr,b∉(cxOf CX P w K mg base N qual scope f cd A outer s H E).ex:=λb z=>absurd (show b∈([]:List Addr) from z) (by simp)
 refine⟨⟨e0.mod,S.kind,rfl,rfl,Ql _,λy z c h1 h2=>?_,λy hy=>?_,λy c _ h=>?_,λ_=>hd,Around.frames_deeper e0.frames,.inr ⟨rfl,rfl⟩,λb z=>absurd z (noA b),e0.bs,e0.bsz,λb _ _=>noA b,λb z=>absurd z (noA b),e0.funs,e0.frf⟩,
  rfl,e0.bare,Un.kept hk,⟨_,x.toInCall.ns,λi y v h1 h2 h3=>?_⟩,λy c h=>⟨_,x.cell y c h⟩,e0.hok.fresh (Ql _),λy c h=>?_,λp hp=>absurd (show p∈([]:List (Addr×Obj)) from hp) (by simp),e0.hok.kept hk,?_⟩
 ·exact name_of_addr x.apart (PySem.mem_of_lookup h1) (PySem.mem_of_lookup h2)
 ·have hy:scope.names.lookup y=some .cell∨scope.names.lookup y=some .free:=hy;rcases hy with hy | hy
  ·exact Qkm hy
  ·exact absurd rfl (S.nofree _ (PySem.mem_of_lookup hy))
 ·exact YI (x.above y c (PySem.mem_of_lookup h))
 ·have hi:i<vs.length:=by
   unfold start at h2;by_cases hi:i<vs.length
   ·exact hi
   ·rw[Ju (by simpa using hi)] at h2;rw[Yh] at h2;split at h2<;>cases h2
  have ha:vs[i]? = some v:=by
   unfold start at h2;rw[J5 (by simpa using hi),QD] at h2;cases e:vs[i]? with
   |none=>rw[e] at h2;cases h2
   |some a=>rw[e] at h2;cases h2;rfl
  obtain⟨u,hu,rv⟩:=r.get ha;have hp:ps[i]? = some y:=by
   rw[<- S.pre,List.getElem?_take_of_lt (by omega)];exact h1
  have ndP:ps.Nodup:=by rw[<- S.pre];exact S.nd.sublist (Qfd _ _)
  refine⟨u,rv,?_⟩;rcases S.par y (QV hp) with k | k
  ·exact .inl ⟨k,Qic ndP hp hu k⟩
  ·obtain⟨c,e⟩:=Qkm (n:=s.heap.objs.size+1) k;refine .inr ⟨.inl k,c,e,?_⟩;have q:=x.cell y c e;rw[Qie ndP hp hu (by show scope.names.lookup y≠_;rw[k];decide)] at q;exact q
 ·exact e0.hok.fresh (YI (x.above y c (PySem.mem_of_lookup h)))
 ·unfold start;show _=N.length;rw[Qq,Qh,QaV];omega
theorem QwY{CX:CXT}{P:QP}{w:JH}{K:PySem.W.Frag}{mg:Str->Option Value}{base:Zl}{k:Nat}{f:Addr}{name qual:Str}{params:Arguments}{body:List Z6}{scope:Qbk}{dV kV doc pm cdv ct oc:Value}{an od:Option Addr}
  {osl:Array (Option Value)} {N ps:List Str} {sp:Sp} (lk:K.lookup f=some ⟨oc,od,.func (PySem.W.fnOf name qual params body scope dV kV doc pm an cdv ct),osl⟩) (hcd:PySem.W.codeIn K cdv qual=true) (S:Jx N ps scope)
  (len:∀vs H Q E,sp vs H Q E->vs.length=ps.length)
  (hbody:∀(A:Js)(outer:List Env)(s:Shared)(H:Hp)(vs:List V)(Q:VK)(E:XK),Room k (A.deeper (envOfC qual scope s.heap.objs.size f cdv))->sp vs H Q E ->
   ∃t,PSs (cxOf CX P w K mg base N qual scope f cdv A outer s H E) body t/\t { nx:=λ_ H'=>Q .non H',rt:=Q } (start N vs) H) :
  FnOk P w K mg base CX (k+1) f (PySem.W.fnOf name qual params body scope dV kV doc pm an cdv ct) ps sp:=by
 refine⟨len,λA outer s H args us vs Q E hr e0 hb r hsp=>?_⟩;have hl:=len _ _ _ _ hsp;have KX:K.In s.heap:=e0.mod.kin.keeps λb o e=>(e0.bs b o e).1
 have lim:s.heap.NoLimit:=e0.mod.nolimit.keeps λb o e=>(e0.bs b o e).1
 have hkind:∀y∈ps.zip us,scope.names.lookup y.1=some .local∨(scope.names.lookup y.1=some .cell/\((cellsFrom (s.heap.objs.size+1) scope.names []).lookup y.1).isSome=true):=λ⟨n,v⟩ hy=>by
  rcases S.par n (QcE hy).1 with q | q
  ·exact .inl q
  ·exact .inr ⟨q,PySem.W.cellsFrom_some _ _ _ (.inl q)⟩
 refine QsF hr.depth (KX _ _ lk) rfl S.co S.gen rfl (PySem.W.codeRec_of KX hcd) (hb _ _ _ _ ?_);refine Qlr S.kind hkind λenv he s1 x=>?_
 subst he;refine⟨lim.keeps x.toInCall.keep,codeAny_func ?_⟩;obtain⟨t,ht,hq⟩:=hbody A outer s H vs Q E (hr.deeper _) hsp;have I:Inv (cxOf CX P w K mg base N qual scope f cdv A outer s H E) [] (start N vs) H s1:=QhW S hr.hd e0 hl r x;refine J6 (ht [] s1 (start N vs) H _ I hq) (λfl s' hs=>?_) λe s' hs=>hs
 have fin:∀{σ':St}{H':Hp}{v:V}{u:Value},Inv (cxOf CX P w K mg base N qual scope f cdv A outer s H E) [] σ' H' s'->RelV v u->Q v H'->CE outer P w H s Q u s':=
  λ{σ' H' v u} J rv q=>⟨v,H',J.os,J.bare,J.base,J.hok,rv,q⟩
 cases fl with
 |ret u=>
  obtain⟨v,σ',H',J,rv,q⟩:=hs;exact fin J rv q
 |next=>
  obtain⟨σ',H',J,q⟩:=hs;exact fin (v:=V.non) (u:=Zs) J rfl q
 |brk=>
  obtain⟨_,_,_,q⟩:=hs;exact Jz q
 |cont=>
  obtain⟨_,_,_,q⟩:=hs;exact Jz q
section
variable{X:Cx}{x:Str}{p pos:Pos}{e:Q5}{es:List Q5}{t:TA}{id T:String}{r:List V->Hp->VK->Prop}
def tCB(r:List V->Hp->VK->Prop)(t:TA):TE:=λσ H Q=>t σ H λvs H1=>r vs H1 Q
theorem ZB(hc:CallR X (.builtin id) r)(hg:Gl X x)(hm:X.mg x=none)(hv:bootBuiltins x=some (.builtin id))(ha:PA X (e::es) t)(hn:x ≠ "__name__" := by decide)(hdb:(x == ("__debug__" : Str))=false:=by decide)
  (he:starEach (e::es) X.env=(false,eval e X.env)::starEach es X.env:=by rfl)(hpl:(backTo pos (starEach es X.env)).any (·.1)=false:=by rfl):PE X (.Call (.Name x p) (e::es) [] pos) (tCB r t):=by
 intro pins s σ H Q I h;refine YQ (Qcq I hg hm hv ?_ hn hdb);exact PyProof.Rows.callWith_builtin1 (thn (ha pos pins s σ H _ I h) λus s1 ⟨vs,H1,I1,r1,q1⟩=>hc pins s1 σ H1 vs us Q I1 r1 q1) he hpl
theorem QhK(hc:CallR X (.type T) r)(hg:Gl X x)(hm:X.mg x=none)(hv:bootBuiltins x=some (.type T))(ha:PA X (e::es) t)(hn:x ≠ "__name__" := by decide)(hdb:(x == ("__debug__" : Str))=false:=by decide)
  (he:starEach (e::es) X.env=(false,eval e X.env)::starEach es X.env:=by rfl)(hpl:(backTo pos (starEach es X.env)).any (·.1)=false:=by rfl):PE X (.Call (.Name x p) (e::es) [] pos) (tCB r t):=by
 intro pins s σ H Q I h;refine YQ (Qcq I hg hm hv ?_ hn hdb);exact JJ (thn (ha pos pins s σ H _ I h) λus s1 ⟨vs,H1,I1,r1,q1⟩=>hc pins s1 σ H1 vs us Q I1 r1 q1) he hpl
end
end L2
namespace HT
theorem Qpe(A:Js)(s:Shared)(a:Int)(t:Tok)(c:Int)(u:Tok)(prog:QP)(w:JH)(E:Value->Shared->Prop)(Q:Value->Shared->Prop)(h:Q (.bool (decide (a<c))) s) :
  wpAny (model prog w) A (richCompare .Lt (.int a t) (.int c u)) Q E s:=
 (PyProof.Rows.lt_int h:wpAny (model prog w) A (compareOp .Lt (.int a t) (.int c u)) Q E s)
section
open PySem.SeqAt
open PySem.AutoSeq1 (wpAny_loadPart')
open PySem.MeetsSeq PySem.MeetsSeq2 PySem.MeetsSeq3
end
section
variable{prog:QP}{w:JH}{A:Js}{E:Value->Shared->Prop}{s:Shared}
theorem QuF{t b:Addr}{vs ws:List Value}{Q:Value->Shared->Prop}(ht:IsTup s.heap t vs.toArray)(hb:IsTup s.heap b ws.toArray)(hv:vs≠[])
  (h1:ws=[]->Q (.ref t) s)(h2:ws≠[]->Q (.ref s.heap.objs.size) { s with heap:=s.heap.push { cls:=.type "tuple",data:=.seq (vs++ws).toArray } })
  (hsz:vs.length+ws.length<=sizeLine):wpAny (model prog w) A (binaryOp .Add (.ref t) (.ref b)) Q E s:=by
 obtain⟨⟨cls,dd,data,sl⟩,ho,hc,n,hd⟩:=id ht;obtain⟨⟨cls2,dd2,data2,sl2⟩,ho2,hc2,n2,hd2⟩:=id hb;simp only at hc hd hc2 hd2;subst hc hd hc2 hd2;have e:vs.toArray++ws.toArray=(vs++ws).toArray:=by simp
 by_cases hw:ws=[]
 ·exact QsE ⟨_,ho,rfl⟩ ⟨_,ho2,rfl⟩ Qiq QoG PySem.F.slot_tuple_add PySem.F.entry_tuple_add (PySem.F.args_tuple_add_2 _ _)
   (tuple_addW1 t b vs.toArray ws.toArray n n2 dd dd2 sl sl2 (by simpa using hv) (by simp[hw])) ⟨ho,ho2,h1 hw⟩
 ·refine QsE ⟨_,ho,rfl⟩ ⟨_,ho2,rfl⟩ Qiq QoG PySem.F.slot_tuple_add PySem.F.entry_tuple_add (PySem.F.args_tuple_add_2 _ _)
   (tuple_addW2 t b vs.toArray ws.toArray n n2 dd dd2 sl sl2 (by simpa using hv) (by simpa using hw) (by rw[Qp,Qp];exact hsz)) ⟨ho,ho2,?_⟩
  rw[e];exact h2 hw
def sIx(n d:Nat):Option Int->Nat
 |none=>d
 |some v=>if v<0 then(v+(n:Int)).toNat else min v.toNat n
theorem Qgq(n d:Nat):sIx n d none=d:=rfl
theorem Qml(n d k:Nat):sIx n d (some (k:Int))=min k n:=by
 show(if(k:Int)<0 then((k:Int)+(n:Int)).toNat else min (k:Int).toNat n)=min k n;rw[if_neg (by omega),QN]
theorem Qvz(n d:Nat)(hd:d<=n)(o:Option Int):sIx n d o<=n:=by
 cases o with
 |none=>exact hd
 |some v=>
  show(if v<0 then(v+(n:Int)).toNat else min v.toNat n)<=n;by_cases hv:v<0
  ·rw[if_pos hv];omega
  ·rw[if_neg hv];exact QuQ _ _
theorem Qn6(v:Int)(n d:Nat):(if v<0 then max (v+(n:Int)) 0 else min v (n:Int))=((sIx n d (some v):Nat):Int):=by
 show(if v<0 then max (v+(n:Int)) 0 else min v (n:Int))=(((if v<0 then(v+(n:Int)).toNat else min v.toNat n):Nat):Int);by_cases hv:v<0
 ·simp only[if_pos hv];omega
 ·simp only[if_neg hv];omega
theorem Qlq(lo hi:Option Int)(n:Nat):Zu lo hi 1 (n:Int)=(((sIx n 0 lo:Nat):Int),((sIx n n hi:Nat):Int)):=by
 have h1:¬((1:Int)<0):=by omega
 unfold Zu;simp only[h1,if_false];refine Prod.ext ?_ ?_
 ·cases lo with
  |none=>rfl
  |some v=>exact Qn6 v n 0
 ·cases hi with
  |none=>rfl
  |some v=>exact Qn6 v n n
theorem QkT(i j:Nat):JU (i:Int) (j:Int) 1=j - i:=by
 unfold JU;have h1:(1:Int) > 0:=by omega
 simp only[h1,if_true,Int.ediv_one];split<;>omega
theorem Qfy{v:Value}{o:Option Int}{Q:Option Int->Shared->Prop}(p:Qil v o)(h:Q o s):wpAny (model prog w) A (Qyq v) Q E s:=by
 cases p with
 |none=>exact Qfc h
 |int i t=>exact slicePart_int h
theorem QbN{sl:Addr}{vl vu:Value}{lo hi:Option Int}{n:Nat}{Q:Int×Int×Nat->Shared->Prop}(hs:s.heap.IsSliceOf sl vl vu .none)(pl:Qil vl lo)(pu:Qil vu hi)
  (h:Q (((sIx n 0 lo:Nat):Int),1,sIx n n hi - sIx n 0 lo) s):wpAny (model prog w) A (Yp (.ref sl) (pure (n:Int))) Q E s:=by
 obtain⟨os,hos,hcs,hds⟩:=id hs;unfold Yp Qd0;refine Qa (Qa (JZ hos hds (x:=vl) rfl (Qa (JZ hos hds (x:=vu) rfl (Qa (JZ hos hds (x:=.none) rfl (Qk ?_)))))));refine Qa (Qfc ?_);show wpAny _ _ (if((1:Int) == 0)=true then _ else _) _ _ s;rw[if_neg (by decide)];refine Qa (Qfy pl (Qa (Qfy pu (Qa (Qk ?_)))));show wpAny _ _ (match Zu lo hi 1 (n:Int) with | (lo,hi)=>pure (lo,(1:Int),JU lo hi 1)) _ _ s;rw[Qlq lo hi n];show wpAny _ _ (pure (((sIx n 0 lo:Nat):Int),(1:Int),JU ((sIx n 0 lo:Nat):Int) ((sIx n n hi:Nat):Int) 1)) _ _ s;rw[QkT];exact Qk h
theorem Qpr(xs:Array Value)(i k:Nat):((JX k).filterMap λ(m:Nat)=>xs[((i:Int)+(m:Int)*1).toNat]?).toArray=((xs.toList.drop i).take k).toArray:=by
 have e:(λ(m:Nat)=>xs[((i:Int)+(m:Int)*1).toNat]?)=λm=>xs[i+m]? := by
  funext m
  have:((i:Int)+(m:Int)*1).toNat=i+m:=by omega
  rw[this]
 rw[e];have:=pick_run xs i k;rw[Qau] at this;have e2:((λx=>xs[x]?)∘λx=>i+x)=λm=>xs[i+m]? := rfl
 rw[e2] at this;rw[this]
theorem QdG{t sl:Addr}{items:Array Value}{vl vu:Value}{lo hi:Option Int}{Q:Value->Shared->Prop}(ht:IsTup s.heap t items)(hs:s.heap.IsSliceOf sl vl vu .none)(pl:Qil vl lo)(pu:Qil vu hi)
  (hw:¬(sIx items.size 0 lo=0/\sIx items.size items.size hi=items.size))
  (h:Q (.ref s.heap.objs.size) { s with heap:=s.heap.push { cls:=.type "tuple",data:=.seq ((items.toList.drop (sIx items.size 0 lo)).take (sIx items.size items.size hi - sIx items.size 0 lo)).toArray } })
  (hsz:items.size<=sizeLine):wpAny (model prog w) A (getItem (.ref t) (.ref sl)) Q E s:=by
 have htake:sizeOk (.seq ((items.toList.drop (sIx items.size 0 lo)).take (sIx items.size items.size hi - sIx items.size 0 lo)).toArray):=by
  show((items.toList.drop (sIx items.size 0 lo)).take (sIx items.size items.size hi - sIx items.size 0 lo)).toArray.size<=sizeLine;rw[Qp,Zi,Qad,Qo];omega
 have hj:sIx items.size items.size hi<=items.size:=Qvz _ _ (Ql _) hi;obtain⟨os,hos,hcs,hds⟩:=id hs;have hTs:s.TypeIs (.ref sl) "slice" := ⟨os,hos,hcs⟩;unfold getItem
 try with_reducible refine Z2 ?_
 first | refine Qa (Qk ?_) | skip
 refine Qa (Qhc ht.typeIs (by decide) ?_);refine Qa (Zz (name:=QaW "__getitem__") ht.typeIs Jg
  (ZV Jg ht.typeIs Qff ?_ (Qf5 _ _)))
 show wpAny _ _ (QaP (.ref t) >>= _) _ _ s;refine Qa (QoF ht ?_);refine Qa (Qih hTs ?_);rw[if_pos (by decide)];refine Qa (QbN hs pl pu ?_);have hno:¬((((sIx items.size 0 lo:Nat):Int) == 0&&(1:Int) == 1&&(sIx items.size items.size hi - sIx items.size 0 lo) == items.size)=true):=by
  intro q;rw[Jr,Jr] at q;have q1:((sIx items.size 0 lo:Nat):Int)=0:=eq_of_beq q.1.1;have q2:sIx items.size items.size hi - sIx items.size 0 lo=items.size:=eq_of_beq q.2;exact hw ⟨by omega,by omega⟩
 show wpAny _ _ (if(((sIx items.size 0 lo:Nat):Int) == 0&&(1:Int) == 1&&(sIx items.size items.size hi - sIx items.size 0 lo) == items.size)=true then _ else _) _ _ s;rw[if_neg hno,Qpr]
 first
  |exact Qa (m:=JY _) (JS (Qk ⟨_,rfl,Qk h⟩) htake)
  |exact Qa (m:=JY _) (JS (Qa (Qk (Qk ⟨_,rfl,Qk h⟩))) htake)
  |exact Qa (Qa (m:=JY _) (JS (Qk (Qk ⟨_,rfl,Qk h⟩)) htake))
  |exact Qa (Qa (m:=JY _) (JS (Qk ⟨_,rfl,Qk h⟩) htake))
end
end HT
namespace L2
abbrev TO:=St->Hp->(Option Int->Hp->Prop)->Prop
def PO(X:Cx)(e:Option Q5)(t:TO):Prop:=
 ∀(pins:List (Addr×Obj))(s:Shared)(σ:St)(H:Hp)(Q:Option Int->Hp->Prop),Inv X pins σ H s->t σ H Q ->
  wpAny (model X.prog X.w) X.A (evalPart e X.env) (λu s'=>∃o H',Inv X pins σ H' s'/\Qil u o/\Q o H') X.xe s
def QsS:TO:=λ_ H Q=>Q none H
def Qvo(t:TE):TO:=λσ H Q=>t σ H λx H1=>∃i,x=.int i/\Q (some i) H1
theorem intsAre_of{ns:List Int}:∀{us:List Value},Vals (ns.map V.int) us->IntsAre us ns:=by
 induction ns with
 |nil=>intro us r;rw[Qyi] at r;cases r;exact .nil
 |cons n ns ih=>
  intro us r;rw[JC] at r;cases r with
  |cons r1 r2=>
   obtain⟨t,e⟩:=r1;subst e;exact .cons n t (ih r2)
section
variable{X:Cx}{e:Q5}{te:TE}{lo hi:Option Q5}{tl th:TO}{pos p2:Pos}
theorem Qtn:PO X none QsS:=by
 intro pins s σ H Q I h;rw[QoJ];exact Qk ⟨none,H,I,.none,h⟩
theorem QmF(h:PE X e te):PO X (some e) (Qvo te):=by
 intro pins s σ H Q I hw;rw[evalPart_some];refine thn (h pins s σ H _ I hw) λu s1 ⟨x,H1,I1,r1,q1⟩=>?_
 obtain⟨i,rfl,q⟩:=q1;obtain⟨t,rfl⟩:=r1;exact⟨some i,H1,I1,.int i t,q⟩
def SlR(X:Cx)(r:V->Option Int->Option Int->Hp->VK->Prop):Prop:=
 ∀(pins:List (Addr×Obj))(s:Shared)(σ:St)(H:Hp)(x:V)(v vl vu:Value)(lo hi:Option Int)(sl:Addr)(Q:VK),Inv X pins σ H s->RelV x v->s.heap.IsSliceOf sl vl vu .none->Qil vl lo->Qil vu hi->r x lo hi H Q ->
  ∃T id,typeLookup (.type T) "__getitem__" = pure (some (.builtin id))/\s.TypeIs v T/\wpAny (model X.prog X.w) X.A (getItem v (.ref sl)) (EP X pins σ Q) X.xe s
def tSl(r:V->Option Int->Option Int->Hp->VK->Prop)(te:TE)(tl th:TO):TE:=λσ H Q=>te σ H λx H1=>tl σ H1 λl H2=>th σ H2 λu H3=>r x l u H3 Q
theorem Qpu{r:V->Option Int->Option Int->Hp->VK->Prop}(hr:SlR X r)(he:PE X e te)(hl:PO X lo tl)(hu:PO X hi th):PE X (.Subscript e (.Slice lo hi none p2) pos) (tSl r te tl th):=by
 intro pins s σ H Q I h;refine Qx7 (thn (he pins s σ H _ I h) λv s1 ⟨x,H1,I1,r1,q1⟩=>?_);refine wpAny_Slice (thn (hl pins s1 σ H1 _ I1 q1) λvl s2 ⟨l,H2,I2,pl,q2⟩=>thn (hu pins s2 σ H2 _ I2 q2) λvu s3 ⟨u,H3,I3,pu,q3⟩=>?_);rw[QoJ];refine Qk ?_
 have I4:Inv X pins σ H3 { s3 with heap:=s3.heap.push { cls:=.type "slice",data:=.fields #[vl,vu,.none] } }:=I3.kept (t':=s3.toks) λb ob q=>Qe _ q
 obtain⟨T,id,hT,ht,hg⟩:=hr pins { s3 with heap:=s3.heap.push { cls:=.type "slice",data:=.fields #[vl,vu,.none] } } σ H3 x v vl vu l u s3.heap.objs.size Q I4 r1 (Qga ..) pl pu q3;show wpAny (model X.prog X.w) X.A (subscriptTail e (.Slice lo hi none p2) v (.ref s3.heap.objs.size)) (EP X pins σ Q) X.xe { s3 with heap:=s3.heap.push { cls:=.type "slice",data:=.fields #[vl,vu,.none] } };exact tail_any (ops:=[.ref s3.heap.objs.size,v]) ht hT hg (by with_unfolding_all rfl)
def Qki(xs:List V)(lo hi:Option Int):List V:=(xs.drop (HT.sIx xs.length 0 lo)).take (HT.sIx xs.length xs.length hi - HT.sIx xs.length 0 lo)
theorem Qe4(xs:List V)(lo hi:Option Int):(Qki xs lo hi).length<=xs.length:=by
 unfold Qki;rw[Zi,Qad];omega
def QAo(K:PySem.W.Frag):V->Option Int->Option Int->Hp->VK->Prop:=λx lo hi H Q=>∃a xs,x=.ref a/\SqT K H a xs /\
 ¬(HT.sIx xs.length 0 lo=0/\HT.sIx xs.length xs.length hi=xs.length)/\∀p,H p=none->Q (.ref p) (upd H p (.tup (Qki xs lo hi)))
theorem Qvv:SlR X (QAo X.K):=by
 intro pins s σ H x v vl vu lo hi sl Q I rx hs pl pu h;obtain⟨a,xs,rfl,hx,hw,q⟩:=h;cases rx;obtain⟨its,r,ht,hz⟩:=I.tuple hx;have hlen:its.toArray.size=xs.length:=by rw[Qp];exact r.length.symm
 refine⟨"tuple",_,Jg.lookup,ht.typeIs,?_⟩;refine HT.QdG ht hs pl pu (by rw[hlen];exact hw) ?_ (by rw[hlen];exact hz)
 rw[hlen];refine⟨.ref s.heap.objs.size,_,I.laid (t':=s.toks) (o:=.tup (Qki xs lo hi)) (λb ob q=>Qe _ q) (Ql _) ?_,rfl,q _ (I.hok.fresh (Ql _))⟩;exact⟨QQ (Qe4 xs lo hi) hz,_,(r.drop (HT.sIx xs.length 0 lo)).take (HT.sIx xs.length xs.length hi - HT.sIx xs.length 0 lo),QkC _ _⟩
def QyF(K:PySem.W.Frag):R2:=λx y H Q=>∃a b xs ys,x=.ref a/\y=.ref b/\SqT K H a xs/\SqT K H b ys/\xs≠[]/\xs.length+ys.length<=sizeLine /\
 (ys=[]->Q (.ref a) H)/\(ys≠[]->∀p,H p=none->Q (.ref p) (upd H p (.tup (xs++ys))))
theorem Vals.nil_iff{xs:List V}{us:List Value}(r:Vals xs us):us=[]↔xs=[]:=by
 cases r with
 |nil=>simp
 |cons _ _=>simp
theorem QtX:OpR X (binaryOp .Add) (QyF X.K):=by
 intro pins s σ H x y v u Q I rx ry h;obtain⟨a,b,xs,ys,rfl,rfl,ha,hb,hx,hz,q1,q2⟩:=h;cases rx;cases ry;obtain⟨its,r1,p1,_⟩:=I.tuple ha;obtain⟨its2,r2,p2,_⟩:=I.tuple hb;refine HT.QuF p1 p2 (λz=>hx (r1.nil_iff.mp z)) (λz=>⟨.ref a,H,I,rfl,q1 (r2.nil_iff.mp z)⟩) (λz=>?_) (by rw[<- r1.length,<- r2.length];exact hz);refine⟨.ref s.heap.objs.size,_,I.laid (t':=s.toks) (o:=.tup (xs++ys)) (λb ob q=>Qe _ q) (Ql _) ?_,rfl,q2 (λw=>z (r2.nil_iff.mpr w)) _ (I.hok.fresh (Ql _))⟩;exact⟨by rw[Qq];exact hz,_,r1.append r2,QkC _ _⟩
end
def ixN(n:Nat)(i:Int):Option Nat:=if 0<=i then(if i<n then some i.toNat else none) else if -(n:Int)<=i then some (i+n).toNat else none
def atI{α:Type}(xs:List α)(i:Int):Option α:=(ixN xs.length i).bind λj=>xs[j]?
theorem Qnw{n:Nat}{i:Int}{j:Nat}(h:ixN n i=some j):seqIndex? i n=some j/\j<n /\ -(n:Int)<=i/\i<n:=by
 unfold ixN at h;by_cases h0:0<=i
 ·rw[if_pos h0] at h;by_cases h1:i<n
  ·rw[if_pos h1] at h;have e:i.toNat=j:=Qw h;exact⟨by rw[Qks h0 h1,e],by omega,by omega,h1⟩
  ·rw[if_neg h1] at h;cases h
 ·rw[if_neg h0] at h;by_cases h1 : -(n:Int)<=i
  ·rw[if_pos h1] at h;have e:(i+n).toNat=j:=Qw h;exact⟨by rw[Qii (by omega) h1,e],by omega,h1,by omega⟩
  ·rw[if_neg h1] at h;cases h
theorem Qji{α:Type}{xs:List α}{i:Int}{v:α}(h:atI xs i=some v):∃j,seqIndex? i xs.length=some j/\xs[j]? = some v/\j<xs.length /\ -(xs.length:Int)<=i/\i<xs.length:=by
 unfold atI at h;cases e:ixN xs.length i with
 |none=>rw[e] at h;cases h
 |some j=>
  rw[e] at h;obtain⟨h1,h2,h3,h4⟩:=Qnw e;exact⟨j,h1,h,h2,h3,h4⟩
theorem JM{α:Type}{xs:List α}{j:Nat}{v:α}(h:xs[j]? = some v):atI xs (j:Int)=some v:=by
 have hj:j<xs.length:=(Qx.mp h).1;have e:ixN xs.length (j:Int)=some j:=by
  unfold ixN;rw[if_pos (by omega),if_pos (by omega)];simp
 unfold atI;rw[e];exact h
theorem QrK{α:Type}(xs:List α)(v:α):atI (xs++[v]) (-1)=some v:=by
 have hl:(xs++[v]).length=xs.length+1:=by simp
 have e:ixN (xs++[v]).length (-1)=some xs.length:=by
  unfold ixN;rw[hl,if_neg (by decide),if_pos (by omega)]
  congr 1
  omega
 unfold atI;rw[e];show(xs++[v])[xs.length]? = some v;simp
def Qg2(b:Q5):Prop:=∀o i,subscripted b false o i=operate [o,i] (getItem o i)
def IxR(X:Cx)(r:R2):Prop:=
 ∀(value slice:Q5)(pins:List (Addr×Obj))(s:Shared)(σ:St)(H:Hp)(x y:V)(v u:Value)(Q:VK),Inv X pins σ H s->RelV x v->RelV y u->r x y H Q ->
  subscripted slice false v u=operate [v,u] (getItem v u)->wpAny (model X.prog X.w) X.A (subscriptTail value slice v u) (EP X pins σ Q) X.xe s
def MtR(X:Cx)(id:String)(r:V->List V->Hp->VK->Prop):Prop:=
 ∀(pins:List (Addr×Obj))(s:Shared)(σ:St)(H:Hp)(x:V)(xs:List V)(v:Value)(us:List Value)(Q:VK),Inv X pins σ H s->RelV x v->Vals xs us->r x xs H Q ->
  wpAny (model X.prog X.w) X.A (call (.builtin id) (v::us)) (EP X pins σ Q) X.xe s
section
variable{X:Cx}{a b:Q5}{ta tb:TE}{pos:Pos}
theorem QkU{r:R2}(hr:IxR X r)(ha:PE X a ta)(hb:PE X b tb)(hs:Qg2 b):PE X (.Subscript a b pos) (tOp r ta tb):=by
 intro pins s σ H Q I h;exact Qx7 (Qzp ha hb I h λv u s2 x y H2 I2 rx ry q=>hr a b pins s2 σ H2 x y v u Q I2 rx ry q (hs _ _))
def QxQ(K:PySem.W.Frag):R2:=λx y H Q=>∃p xs i v,x=.ref p/\y=.int i/\SqL K H p xs/\atI xs i=some v/\Q v H
def QzE(K:PySem.W.Frag):R2:=λx y H Q=>∃p xs i v,x=.ref p/\y=.int i/\SqT K H p xs/\atI xs i=some v/\Q v H
theorem QdD:IxR X (QxQ X.K):=by
 intro value slice pins s σ H x y v u Q I rx ry h hs;obtain⟨p,xs,i,z,rfl,rfl,hq,he,q⟩:=h;cases rx;obtain⟨t,rfl⟩:=ry;obtain⟨its,r,pl,hz⟩:=I.list hq;obtain⟨j,h1,h2,h3,h4,h5⟩:=Qji he;obtain⟨w,ew,rw'⟩:=r.get h2;have hl:=r.length;have hn:=QfR;have fin:EP X pins σ Q w s:=⟨z,H,I,rw',q⟩;by_cases h0:0<=i
 ·have hj:i.toNat=j:=by
   rw[Qks h0 h5] at h1;exact Qw h1
  exact item_listR pl.isList h0 (by omega) (by rw[hj];simpa using ew) fin hs
 ·have hj:(i+(its.toArray.size:Int)).toNat=j:=by
   rw[Qii (by omega) h4] at h1;rw[Qp,<- hl];exact Qw h1
  exact QrP (x:=w) pl.isList.typeIs Qx3.lookup
   (QrO (Q:=λr s'=>r=w/\EP X pins σ Q r s') pl.isList (by omega) (by rw[Qp]<;>omega) (by omega) (by rw[hj];simpa using ew) ⟨rfl,fin⟩) hs
theorem QwP:IxR X (QzE X.K):=by
 intro value slice pins s σ H x y v u Q I rx ry h hs;obtain⟨p,xs,i,z,rfl,rfl,hq,he,q⟩:=h;cases rx;obtain⟨t,rfl⟩:=ry;obtain⟨its,r,pl,hz⟩:=I.tuple hq;obtain⟨j,h1,h2,h3,h4,h5⟩:=Qji he;obtain⟨w,ew,rw'⟩:=r.get h2;have hl:=r.length;have hn:=QfR;have fin:EP X pins σ Q w s:=⟨z,H,I,rw',q⟩;exact QrP (x:=w) pl.typeIs slot_tuple_getitem.lookup
  (getItem_tuple (j:=j) (Q:=λr s'=>r=w/\EP X pins σ Q r s') pl (by omega) (by omega) (by rw[Qp,<- hl];exact h1) (by simpa using ew) ⟨rfl,fin⟩) hs
theorem Qk8(its:List Value)(n j:Nat)(u:Value):Yr (·.setIfInBounds j u) { cls:=.type "list",data:=.seq its.toArray n }={ cls:=.type "list",data:=.seq (its.set j u).toArray n }:=by
 simp[Yr]
theorem Inv.lst{pins:List (Addr×Obj)}{σ:St}{H:Hp}{s:Shared}{p:Addr}{xs:List V}(I:Inv X pins σ H s)(h:H p=some (.lst xs)) :
  ∃(its:List Value)(n:Nat),Vals xs its/\s.heap.get? p=some { cls:=.type "list",data:=.seq its.toArray n }/\xs.length<=sizeLine:=by
 obtain⟨z,its,n,r,e⟩:=I.hok p _ h;exact⟨its,n,r,e,z⟩
theorem Inv.lstUpd{pins:List (Addr×Obj)}{σ:St}{H:Hp}{s:Shared}{p:Addr}{xs ys:List V}{its its':List Value}{n n':Nat}{f:Obj->Obj}(I:Inv X pins σ H s)(h:H p=some (.lst xs))
  (ho:s.heap.get? p=some { cls:=.type "list",data:=.seq its.toArray n })(hf:f { cls:=.type "list",data:=.seq its.toArray n }={ cls:=.type "list",data:=.seq its'.toArray n' })(r:Vals ys its')(hz:ys.length<=sizeLine)(t:Nat) :
  Inv X pins σ (upd H p (.lst ys)) { s with heap:=s.heap.update p f,toks:=t }:=by
 have e:(s.heap.update p f).get? p=some { cls:=.type "list",data:=.seq its'.toArray n' }:=by
  rw[QlA f ho (by rw[hf]<;>rfl),hf]
 refine I.write (x:=p) (e:=p) (by rw[h];trivial) (.inl rfl) (λb u hb q=>(QkE _ _ (Qea hb)).trans q) ⟨_,e⟩ ?_
 exact⟨hz,its',n',r,e⟩
def QvH:V->V->V->Hp->(Hp->Prop)->Prop:=λo i v H Q=>∃p xs k j,o=.ref p/\i=.int k/\H p=some (.lst xs)/\ixN xs.length k=some j/\Q (upd H p (.lst (xs.set j v)))
theorem QjE:Qzs X QvH:=by
 intro pins s σ H o i v ov iv u Q I ro ri rv h;obtain⟨p,xs,k,j,rfl,rfl,hp,hj,q⟩:=h;cases ro;obtain⟨t,rfl⟩:=ri;obtain⟨its,n,r,ho,hz⟩:=I.lst hp;obtain⟨h1,h2,h3,h4⟩:=Qnw hj;have hl:=r.length;have hn:=QfR;have I':Inv X pins σ (upd H p (.lst (xs.set j v))) { s with heap:=s.heap.update p (Yr (·.setIfInBounds j u)) }:=
  I.lstUpd hp ho (Qk8 its n j u) (r.set rv j) (by rw[Z0];exact hz) s.toks
 by_cases h0:0<=k
 ·have hk:k.toNat=j:=by
   rw[Qks h0 h4] at h1;exact Qw h1
  exact PySem.W.ki_setAt ho h0 (by omega) (by rw[Qp,<- hl];exact h4) (by rw[hk];exact⟨_,I',q⟩)
 ·have hk:(k+(its.toArray.size:Int)).toNat=j:=by
   rw[Qii (by omega) h3] at h1;rw[Qp,<- hl];exact Qw h1
  exact PySem.W.ki_setBack ho (by omega) (by rw[Qp,<- hl];exact h3) (by omega) (by rw[hk];exact⟨_,I',q⟩)
theorem Qhx(lo hi:Option Int)(n:Nat):(sliceBounds lo hi none n).1=((HT.sIx n 0 lo:Nat):Int)/\(sliceBounds lo hi none n).2.1=((HT.sIx n n hi:Nat):Int)/\(sliceBounds lo hi none n).2.2=1:=by
 refine⟨?_,?_,rfl⟩
 ·cases lo with
  |none=>simp[sliceBounds,HT.sIx]
  |some i=>
   simp only[sliceBounds,HT.sIx,QoN,show(1:Int) > 0 by decide,if_true];by_cases h:i<0
   ·simp only[h,if_true]<;>omega
   ·simp only[h,if_false]<;>omega
 ·cases hi with
  |none=>simp[sliceBounds,HT.sIx]
  |some i=>
   simp only[sliceBounds,HT.sIx,QoN,show(1:Int) > 0 by decide,if_true];by_cases h:i<0
   ·simp only[h,if_true]<;>omega
   ·simp only[h,if_false]<;>omega
theorem Qgo(its:List Value)(lo hi:Option Int):slicePick its.toArray lo hi none=((its.drop (HT.sIx its.length 0 lo)).take (HT.sIx its.length its.length hi - HT.sIx its.length 0 lo)).toArray:=by
 obtain⟨h1,h2,h3⟩:=Qhx lo hi its.toArray.size;unfold slicePick;rw[h1,h2,h3];simp only[sliceRange_one,pick_run,Qp]<;>rfl
def QAp(K:PySem.W.Frag):V->Option Int->Option Int->Hp->VK->Prop:=λx lo hi H Q=>∃a xs,x=.ref a/\SqL K H a xs/\∀p,H p=none->Q (.ref p) (upd H p (.lst (Qki xs lo hi)))
theorem QsY:SlR X (QAp X.K):=by
 intro pins s σ H x v vl vu lo hi sl Q I rx hs pl pu h;obtain⟨a,xs,rfl,hx,q⟩:=h;cases rx;obtain⟨its,r,ht,hz⟩:=I.list hx;have hlen:=r.length;refine⟨"list",_,Qx3.lookup,ht.isList.typeIs,?_⟩;refine wpAny_getItem_list_slice ht.isList hs pl pu .none (by simp) ?_ (by rw[Qp]<;>omega)
 rw[Qgo,<- hlen];refine⟨.ref s.heap.objs.size,_,I.laid (t':=s.toks) (o:=.lst (Qki xs lo hi)) (λb ob q=>Qe _ q) (Ql _) ?_,rfl,q _ (I.hok.fresh (Ql _))⟩;exact⟨QQ (Qe4 xs lo hi) hz,_,0,(r.drop (HT.sIx xs.length 0 lo)).take (HT.sIx xs.length xs.length hi - HT.sIx xs.length 0 lo),QK _ rfl⟩
theorem QaC:CallR X (.builtin "len") (λxs H Q=>∃p ys,xs=[.ref p]/\(SqL X.K H p ys∨SqT X.K H p ys)/\Q (.int ys.length) H):=by
 intro pins s σ H xs us Q I r h;obtain⟨p,ys,rfl,hq,q⟩:=h;obtain⟨u,rfl,rx⟩:=vals1 r;cases rx;have hn:=QfR;rcases hq with hq | hq
 ·obtain⟨its,r',pl,hz⟩:=I.list hq;have hlen:=r'.length;exact Calls.call_len_list pl.isList (by simp only[Qp]<;>omega) ⟨.int ys.length,H,I.tok _,⟨s.toks+1,by rw[Qp,hlen]⟩,q⟩
 ·obtain⟨its,r',pl,hz⟩:=I.tuple hq;have hlen:=r'.length;exact len_tuple pl (by simp only[Qp]<;>omega) ⟨.int ys.length,H,I.tok _,⟨s.toks+1,by rw[Qp,hlen]⟩,q⟩
theorem Qh6:CallR X (.type "list") (λxs H Q=>∃p ys,xs=[.ref p]/\(SqL X.K H p ys∨SqT X.K H p ys)/\∀l,H l=none->Q (.ref l) (upd H l (.lst ys))):=by
 intro pins s σ H xs us Q I r h;obtain⟨p,ys,rfl,hq,q⟩:=h;obtain⟨u,rfl,rx⟩:=vals1 r;cases rx;have fin:∀(its:List Value),Vals ys its->ys.length<=sizeLine->∀(h':Zl)(c':Nat),(∀b o',s.heap.get? b=some o'->h'.get? b=some o') ->
   h'.get? s.heap.objs.size=some { cls:=.type "list",dict:=none,data:=.seq its.toArray c',slots:=#[] }->EP X pins σ Q (.ref s.heap.objs.size) { s with heap:=h' }:=λits r' hz h' c' kp e=>
  ⟨.ref s.heap.objs.size,_,I.laid (t':=s.toks) kp (Ql _) (show ObjOk X.prog X.w _ h' _ (.lst ys) from⟨hz,its,c',r',e⟩),rfl,q _ (I.hok.fresh (Ql _))⟩
 rcases hq with hq | hq
 ·obtain⟨its,r',pl,hz⟩:=I.list hq;have hlen:=r'.length;obtain⟨o,ho,hc,n,hd⟩:=pl.isList;exact call_list_seq p (.inl rfl) ho hc hd (λh' c' kp e=>fin its r' hz h' c' kp e) (by simp only[Qp]<;>omega)
 ·obtain⟨its,r',pl,hz⟩:=I.tuple hq;have hlen:=r'.length;obtain⟨o,ho,hc,n,hd⟩:=pl;exact call_list_seq p (.inr rfl) ho hc hd (λh' c' kp e=>fin its r' hz h' c' kp e) (by simp only[Qp]<;>omega)
theorem QgZ:CallR X (.type "tuple") (λxs H Q=>∃p ys,xs=[.ref p]/\((SqL X.K H p ys/\∀l,H l=none->Q (.ref l) (upd H l (.tup ys)))∨(SqT X.K H p ys/\Q (.ref p) H))):=by
 intro pins s σ H xs us Q I r h;obtain⟨p,ys,rfl,h⟩:=h;obtain⟨u,rfl,rx⟩:=vals1 r;cases rx;rcases h with⟨hq,q⟩ | ⟨hq,q⟩
 ·obtain⟨its,r',pl,hz⟩:=I.list hq;have hlen:=r'.length;refine call_tuple_list pl.isList (λh' kp=>?_) (by simp only[Qp]<;>omega);have I1:Inv X pins σ H { s with heap:=h' }:=I.kept (t':=s.toks) kp;have I2:Inv X pins σ (upd H h'.objs.size (.tup ys)) { s with heap:=h'.push { cls:=.type "tuple",data:=.seq its.toArray } }:=
   I1.laid (t':=s.toks) (λb o e=>Qe _ e) (Ql _) (show ObjOk X.prog X.w _ _ _ (.tup ys) from⟨hz,its,r',QkC _ _⟩)
  exact⟨.ref h'.objs.size,_,I2,rfl,q _ (I1.hok.fresh (Ql _))⟩
 ·obtain⟨its,r',pl,hz⟩:=I.tuple hq;exact call_tuple_same pl ⟨.ref p,H,I,rfl,q⟩
def tyV(K:PySem.W.Frag)(T:String)(x:V)(H:Hp):Prop:=match x with
 |.str _=>T = "str"
 |.int _=>T = "int"
 |.ref p=>(T = "list" /\ ∃xs,SqL K H p xs)∨(T = "tuple" /\ ∃o,K.lookup p=some o/\o.cls=.type "tuple" /\ o.dict=none) ∨
   (T = "dict" /\ ((∃kvs,H p=some (.dK kvs))∨∃kvs,H p=some (.dT kvs)))∨(T = "set" /\ ∃S n,H p=some (.set S n))
 |_=>False
theorem Qvd{pins:List (Addr×Obj)}{σ:St}{H:Hp}{s:Shared}{T:String}{x:V}{v:Value}(I:Inv X pins σ H s)(r:RelV x v)(ty:tyV X.K T x H) :
  s.TypeIs v T/\∀a,v=.ref a->∃ob,s.heap.get? a=some ob/\ob.dict=none:=by
 cases x with
 |str z=>
  obtain⟨t,rfl⟩:=r;cases(show T = "str" from ty);exact⟨typeIs_str s z t,λ_ e=>nomatch e⟩
 |int i=>
  obtain⟨t,rfl⟩:=r;cases(show T = "int" from ty);exact⟨Qx2 s i t,λ_ e=>nomatch e⟩
 |ref p=>
  cases r;rcases ty with⟨rfl,xs,hq⟩ | ⟨rfl,o,hk,hc,hd⟩ | ⟨rfl,hk⟩ | ⟨rfl,S,n,hk⟩
  ·obtain⟨its,_,pl,_⟩:=I.list hq;refine⟨pl.isList.typeIs,λa e=>?_⟩;cases e;obtain⟨o,n,e,c,hd,_⟩:=pl;exact⟨o,e,hd⟩
  ·refine⟨⟨o,I.kIn p o hk,hc⟩,λa e=>?_⟩;cases e;exact⟨o,I.kIn _ o hk,hd⟩
  ·have z:∃o,s.heap.get? p=some o/\o.ExactDict:=by
    rcases hk with⟨kvs,hk⟩ | ⟨kvs,hk⟩
    ·obtain⟨_,_,_,_,o,_,_,e,ex,_⟩:=I.hok p _ hk;exact⟨o,e,ex⟩
    ·obtain⟨_,_,_,_,o,_,_,e,ex,_⟩:=I.hok p _ hk;exact⟨o,e,ex⟩
   obtain⟨o,e,ex⟩:=z;refine⟨⟨o,e,ex.1⟩,λa e2=>?_⟩;cases e2;exact⟨o,e,ex.2.1⟩
  ·obtain⟨o,_,_,_,e,ex,_⟩:=I.hok p _ hk;refine⟨⟨o,e,ex.1⟩,λa e2=>?_⟩;cases e2;exact⟨o,e,ex.2.1⟩
 |_=>exact Jz ty
def tBM(K:PySem.W.Frag)(T:String)(r:V->List V->Hp->VK->Prop)(to:TE)(t:TA):TE:=λσ H Q=>to σ H λx H1=>tyV K T x H1/\t σ H1 λxs H2=>r x xs H2 Q
variable{o e:Q5}{es:List Q5}{to:TE}{t:TA}{name:Str}{apos cpos:Pos}{T id:String}{r:V->List V->Hp->VK->Prop}
theorem QkV(pa:PlainAttrs T)(slot:Slot T name id)(hty:typeOf (.builtin id)=pure (.type "method_descriptor"))(hm:MtR X id r)(ho:PE X o to)(ha:PA X (e::es) t)
  (hbase:attributeBase o name X.env (eval o X.env)=eval o X.env:=by rfl)
  (hfew:((backTo cpos (starEach (e::es) X.env)).all (λx => !x.1)&&(backToKw cpos (keywordEach [] X.env)).all (λx=>x.1.isSome)
   && decide ((e::es).length+([]:List QcR).length+(if([]:List QcR).isEmpty then 0 else 1)<30))=true:=by rfl)
  (hline:(apos.endLine == cpos.line)=true:=by rfl) (hs:starEach (e::es) X.env=(false,eval e X.env)::starEach es X.env:=by rfl) (hplain:(backTo cpos (starEach es X.env)).any (·.1)=false:=by rfl) :
  PE X (.Call (.Attribute o name apos) (e::es) [] cpos) (tBM X.K T r to t):=by
 intro pins s σ H Q I h;refine wpAny_Call_method_late hbase hfew hline rfl (thn (ho pins s σ H _ I h) λv s1 ⟨x,H1,I1,r1,ty,q1⟩=>?_);obtain⟨h1,h2⟩:=Qvd I1 r1 ty;refine⟨T,id,pa,slot,hty,h1,h2,?_⟩;have hA:=ha cpos pins s1 σ H1 _ I1 q1;rw[hs] at hA ⊢;refine Calls.callWith_builtin (by show(false||(backTo cpos (starEach es X.env)).any (·.1))=false;rw[hplain]<;>rfl) (QlC ?_);exact thn hA λus s2 ⟨vs,H2,I2,r2,q2⟩=>hm pins s2 σ H2 x vs v us Q I2 r1 r2 q2
end
def MtM(X:Cx)(id:String)(r:V->List V->Hp->VK->Prop):Prop:=
 ∀(pins:List (Addr×Obj))(s:Shared)(σ:St)(H:Hp)(x:V)(xs:List V)(v:Value)(us:List Value)(Q:VK),Inv X pins σ H s->RelV x v->Vals xs us->r x xs H Q ->
  wpAny (model X.prog X.w) X.A (call (.builtin id) (v::us)) (EP X pins σ Q) X.xe s
theorem Vals.one:∀{x:V}{us:List Value},Vals [x] us->∃u,us=[u]/\RelV x u
 |_,_,.cons r .nil=>⟨_,rfl,r⟩
theorem Vals.zero:∀{us:List Value},Vals [] us->us=[]
 |_,.nil=>rfl
theorem Vals.reverse{xs:List V}{us:List Value}(h:Vals xs us):Vals xs.reverse us.reverse:=by
 induction h with
 |nil=>exact .nil
 |cons r t ih=>rw[QbT,QbT];exact Vals.append ih (.cons r .nil)
theorem Vals.rep{xs:List V}{us:List Value}(h:Vals xs us):∀k:Nat,Vals (Jh k xs).flatten (Jh k us).flatten
 |0=>.nil
 |k+1=>by
  rw[ZH,ZH,Yc,Yc];exact Vals.append h (Vals.rep h k)
theorem foldl_rep(its:List Value):∀(k:Nat)(acc:List Value),
  QrU (λx1 x2=>x1++x2) acc.toArray (Jh k its.toArray)=(acc++(Jh k its).flatten).toArray
 |0,acc=>by simp
 |k+1,acc=>by
  have e:acc.toArray++its.toArray=(acc++its).toArray:=by simp
  have e2:(acc++its)++(Jh k its).flatten=acc++(Jh (k+1) its).flatten:=by
   rw[ZH,Yc,QZ]
  rw[<- e2,<- foldl_rep its k (acc++its),<- e,ZH,QcJ]
section
variable{X:Cx}{pins:List (Addr×Obj)}{σ:St}{H:Hp}{s:Shared}{l b:Addr}{xs ys zs:List V}
theorem Inv.lset{its its':List Value}{n:Nat}{f:Array Value->Array Value}{t':Nat}(I:Inv X pins σ H s)(hH:H l=some (.lst xs))
  (e:s.heap.get? l=some { cls:=.type "list",data:=.seq its.toArray n })(hf:f its.toArray=its'.toArray)(hv:Vals ys its')(hz:ys.length<=sizeLine) :
  Inv X pins σ (upd H l (.lst ys)) { s with heap:=s.heap.update l (Yr f),toks:=t' }:=by
 have q:=PySem.IsL.update e f;rw[hf] at q;refine I.write (x:=l) (e:=l) (by rw[hH];exact trivial) (.inl rfl) (λb' u hb hu=>(QkE s.heap (Yr f) (Qea hb)).trans hu) ⟨_,q⟩ ?_
 exact⟨hz,its',_,hv,q⟩
theorem Inv.lnew{its:List Value}{t':Nat}(I:Inv X pins σ H s)(hv:Vals ys its)(hz:ys.length<=sizeLine) :
  Inv X pins σ (upd H s.heap.objs.size (.lst ys)) { s with heap:=s.heap.push { cls:=.type "list",data:=.seq its.toArray },toks:=t' }:=
 I.laid (λ_ _ q=>Qe _ q) (Ql _) ⟨hz,its,0,hv,QK _ rfl⟩
theorem Inv.fresh(I:Inv X pins σ H s):H s.heap.objs.size=none:=I.hok.fresh (Ql _)
theorem Inv.lstM(I:Inv X pins σ H s)(hH:H l=some (.lst xs)):xs.length<=sizeLine/\∃(its:List Value)(n:Nat),Vals xs its/\xs.length=its.length/\s.heap.get? l=some { cls:=.type "list",data:=.seq its.toArray n }:=by
 obtain⟨z,its,n,r,e⟩:=I.hok l _ hH;exact⟨z,its,n,r,r.length,e⟩
theorem QjW{n:Nat}(h:n<=sizeLine):YJ n=false:=by
 unfold YJ;exact decide_eq_false (by omega)
end
section
variable{X:Cx}
def Qmv:V->List V->Hp->VK->Prop:=λx vs H Q=>∃l xs y,x=.ref l/\vs=[y]/\H l=some (.lst xs)/\xs.length<sizeLine/\Q .non (upd H l (.lst (xs++[y])))
theorem QhU:MtM X "list.append" Qmv:=by
 intro pins s σ H x vs v us Q I rx rv h;obtain⟨l,xs,y,rfl,rfl,hH,hz,q⟩:=h;cases rx;obtain⟨u,rfl,ru⟩:=rv.one;obtain⟨z,its,n,r,hl,e⟩:=I.lstM hH;refine Qa8 F.slot_list_append ⟨_,e,rfl⟩ F.entry_list_append (F.args_list_append_2 _ _) (PySem.list_append l its.toArray n u (by rw[Qp];omega)) ⟨e,?_⟩;refine⟨.non,_,I.lset (its':=its++[u]) hH e (by simp) (r.append (.cons ru .nil)) ?_,rfl,q⟩;rw[Qq,QcG];omega
def Qmu:V->List V->Hp->VK->Prop:=λx vs H Q=>∃l b xs zs,x=.ref l/\vs=[.ref b]/\H l=some (.lst xs)/\H b=some (.lst zs)/\xs.length+zs.length<=sizeLine/\Q .non (upd H l (.lst (xs++zs)))
theorem Qno:MtM X "list.extend" Qmu:=by
 intro pins s σ H x vs v us Q I rx rv h;obtain⟨l,b,xs,zs,rfl,rfl,hH,hB,hz,q⟩:=h;cases rx;obtain⟨u,rfl,ru⟩:=rv.one;cases ru;obtain⟨z,its,n,r,hl,e⟩:=I.lstM hH;obtain⟨z2,its2,n2,r2,hl2,e2⟩:=I.lstM hB;have hsz:its.toArray.size+its2.toArray.size<=sizeLine:=by rw[Qp,Qp];omega
 have hlong:¬(!its.toArray.isEmpty&&YJ (its.toArray.size+its2.toArray.size))=true:=by
  rw[QjW hsz,Qin];exact Qt
 refine Qa8 F.slot_list_extend ⟨_,e,rfl⟩ F.entry_list_extend (F.args_list_extend_2 _ _)
  (AutoSeq1.list_extend_list_list_0 l its.toArray n b its2.toArray n2 hlong (by rw[Qp];omega) (by omega)) ⟨e,e2,?_⟩
 refine⟨.non,_,I.lset (its':=its++its2) hH e (by simp) (r.append r2) ?_,rfl,q⟩;rw[Qq];omega
def QzK:R2:=λx y H Q=>∃l b xs zs,x=.ref l/\y=.ref b/\H l=some (.lst xs)/\H b=some (.lst zs)/\xs.length+zs.length<=sizeLine/\∀p,H p=none->Q (.ref p) (upd H p (.lst (xs++zs)))
theorem Qsg:OpR X (binaryOp .Add) QzK:=by
 intro pins s σ H x y v u Q I rx ry h;obtain⟨l,b,xs,zs,rfl,rfl,hH,hB,hz,q⟩:=h;cases rx;cases ry;obtain⟨z,its,n,r,hl,e⟩:=I.lstM hH;obtain⟨z2,its2,n2,r2,hl2,e2⟩:=I.lstM hB;refine PySem.P.add_list e e2 ?_ (by rw[Qp,Qp];omega)
 have ea:its.toArray++its2.toArray=(its++its2).toArray:=by simp
 rw[ea];exact⟨.ref _,_,I.lnew (t':=s.toks) (r.append r2) (by rw[Qq];omega),rfl,q _ I.fresh⟩
def QzA:R2:=λx y H Q=>∃l k xs,x=.ref l/\y=.int k/\H l=some (.lst xs) /\ -(2^63)<=k/\k<2^63/\xs.length*k.toNat<=sizeLine /\
 ∀p,H p=none->Q (.ref p) (upd H p (.lst (Jh k.toNat xs).flatten))
theorem Qug{α:Type}(xs:List α)(k:Nat):(Jh k xs).flatten.length=k*xs.length:=by
 induction k with
 |zero=>simp
 |succ k ih=>rw[ZH,Yc,Qq,ih,QlJ,Nat.add_comm]
theorem Qwm:OpR X (binaryOp .Mult) QzA:=by
 intro pins s σ H x y v u Q I rx ry h;obtain⟨l,k,xs,rfl,rfl,hH,h1,h2,hz,q⟩:=h;cases rx;obtain⟨t,rfl⟩:=ry;obtain⟨z,its,n,r,hl,e⟩:=I.lstM hH;have hlen:its.toArray.size*k.toNat<=sizeLine:=by rw[Qp,<- hl];exact hz
 have hcap:¬its.toArray.size*k.toNat > (2^63 - 1) / 8:=by
  have:(sizeLine:Nat)<=(2^63 - 1) / 8:=by decide
  omega
 have hfit:¬(!Builtin.List.listFitsIndex k)=true:=by
  rw[fitsIndex_both h1 h2];exact Qt
 have hlong:¬YJ (its.toArray.size*k.toNat)=true:=by
  rw[QjW hlen];exact Qt
 have hnew:QrU (λx1 x2=>x1++x2) #[] (Jh (if its.toArray.isEmpty=true then 0 else k.toNat) its.toArray)=(Jh k.toNat its).flatten.toArray:=by
  have f0:∀m:Nat,QrU (λx1 x2=>x1++x2) #[] (Jh m its.toArray)=(Jh m its).flatten.toArray:=λm=>by
   have:=foldl_rep its m [];rw[Qbq] at this;exact this
  rw[f0];cases its with
  |nil=>simp
  |cons a r'=>rw[if_neg (by simp)]
 refine wpAny_binaryOp_repeat_ref (T := "list") (U := "int") (by decide) ⟨_,e,rfl⟩ (λs'=>Qx2 s' k t) noFill_list_mul F.fills_int_mul Qyn repeat_list F.slot_int_index.lookup
  (Qa8 Qyn (Qx2 s k t) F.entry_int_rmul (F.args_int_rmul_2 _ _) (int___rmul___int_list k t l its.toArray n)
   ⟨e,rfl,⟨_,e,rfl⟩,Qa8 F.slot_list_mul ⟨_,e,rfl⟩ F.entry_list_mul (F.args_list_mul_2 _ _) (AutoListH.list___mul___list_int_3 l its.toArray n k t hfit hcap hlong) ⟨e,?_⟩⟩)
 rw[hnew];exact⟨.ref _,_,I.lnew (t':=s.toks) (r.rep k.toNat) (by rw[Qug,Nat.mul_comm];exact hz),rfl,q _ I.fresh⟩
end
section
variable{prog:QP}{w:JH}{A:Js}{E:Value->Shared->Prop}{s:Shared}
end
section
variable{X:Cx}
end
end L2
namespace Att
open PySem.W PySem.Calls
theorem QeT{P:Params}{h:Zl}:∀(ns:List Int)(vs:List Value),WellAll P h vs (ns.map WData.int)->IntsAre vs ns:=by
 intro ns;induction ns with
 |nil=>
  intro vs w;rw[Qyi] at w;cases w;exact .nil
 |cons n ns ih=>
  intro vs w;rw[JC] at w;cases w with
  |cons a b=>
   cases a;exact .cons _ _ (ih _ b)
theorem Ql8{l:OpenLaw}{n:Nat}(hn:l.most=some n){P:Params}{h:Zl}{args:List WData}{vals:List Value}
  (hpre:l.row.toRowW.claim.pre args=true)(hwl:WellAll P h vals args) :
  ∃a vs ns,vals=[JT a]/\args=[WData.list (ns.map WData.int)]/\h.get? a=some { cls:=.type "list",data:=.seq vs.toArray }/\IntsAre vs ns/\ns.length<=n:=by
 have hsh:WShape.hasAll [] args [.list .int]=true:=(pre_splitW hpre).1;have hc:l.pre.holds [] { args:=args }=true:=(pre_splitW hpre).2;obtain⟨d,r,rfl,h1,h2⟩:=hasAllW_cons hsh;obtain rfl:=hasAllW_nil h2;obtain⟨xs,rfl,h3⟩:=hasW_list h1;obtain⟨ns,rfl⟩:=items_int h3;have hlen:ns.length<=n:=by
  unfold OpenLaw.pre at hc;have h4:(WTm.not (.lt (.lit (.int (n:Int))) (.len (.arg 0)))).holds [] { args:=[.list (ns.map .int)] }=true:=by
   have h4:=(holds_andW hc).1;rw[hn] at h4;exact h4
  have h5:=condW_of h4 (w_not (w_lt w_lit (w_len_list (w_arg rfl))));rw[Qh] at h5;refine Nat.le_of_not_lt λq=>?_
  have q':(n:Int)<((ns.length:Nat):Int):=by omega
  first
   |(rw[decide_eq_true q'] at h5;exact absurd h5 (by decide))
   |(simp at h5;omega)
 cases hwl with
 |cons w1 w2=>
  cases w2;cases w1 with
  |list ho hall=>exact⟨_,_,ns,rfl,rfl,ho,QeT ns _ hall,hlen⟩
theorem QmE(l:OpenLaw)(args:List WData):l.row.toRowW.claim.post args (.bool true) args=true:=
 postW_of (r:=l.row.toRowW) (X:=(true == true))
  (show Qx5 [] (.bool true) .bool=true by first | rfl | decide | simp[Qx5,WShape.arms,WShape.armsAll])
  (show(WTm.eq .res (.lit (.bool true))).value [] { args:=args,res:=some (.bool true),after:=args }=some (.bool (true == true)) from w_eq_bool (w_res rfl) w_lit) rfl
theorem Qjh{l:OpenLaw}{n:Nat}{q:QP}{loose:List Str}{XP:(Str->Option Value)->Zl->Prop}{YP:JH->Zl->Prop}{d:DefRec}
  (hn:l.most=some n)(hdf:d.params.defaults=[])
  (call:∀(w:JH)(s₀ s₁:Shared)(mg mb:Str->Option Value)(fa:Addr)(o:Obj)(pm cd doc:Value)(a:Addr)(vs:List Value)(ns:List Int),
   Ground q loose [] XP w s₀ mg mb s₁.heap->YP w s₁.heap ->
   s₁.heap.get? fa=some o->o.data=.func (docDef d.name d.params d.body d.scope pm cd doc)->s₁.heap.CodeRec cd d.name->mg d.name=some (.ref fa) ->
   s₁.heap.get? a=some { cls:=.type "list",data:=.seq vs.toArray }->IntsAre vs ns->ns.length<=n->s₁.gens=#[] ->
   codeAny (model l.prog w) callerA (.call (.ref fa) ⟨[.ref a],[]⟩) (λr s'=>r=.ok (.ret (.bool true))/\OldK s₁.heap s'.heap/\s'.os=s₁.os/\Qd2 s'.gens) s₁) :
  WalkO q loose XP YP l.row.toRowW d [] (λf vs=>PySem.call f vs):=by
 intro w s₀ s₁ mg mb G Y fa o pm cd doc dV kV ho hd hcd hD hmg hg args vals as hpre hlay hrd hwl hlo;obtain rfl:dV=.none:=Dflts.none hD hdf;obtain rfl:kV=.none:=Dflts.noKw hD;obtain⟨a,vs,ns,rfl,rfl,hobj,hints,hlen⟩:=Ql8 hn hpre hwl;refine enter_call (Qca (call w s₀ s₁ mg mb fa o pm cd doc a vs ns G Y ho (fd_plain hd) hcd hmg hobj hints hlen hg) λr s' hq=>?_);obtain⟨rfl,h2,h3,h4⟩:=hq;exact⟨.inl ⟨.bool true,.bool true,[],rfl,λ_=>rfl,.bool true,QmE l _,λ_=>⟨Qyl,λ_ hm=>(nomatch hm)⟩⟩,h2,h3,h4⟩
section
variable{prog:QP}{w:JH}{A:Js}{E:Value->Shared->Prop}{s:Shared}{K:Frag}
end
end Att
namespace L2
theorem Qhq:∀{vs:List Value}{ns:List Int},IntsAre vs ns->Vals (ns.map V.int) vs
 |_,_,.nil=>.nil
 |_,_,.cons n t h=>.cons ⟨t,rfl⟩ (Qhq h)
def Qzt(H:Hp):Prop:=∀b,H b=none∨∃o xs,H b=some (.frz o (.lst xs))
theorem Qrj{P:QP}{w:JH}{K:PySem.W.Frag}{mg mb:Str->Option Value}{CX:CXT}{k:Nat}{fa a:Addr}{fd:QL}{x:Str}{sp:Sp}{s₁:Shared}{vs:List Value}{ns:List Int}
  (KX:K.In s₁.heap)(hns:s₁.heap.Ns mainGlobals mg)(hb:s₁.heap.Ns builtinsNs mb)(hbb:∀x:Str,x ≠ "__name__" -> mb x=bootBuiltins x)(hlim:s₁.heap.NoLimit)(hg:s₁.gens=#[])
  (ha:s₁.heap.get? a=some { cls:=.type "list",data:=.seq vs.toArray })(hi:IntsAre vs ns)(hl:ns.length<=sizeLine)(hr:Room k callerA)
  (F:∀base:Zl,K.In base->base.Ns mainGlobals mg->FnOk P w K mg base CX k fa fd [x] sp)(hbind:∀(s:Shared)(u:Value),Qd1 s fd ⟨[u],[]⟩ [(x,u)])
  (hsp:∀H:Hp,Qzt H->SqL K H a (ns.map V.int)->sp [.ref a] H (λv _=>v=.bl true) λ_ _ _=>False)
  (hCX:∀H e s',CX [] H s₁ (λ_ _ _=>False) e s'->False) :
  codeAny (model P w) callerA (.call (.ref fa) ⟨[.ref a],[]⟩) (λr s'=>r=.ok (.ret (.bool true))/\OldK s₁.heap s'.heap/\s'.os=s₁.os/\Qd2 s'.gens) s₁:=by
 have rv:=Qhq hi;have lenV:=hi.length;have core:∀H:Hp,Qzt H->SqL K H a (ns.map V.int)->HOk P w H s₁.heap->(∀b,H b≠none->b=a)->(H a≠none->K.lookup a=none) ->
   codeAny (model P w) callerA (.call (.ref fa) ⟨[.ref a],[]⟩) (λr s'=>r=.ok (.ret (.bool true))/\OldK s₁.heap s'.heap/\s'.os=s₁.os/\Qd2 s'.gens) s₁:=by
  intro H hO hS hok hA hK;have base_of:∀{b:Addr}{o:Obj},s₁.heap.get? b=some o->H b=none->(Qrp s₁.heap H).get? b=some o:=λe n=>Qro e n
  have noA:∀{b:Addr}{o:Obj}{es:Array DictEntry}{ep:Nat},s₁.heap.get? b=some o->o.data=.dict es ep->H b=none:=λ{b o es ep} e d=>by
   cases q:H b with
   |none=>rfl
   |some u=>
    have e':b=a:=hA b (by rw[q];simp);subst e';rw[ha] at e;cases e;have d':Data.seq vs.toArray _=Data.dict es ep:=d;cases d'
  have nsK:∀{b:Addr}{m:Str->Option Value},s₁.heap.Ns b m->(Qrp s₁.heap H).Ns b m:=λ{b m} ⟨o,es,ep,e,d,r⟩=>⟨o,es,ep,base_of e (noA e d),d,r⟩
  have hKb:K.In (Qrp s₁.heap H):=λb o e=>base_of (KX b o e) (by
   cases q:H b with
   |none=>rfl
   |some u=>
    have e':b=a:=hA b (by rw[q];simp);subst e';rw[hK (by rw[q];simp)] at e;cases e)
  have hM:Mod K mg (Qrp s₁.heap H):=⟨hKb,nsK hns,⟨mb,nsK hb,hbb⟩,let ⟨mc,h1,h2⟩:=hlim;⟨mc,nsK h1,h2⟩⟩;have e0:Env0 P w K mg (Qrp s₁.heap H) callerA [] s₁ H:=⟨rfl,hM,λb o e=>Qt9 e,Nat.le_of_eq (QnF _ _),trivial,λb hb=>absurd (show b∈([]:List Addr) from hb) (by simp),hok,.of_eq hg⟩;refine Qca ((F _ hKb (nsK hns)).run callerA [] s₁ H ⟨[.ref a],[]⟩ [.ref a] [.ref a] _ _ hr e0 (hbind s₁ (.ref a)) (.cons rfl .nil) (hsp H hO hS)) λr s' h=>?_
  cases r with
  |error e=>exact(hCX H e s' h).elim
  |ok fl=>
   cases fl with
   |next=>exact Jz h
   |brk=>exact Jz h
   |cont=>exact Jz h
   |ret u=>
    obtain⟨v,H',os,bare,un,hok',r',q⟩:=h;have q':v=.bl true:=q;subst q';obtain rfl:u=ZW true:=r';refine⟨rfl,OldK.of_keep λb o e=>?_,os,bare⟩;cases q:H b with
    |none=>exact un.keep b o e q (by intro z;exact absurd (show b∈([]:List Addr) from z) (by simp)) (by simp)
    |some u=>
     rcases hO b with z | ⟨ob,xs,z⟩
     ·rw[q] at z;cases z
     ·have z2:=un.frzs b ob _ z;obtain⟨e1,_⟩:=hok b _ z;obtain⟨e2,_⟩:=hok' b _ z2;rw[e] at e1;cases e1;exact e2
 cases hk:K.lookup a with
 |some o=>
  have e:=KX a o hk;rw[ha] at e;cases e;refine core (λ_=>none) (λ_=>.inl rfl) (.inr ⟨_,vs.toArray,_,hk,rfl,rfl,rfl,by rw[Qp,lenV];exact hl,by simpa using rv⟩) (λb u z=>by have z':(none:Option HO)=some u:=z;cases z') (λb z=>absurd rfl z) λz=>absurd rfl z
 |none=>
  refine core (λb=>if b=a then some (.frz { cls:=.type "list",data:=.seq vs.toArray } (.lst (ns.map V.int))) else none) (λb=>?_) (.inl (.inr ⟨{ cls:=.type "list",data:=.seq vs.toArray },if_pos rfl⟩)) (λb u z=>?_) (λb z=>?_) λ_=>hk
  ·by_cases hb:b=a
   ·exact .inr ⟨_,_,if_pos hb⟩
   ·exact .inl (if_neg hb)
  ·by_cases hb:b=a
   ·have z':=(if_pos hb).symm.trans z;cases z';subst hb;exact⟨ha,by rw[Qh];exact hl,vs,_,rv,ha⟩
   ·have z':=(if_neg hb).symm.trans z;cases z'
  ·by_cases hb:b=a
   ·exact hb
   ·exact absurd (if_neg hb) z
theorem QsQ{l:PySem.W.OpenLaw}{n k:Nat}{q:QP}{loose:List Str}{XP:(Str->Option Value)->Zl->Prop}{YP:JH->Zl->Prop}{d:DefRec}{K:Params->PySem.W.Frag}{CX:JH->CXT}{sp:JH->Sp}{x:Str}
  (hn:l.most=some n)(hn2:n<=sizeLine)(hdf:d.params.defaults=[])(hr:Room k callerA)
  (hY:∀(w:JH)(h:Zl),YP w h->(K w.params).In h)
  (F:∀(w:JH)(mg:Str->Option Value)(fa:Addr)(h:Zl),(K w.params).In h->h.Ns mainGlobals mg->mg d.name=some (.ref fa) ->
   ∃fd:QL,(∀(s:Shared)(u:Value),Qd1 s fd ⟨[u],[]⟩ [(x,u)]) /\
    ∀base:Zl,(K w.params).In base->base.Ns mainGlobals mg->FnOk l.prog w (K w.params) mg base (CX w) k fa fd [x] (sp w))
  (hsp:∀(w:JH)(H:Hp)(a:Addr)(ns:List Int),ns.length<=n->Qzt H->SqL (K w.params) H a (ns.map V.int)->sp w [.ref a] H (λv _=>v=.bl true) λ_ _ _=>False)
  (hCX:∀(w:JH)(H:Hp)(s:Shared)(e:Value)(s':Shared),CX w [] H s (λ_ _ _=>False) e s'->False) :
  PySem.W.WalkO q loose XP YP l.row.toRowW d [] (λf vs=>PySem.call f vs):=by
 refine Att.Qjh hn hdf λw s₀ s₁ mg mb fa o pm cd doc a vs ns G Y ho hd hcd hmg hobj hints hlen hg=>?_
 have KX:=hY w _ Y;obtain⟨fd,hb,hF⟩:=F w mg fa _ KX G.T.g hmg;exact Qrj KX G.T.g G.T.b G.T.builtins G.T.nolimit hg hobj hints (QQ hlen hn2) hr hF hb (λH hO hS=>hsp w H a ns hlen hO hS) λH e s'=>hCX w H s₁ e s'
def JL(s:Z6):Arguments:=match s with
 |.FunctionDef _ a _ _ _ _ _ _ _ _=>a
 |_=>{ posonlyargs:=[],args:=[],vararg:=none,kwonlyargs:=[],kw_defaults:=[],kwarg:=none,defaults:=[] }
def Jv(s:Z6):List Z6:=match s with
 |.FunctionDef _ _ b _ _ _ _ _ _ _=>b
 |_=>[]
def Qs(s:Z6):Qbk:=match s with
 |.FunctionDef _ _ _ _ _ _ sc _ _ _=>sc
 |_=>{ kind:=.function,names:=[],isGenerator:=false,isCoroutine:=false }
abbrev CX0:CXT:=λ_ _ _ _ _ _=>False
abbrev E0:XK:=λ_ _ _=>False
theorem Qwi{X:Cx}:Qc7 CX0 X E0:=λ_ _ _ _ _ _ _ h=>h.elim
structure Fun (K:PySem.W.Frag) (x qual:Str) (st:Z6) (f:Addr) (fd:QL):Prop where
 ex:∃(oc:Value)(od:Option Addr)(kV doc pm:Value)(an:Option Addr)(cdv ct:Value)(osl:Array (Option Value)),
  fd=PySem.W.fnOf x qual (JL st) (Jv st) (Qs st) .none kV doc pm an cdv ct/\K.lookup f=some ⟨oc,od,.func fd,osl⟩/\PySem.W.codeIn K cdv qual=true
 kp:PySem.W.keepIn K (.ref f)=true
section
variable{P:QP}{w:JH}{K:PySem.W.Frag}{mg:Str->Option Value}{base:Zl}
theorem Fun.ok{x qual:Str}{st:Z6}{f:Addr}{fd:QL}{N ps:List Str}{k:Nat}{sp:Sp}(F:Fun K x qual st f fd)(S:Jx N ps (Qs st))(len:∀vs H Q E,sp vs H Q E->vs.length=ps.length)
  (hbody:∀(cdv:Value)(A:Js)(outer:List Env)(s:Shared)(H:Hp)(vs:List V)(Q:VK)(E:XK),Room k (A.deeper (envOfC qual (Qs st) s.heap.objs.size f cdv))->sp vs H Q E ->
   ∃t,PSs (cxOf CX0 P w K mg base N qual (Qs st) f cdv A outer s H E).nox (Jv st) t/\t { nx:=λ_ H'=>Q .non H',rt:=Q } (start N vs) H):FnOk P w K mg base CX0 (k+1) f fd ps sp:=by
 obtain⟨oc,od,kV,doc,pm,an,cdv,ct,osl,rfl,lk,hcd⟩:=F.ex;refine QwY lk hcd S len λA outer s H vs Q E hr hsp=>?_
 obtain⟨t,h,q⟩:=hbody cdv A outer s H vs Q E hr hsp;exact⟨t,h.nox,q⟩
theorem Fun.binds{x qual:Str}{st:Z6}{f:Addr}{fd:QL}{ps:List Str}(F:Fun K x qual st f fd)
  (h:∀(kV doc pm:Value)(an:Option Addr)(cdv ct:Value)(us:List Value),us.length=ps.length->bindArgs (PySem.W.fnOf x qual (JL st) (Jv st) (Qs st) .none kV doc pm an cdv ct) ⟨us,[]⟩=pure (ps.zip us)):Binds K fd ps []:=by
 obtain⟨oc,od,kV,doc,pm,an,cdv,ct,osl,rfl,lk,hcd⟩:=F.ex;exact .all (h kV doc pm an cdv ct)
theorem ZF{x qual:Str}{st:Z6}{f:Addr}{oc:Value}{od an:Option Addr}{osl:Array (Option Value)}{kV doc pm cdv ct:Value}(l:K.lookup f=some ⟨oc,od,.func (PySem.W.fnOf x qual (JL st) (Jv st) (Qs st) .none kV doc pm an cdv ct),osl⟩)
  (c:PySem.W.codeIn K cdv qual=true)(k:PySem.W.keepIn K (.ref f)=true):Fun K x qual st f (PySem.W.fnOf x qual (JL st) (Jv st) (Qs st) .none kV doc pm an cdv ct):=⟨⟨oc,od,kV,doc,pm,an,cdv,ct,osl,rfl,l,c⟩,k⟩
end
section
variable{X:Cx}
theorem pv(i:Nat){x:Str}{pos:Pos}(hN:X.N[i]? = some x:=by rfl)(hv:Vis X.env.scope x:=by first | exact QR rfl | exact Q2 (QR rfl) | exact Q2 (Q2 rfl))(hd:(x == ("__debug__" : Str))=false:=by decide)
  (hcd:(x == ("__classdict__" : Str))=false:=by decide):PE X (.Name x pos) (Qhs i):=Qsc hN hv hd hcd
end
theorem Qj7{A B:Prop}(h:B):if false=true then A else B:=by
 rw[if_neg Qt];exact h
theorem Qha{A B:Prop}(h:A):if true=true then A else B:=by
 rw[if_pos rfl];exact h
theorem QzN{c A B:Prop}[Decidable c](h1:c->A)(h2:¬c->B):if c then A else B:=by
 by_cases h:c
 ·rw[if_pos h];exact h1 h
 ·rw[if_neg h];exact h2 h
theorem Qnx{c A B:Prop}[Decidable c](hc:c)(h:B):if(!decide c)=true then A else B:=by
 rw[decide_eq_true hc];exact Qj7 h
def Same(H H':Hp):Prop:=∀b o,H b=some o->H' b=some o
theorem Same.refl(H:Hp):Same H H:=λ_ _ h=>h
theorem Same.trans{H H1 H2:Hp}(a:Same H H1)(b:Same H1 H2):Same H H2:=λc o h=>b c o (a c o h)
theorem Same.free{H H':Hp}(e:Same H H'){l:Addr}(h:H' l=QxF):H l=QxF:=by
 cases q:H l with
 |none=>rfl
 |some o=>
  rw[e l o q] at h;cases h
theorem Same.seq{K:PySem.W.Frag}{H H':Hp}{a:Addr}{xs:List V}(e:Same H H')(h:SqL K H a xs):SqL K H' a xs:=by
 rcases h with(h | ⟨o,h⟩) | h
 ·exact .inl (.inl (e _ _ h))
 ·exact .inl (.inr ⟨o,e _ _ h⟩)
 ·exact .inr h
end L2
set_option maxHeartbeats 4000000
namespace Rt
def Qb5:Bool->Keyed->Array Keyed->Nat->Nat->Nat->StateT Zb Sem (Option Nat):=sortPriv% PySem.Builtin.gallop
theorem Qlg(lf:Bool)(kk:Keyed)(xs:Array Keyed)(b n h:Nat):Qb5 lf kk xs b n h=(do
 let bey (z:Nat):StateT Zb Sem (Option Bool):=do
  let x <- elem' xs (b+z)
  if lf then lt' x kk else return (<- lt' kk x).map (!·)
 let mut l0:=0
 let mut o0:=1
 let mut u:=0
 let mut v:=0
 let some r0 <- bey h | return none
 if r0 then
  let mo:=n - h
  for _ in [0:n] do
   if o0≥mo then break
   let some r1 <- bey (h+o0) | return none
   if !r1 then break
   l0:=o0
   o0:=2*o0+1
  u:=h+l0+1
  v:=h+min o0 mo
 else
  let mo:=h+1
  for _ in [0:n] do
   if o0≥mo then break
   let some r1 <- bey (h - o0) | return none
   if r1 then break
   l0:=o0
   o0:=2*o0+1
  u:=h+1 - min o0 mo
  v:=h - l0
 for _ in [0:n] do
  if u≥v then break
  let m:=u+(v - u) / 2
  let some r1 <- bey m | return none
  if r1 then u:=m+1 else v:=m
 return some v):=rfl
structure Ord (c:Keyed->Keyed->Bool):Prop where
 asym:∀x y,c x y=true->c y x=false
 trans:∀x y z,c y x=false->c z y=false->c z x=false
abbrev le (c:Keyed->Keyed->Bool) (x y:Keyed):Prop:=c y x=false
section
variable{c:Keyed->Keyed->Bool}
theorem Ord.irr(o:Ord c)(x:Keyed):c x x=false:=by
 cases h:c x x with
 |false=>rfl
 |true=>rw[o.asym x x h] at h;cases h
theorem Ord.tr(o:Ord c){x y z:Keyed}(a:le c x y)(b:le c y z):le c x z:=o.trans x y z a b
theorem Ord.lt_le(o:Ord c){x y:Keyed}(a:c x y=true):le c x y:=o.asym x y a
theorem Ord.tr_lt(o:Ord c){x y z:Keyed}(a:le c x y)(b:c y z=true):c x z=true:=by
 cases h:c x z with
 |true=>rfl
 |false=>rw[show c y z=false from o.trans z x y h a] at b;cases b
end
def kx(xs:Array Keyed)(i:Nat):Keyed:=(xs[i]?).getD (Zs,Zs)
theorem Quj{xs:Array Keyed}{i:Nat}(h:i<xs.size):xs[i]? = some (kx xs i):=by
 unfold kx;rw[getElem?_pos xs i h];rfl
theorem Qi5{xs ys:Array Keyed}{i j:Nat}(h:xs[i]? = ys[j]?):kx xs i=kx ys j:=by unfold kx;rw[h]
def Sg(c:Keyed->Keyed->Bool)(xs:Array Keyed)(lo hi:Nat):Prop:=∀i j,lo<=i->i<=j->j<hi->le c (kx xs i) (kx xs j)
structure Asks (prog:QP) (w:JH) (A:Js) (s:Shared) (κ:Yv) (a₀:Array Keyed) (c:Keyed->Keyed->Bool):Prop where
 ord:Ord c
 lt:∀x y,x∈a₀.toList->y∈a₀.toList->∀(C:Bool->Shared->Prop)(E':Value->Shared->Prop),C (c x y) s->wpAny (model prog w) A (keyLt' κ x.1 y.1) C E' s
structure SB (κ:Yv) (a₀:Array Keyed) (st:Zb):Prop where
 perm:(arrOf st).Perm a₀
 kind:kindOf st=κ
 failed:failedOf st=none
theorem SB.size{κ:Yv}{a₀:Array Keyed}{st:Zb}(h:SB κ a₀ st):(arrOf st).size=a₀.size:=h.perm.size_eq
theorem SB.mem{κ:Yv}{a₀:Array Keyed}{st:Zb}(h:SB κ a₀ st){p:Keyed}(e:p∈(arrOf st).toList):p∈a₀.toList:=(YT.mp h.perm).mem_iff.mp e
theorem QeS{xs:Array Keyed}{i:Nat}(h:i<xs.size):kx xs i∈xs.toList:=QcV.mpr (QkG (Quj h))
section
variable{prog:QP}{w:JH}{A:Js}{E:Value->Shared->Prop}{s:Shared}{a₀:Array Keyed}{κ:Yv}{c:Keyed->Keyed->Bool}
theorem Qho{st:Zb}{x y:Keyed}{Q:Option Bool->Zb->Prop}(hA:Asks prog w A s κ a₀ c)(hk:kindOf st=κ)(hx:x∈a₀.toList)(hy:y∈a₀.toList)(h:Q (some (c x y)) st):wpS (model prog w) A E s (lt' x y) Q st:=by
 rw[lt'_eq];refine Qi (Qci ?_);rw[hk];refine Qi (Qd8 (QcM (hA.lt x y hx hy _ _ ⟨rfl,?_⟩)));exact Qj h
theorem Q8{st:Zb}{arr:Array Keyed}{i:Nat}{Q:Keyed->Zb->Prop}(hi:i<arr.size)(h:Q (kx arr i) st):wpS (model prog w) A E s (elem' arr i) Q st:=by
 rw[elem'_eq,Quj hi];exact Qj h
theorem Qex{st:Zb}{i j:Nat}{Q:Option Bool->Zb->Prop}(hA:Asks prog w A s κ a₀ c)(hB:SB κ a₀ st)(hi:i<a₀.size)(hj:j<a₀.size)(h:Q (some (c (kx (arrOf st) i) (kx (arrOf st) j))) st):wpS (model prog w) A E s (ltAt' i j) Q st:=by
 have h1:i<(arrOf st).size:=by rw[hB.size];exact hi
 have h2:j<(arrOf st).size:=by rw[hB.size];exact hj
 rw[ltAt'_eq];refine Qi (Qci ?_);refine Qi (Q8 h1 ?_);refine Qi (Q8 h2 ?_);exact Qho hA hB.kind (hB.mem (QeS h1)) (hB.mem (QeS h2)) h
def QcC(c:Keyed->Keyed->Bool)(lf:Bool)(kk:Keyed)(xs:Array Keyed)(i:Nat):Bool:=if lf then c (kx xs i) kk else !c kk (kx xs i)
theorem QrH(o:Ord c){lf:Bool}{kk:Keyed}{xs:Array Keyed}{b n:Nat}(sg:Sg c xs b (b+n)){i j:Nat}(hij:i<=j)(hj:j<n)(h:QcC c lf kk xs (b+j)=true):QcC c lf kk xs (b+i)=true:=by
 have l:=sg (b+i) (b+j) (by omega) (by omega) (by omega);unfold QcC at h ⊢;cases lf with
 |true=>exact o.tr_lt l h
 |false=>
  simp only[Yx,if_false,Bool.not_eq_true'] at h ⊢;exact o.tr l h
theorem ZL{st:Zb}{lf:Bool}{kk:Keyed}{xs:Array Keyed}{b n hint:Nat}{Q:Option Nat->Zb->Prop}(hA:Asks prog w A s κ a₀ c)(hk:kindOf st=κ)(hkey:kk∈a₀.toList)(harr:∀p∈xs.toList,p∈a₀.toList)(hb:b+n<=xs.size)(hh:hint<n)(sg:Sg c xs b (b+n))
  (h:∀k,k<=n->(∀i,i<k->QcC c lf kk xs (b+i)=true)->(∀i,k<=i->i<n->QcC c lf kk xs (b+i)=false)->Q (some k) st):wpS (model prog w) A E s (Qb5 lf kk xs b n hint) Q st:=by
 have bey:∀(i:Nat)(Q':Option Bool->Zb->Prop),i<n->Q' (some (QcC c lf kk xs (b+i))) st->wpS (model prog w) A E s (do
   let x <- elem' xs (b+i)
   if lf then lt' x kk else return (<- lt' kk x).map (!·)) Q' st:=λi Q' hi hq=>by
  have hs:b+i<xs.size:=by omega
  refine Qi (Q8 hs ?_);have pm:=harr _ (QeS hs);unfold QcC at hq;cases lf with
  |true=>exact Qho hA hk pm hkey hq
  |false=>exact Qi (Qho hA hk hkey pm (Qj hq))
 have mono:∀{i j:Nat},i<=j->j<n->QcC c lf kk xs (b+j)=true->QcC c lf kk xs (b+i)=true:=λhij hj h=>QrH hA.ord sg hij hj h
 have monoF:∀{i j:Nat},i<=j->j<n->QcC c lf kk xs (b+i)=false->QcC c lf kk xs (b+j)=false:=λ{i j} hij hj h=>by
  cases e:QcC c lf kk xs (b+j) with
  |false=>rfl
  |true=>rw[mono hij hj e] at h;cases h
 rw[Qlg]
 dsimp only
 refine Qi (bey hint _ hh ?_);cases hr:QcC c lf kk xs (b+hint) with
 |true=>
  dsimp only
  rw[if_pos rfl];refine Qi (Yu (Za (I:=λx z st'=>st'=st/\∃l o,z=(none,l,o)/\l<o/\x+1<=o/\hint+l<n/\QcC c lf kk xs (b+(hint+l))=true)
   (Q:=λz st'=>st'=st/\∃l o,z=(none,l,o)/\l<o/\hint+l<n/\QcC c lf kk xs (b+(hint+l))=true/\(hint+o<n->QcC c lf kk xs (b+(hint+o))=false)) ?step ?fin ⟨rfl,0,1,rfl,by omega,by omega,by omega,hr⟩) ?post)
  case fin=>
   rintro z st' ⟨rfl,l,o,rfl,h1,h2,h3,h4⟩;exact⟨rfl,l,o,rfl,h1,h3,h4,λh5=>by omega⟩
  case step=>
   rintro x z st' _ hx ⟨rfl,l,o,rfl,h1,h2,h3,h4⟩
   dsimp only
   by_cases g:o≥n - hint
   ·rw[if_pos g];exact Qj ⟨rfl,l,o,rfl,h1,h3,h4,λh5=>by omega⟩
   ·rw[if_neg g];refine Qi (bey (hint+o) _ (by omega) ?_);cases e:QcC c lf kk xs (b+(hint+o)) with
    |true=>exact Qj ⟨rfl,o,2*o+1,rfl,by omega,by omega,by omega,e⟩
    |false=>exact Qj ⟨rfl,l,o,rfl,h1,h3,h4,λ_=>e⟩
  case post=>
   rintro z st' ⟨rfl,l,o,rfl,h1,h3,h4,h5⟩
   dsimp only
   refine Qi (Yu (Za (I:=λx z st''=>st''=st'/\∃u v,z=(none,u,v)/\v<=n/\u<=v/\v - u<=n - x/\(∀i,i<u->QcC c lf kk xs (b+i)=true)/\(∀i,v<=i->i<n->QcC c lf kk xs (b+i)=false))
    (Q:=λz st''=>st''=st'/\∃v,z=(none,v,v)/\v<=n/\(∀i,i<v->QcC c lf kk xs (b+i)=true)/\(∀i,v<=i->i<n->QcC c lf kk xs (b+i)=false)) ?step2 ?fin2 ?init2) ?post2)
   case init2=>
    refine⟨rfl,_,_,rfl,by omega,by omega,by omega,λi hi=>mono (by omega) h3 h4,λi hi hn=>?_⟩;exact monoF (i:=hint+o) (by omega) hn (h5 (by omega))
   case fin2=>
    rintro z st'' ⟨rfl,u,v,rfl,g1,g2,g3,g4,g5⟩;have:u=v:=by omega
    subst this;exact⟨rfl,u,rfl,g1,g4,g5⟩
   case step2=>
    rintro x z st'' _ hx ⟨rfl,u,v,rfl,g1,g2,g3,g4,g5⟩
    dsimp only
    by_cases g:u≥v
    ·rw[if_pos g];have:u=v:=by omega
     subst this;exact Qj ⟨rfl,u,rfl,g1,g4,g5⟩
    ·rw[if_neg g];refine Qi (bey (u+(v - u) / 2) _ (by omega) ?_);cases e:QcC c lf kk xs (b+(u+(v - u) / 2)) with
     |true=>exact Qj ⟨rfl,_,_,rfl,g1,by omega,by omega,λi hi=>mono (by omega) (by omega) e,g5⟩
     |false=>exact Qj ⟨rfl,_,_,rfl,by omega,by omega,by omega,g4,λi hi hn=>monoF hi hn e⟩
   case post2=>
    rintro z st'' ⟨rfl,v,rfl,g1,g4,g5⟩;exact Qj (h v g1 g4 g5)
 |false=>
  dsimp only
  rw[if_neg (by decide)];refine Qi (Yu (Za (I:=λx z st'=>st'=st/\∃l o,z=(none,l,o)/\l<o/\x+1<=o/\l<=hint/\QcC c lf kk xs (b+(hint - l))=false)
   (Q:=λz st'=>st'=st/\∃l o,z=(none,l,o)/\l<o/\l<=hint/\QcC c lf kk xs (b+(hint - l))=false/\(o<=hint->QcC c lf kk xs (b+(hint - o))=true)) ?step ?fin ⟨rfl,0,1,rfl,by omega,by omega,by omega,hr⟩) ?post)
  case fin=>
   rintro z st' ⟨rfl,l,o,rfl,h1,h2,h3,h4⟩;exact⟨rfl,l,o,rfl,h1,h3,h4,λh5=>by omega⟩
  case step=>
   rintro x z st' _ hx ⟨rfl,l,o,rfl,h1,h2,h3,h4⟩
   dsimp only
   by_cases g:o≥hint+1
   ·rw[if_pos g];exact Qj ⟨rfl,l,o,rfl,h1,h3,h4,λh5=>by omega⟩
   ·rw[if_neg g];refine Qi (bey (hint - o) _ (by omega) ?_);cases e:QcC c lf kk xs (b+(hint - o)) with
    |false=>exact Qj ⟨rfl,o,2*o+1,rfl,by omega,by omega,by omega,e⟩
    |true=>exact Qj ⟨rfl,l,o,rfl,h1,h3,h4,λ_=>e⟩
  case post=>
   rintro z st' ⟨rfl,l,o,rfl,h1,h3,h4,h5⟩
   dsimp only
   refine Qi (Yu (Za (I:=λx z st''=>st''=st'/\∃u v,z=(none,u,v)/\v<=n/\u<=v/\v - u<=n - x/\(∀i,i<u->QcC c lf kk xs (b+i)=true)/\(∀i,v<=i->i<n->QcC c lf kk xs (b+i)=false))
    (Q:=λz st''=>st''=st'/\∃v,z=(none,v,v)/\v<=n/\(∀i,i<v->QcC c lf kk xs (b+i)=true)/\(∀i,v<=i->i<n->QcC c lf kk xs (b+i)=false)) ?step2 ?fin2 ?init2) ?post2)
   case init2=>
    refine⟨rfl,_,_,rfl,by omega,by omega,by omega,λi hi=>?_,λi hi hn=>monoF hi hn h4⟩;exact mono (j:=hint - o) (by omega) (by omega) (h5 (by omega))
   case fin2=>
    rintro z st'' ⟨rfl,u,v,rfl,g1,g2,g3,g4,g5⟩;have:u=v:=by omega
    subst this;exact⟨rfl,u,rfl,g1,g4,g5⟩
   case step2=>
    rintro x z st'' _ hx ⟨rfl,u,v,rfl,g1,g2,g3,g4,g5⟩
    dsimp only
    by_cases g:u≥v
    ·rw[if_pos g];have:u=v:=by omega
     subst this;exact Qj ⟨rfl,u,rfl,g1,g4,g5⟩
    ·rw[if_neg g];refine Qi (bey (u+(v - u) / 2) _ (by omega) ?_);cases e:QcC c lf kk xs (b+(u+(v - u) / 2)) with
     |true=>exact Qj ⟨rfl,_,_,rfl,g1,by omega,by omega,λi hi=>mono (by omega) (by omega) e,g5⟩
     |false=>exact Qj ⟨rfl,_,_,rfl,by omega,by omega,by omega,g4,λi hi hn=>monoF hi hn e⟩
   case post2=>
    rintro z st'' ⟨rfl,v,rfl,g1,g4,g5⟩;exact Qj (h v g1 g4 g5)
structure Fb (κ:Yv) (a₀:Array Keyed) (lo:Nat) (st st':Zb):Prop where
 sb:SB κ a₀ st'
 pend:pendingOf st'=pendingOf st
 low:∀k,k<lo->kx (arrOf st') k=kx (arrOf st) k
theorem Fb.refl{st:Zb}{lo:Nat}(h:SB κ a₀ st):Fb κ a₀ lo st st:=⟨h,rfl,λ_ _=>rfl⟩
theorem Qnu{xs:Array Keyed}{i j:Nat}(hj:j<=xs.size)(k:Nat):kx (mirror xs i j ((j - i) / 2)) k=if i<=k/\k<j then kx xs (i+j - 1 - k) else kx xs k:=by
 have e:=getElem?_mirror_all (i:=i) hj k
 by_cases h1:i<=k/\k<j
 ·rw[if_pos h1] at e ⊢;exact Qi5 e
 ·rw[if_neg h1] at e ⊢;exact Qi5 e
theorem QbY{st:Zb}{i j lo:Nat}{st0:Zb}{Q:Unit->Zb->Prop}(fb:Fb κ a₀ lo st0 st)(hi:lo<=i)(hj:j<=a₀.size)
  (h:∀st',Fb κ a₀ lo st0 st'->(∀k,kx (arrOf st') k=if i<=k/\k<j then kx (arrOf st) (i+j - 1 - k) else kx (arrOf st) k)->Q () st'):wpS (model prog w) A E s (reverseSlice' i j) Q st:=by
 rw[reverseSlice'_eq];have km:∀k,kx (mirror (arrOf st) i j ((j - i) / 2)) k=if i<=k/\k<j then kx (arrOf st) (i+j - 1 - k) else kx (arrOf st) k:=λk=>Qnu (by rw[fb.sb.size];exact hj) k
 refine QaD (h _ ⟨⟨(mirror_perm _ _ _ _).trans fb.sb.perm,fb.sb.kind,fb.sb.failed⟩,fb.pend,λk hk=>?_⟩ km);show kx (mirror (arrOf st) i j ((j - i) / 2)) k=_;rw[km,if_neg (by omega)];exact fb.low k hk
def Qz5(lo a nr:Nat):StateT Zb Sem (Option (Option Nat)×Nat):=
 forIn [a:nr] ((none,a):Option (Option Nat)×Nat) λ_ z=>do
  let r <- ltAt' (lo+z.2) (lo+z.2 - 1)
  match r with
  |some b=>if b=true then pure (Qbl (none,z.2)) else pure (J7 (none,z.2+1))
  |_=>pure (Qbl (some none,z.2))
theorem Qez{st:Zb}{lo a nr:Nat}{Q:Option (Option Nat)×Nat->Zb->Prop}(hA:Asks prog w A s κ a₀ c)(hn:lo+nr<=a₀.size)(h1:1<=a)(han:a<=nr)(hB:SB κ a₀ st)(sg:Sg c (arrOf st) lo (lo+a))
  (h:∀n,a<=n->n<=nr->Sg c (arrOf st) lo (lo+n)->(n=nr∨c (kx (arrOf st) (lo+n)) (kx (arrOf st) (lo+n - 1))=true)->Q (none,n) st):wpS (model prog w) A E s (Qz5 lo a nr) Q st:=by
 unfold Qz5;refine Za (I:=λx z st'=>st'=st/\z=(none,x)/\Sg c (arrOf st) lo (lo+x)) ?step ?fin ⟨rfl,rfl,sg⟩
 case fin=>
  rintro z st' ⟨rfl,rfl,hs⟩;rw[show max a nr=nr by omega] at hs ⊢;exact h nr han (Ql _) hs (.inl rfl)
 case step=>
  rintro x z st' hax hxn ⟨rfl,rfl,hs⟩
  dsimp only
  refine Qi (Qex hA hB (by omega) (by omega) ?_);cases e:c (kx (arrOf st') (lo+x)) (kx (arrOf st') (lo+x - 1)) with
  |true=>exact Qj (h x hax (by omega) hs (.inr e))
  |false=>
   refine Qj ⟨rfl,rfl,λi j hi hij hj=>?_⟩;by_cases z:j<lo+x
   ·exact hs i j hi hij z
   ·have zj:j=lo+x:=by omega
    subst zj;by_cases zi:i=lo+x
    ·subst zi;exact hA.ord.irr _
    ·exact hA.ord.tr (hs i (lo+x - 1) hi (by omega) (by omega)) e
def Ng(c:Keyed->Keyed->Bool)(xs:Array Keyed)(lo hi:Nat):Prop:=∀i j,lo<=i->i<=j->j<hi->le c (kx xs j) (kx xs i)
def Eqv(c:Keyed->Keyed->Bool)(x y:Keyed):Prop:=le c x y/\le c y x
theorem Eqv.ng(o:Ord c){xs ys:Array Keyed}{lo hi:Nat}(h:∀k,lo<=k->k<hi->Eqv c (kx ys k) (kx xs k))(n:Ng c xs lo hi):Ng c ys lo hi:=λi j hi' hij hj=>
 o.tr (h j (by omega) hj).1 (o.tr (n i j hi' hij hj) (h i hi' (by omega)).2)
theorem Qgt(o:Ord c){xs ys:Array Keyed}{u v:Nat}(h:∀k,kx ys k=if u<=k/\k<v then kx xs (u+v - 1 - k) else kx xs k)(q:∀k,u<=k->k<v->Eqv c (kx xs k) (kx xs (v - 1)))(k:Nat):Eqv c (kx ys k) (kx xs k):=by
 rw[h k];split
 ·rename_i z
  have a:=q (u+v - 1 - k) (by omega) (by omega);have b:=q k z.1 z.2;exact⟨o.tr a.1 b.2,o.tr b.1 a.2⟩
 ·exact⟨o.irr _,o.irr _⟩
def Qw7(lo n nr:Nat):StateT Zb Sem (Option (Option Nat)×Nat×Nat):=
 forIn [n:nr] ((none,n,0):Option (Option Nat)×Nat×Nat) λ_ z=>do
  let r <- ltAt' (lo+z.2.1) (lo+z.2.1 - 1)
  match r with
  |some b=>
   if b=true then
    if z.2.2 > 0 then do
     reverseSlice' (lo+z.2.1 - (z.2.2+1)) (lo+z.2.1)
     pure (J7 (none,z.2.1+1,0))
    else pure (J7 (none,z.2.1+1,0))
   else do
    let r <- ltAt' (lo+z.2.1 - 1) (lo+z.2.1)
    match r with
    |some b=>
     if b=true then pure (Qbl (none,z.2.1,z.2.2))
     else pure (J7 (none,z.2.1+1,z.2.2+1))
    |_=>pure (Qbl (some none,z.2.1,z.2.2))
  |_=>pure (Qbl (some none,z.2.1,z.2.2))
theorem QeQ(o:Ord c){xs:Array Keyed}{lo n:Nat}(h:Ng c xs lo (lo+n))(h1:1<=n)(l:le c (kx xs (lo+n)) (kx xs (lo+n - 1))):Ng c xs lo (lo+(n+1)):=λi j hi hij hj=>by
 by_cases z:j<lo+n
 ·exact h i j hi hij z
 ·have zj:j=lo+n:=by omega
  subst zj;by_cases zi:i=lo+n
  ·subst zi;exact o.irr _
  ·exact o.tr l (h i (lo+n - 1) hi (by omega) (by omega))
theorem Qjp{st st0:Zb}{lo n nr:Nat}{Q:Option (Option Nat)×Nat×Nat->Zb->Prop}(hA:Asks prog w A s κ a₀ c)(hn:lo+nr<=a₀.size)(h1:1<=n)(han:n<=nr)(fb:Fb κ a₀ lo st0 st)(ng:Ng c (arrOf st) lo (lo+n))
  (h:∀m q st',n<=m->m<=nr->Fb κ a₀ lo st0 st'->Ng c (arrOf st') lo (lo+m)->q+1<=m->(∀k,lo+m - (q+1)<=k->k<lo+m->Eqv c (kx (arrOf st') k) (kx (arrOf st') (lo+m - 1)))->Q (none,m,q) st'):wpS (model prog w) A E s (Qw7 lo n nr) Q st:=by
 unfold Qw7;have ir:∀x,Eqv c x x:=λx=>⟨hA.ord.irr x,hA.ord.irr x⟩
 refine Za (I:=λx z st'=>∃q,z=(none,x,q)/\Fb κ a₀ lo st0 st'/\Ng c (arrOf st') lo (lo+x)/\q+1<=x/\(∀k,lo+x - (q+1)<=k->k<lo+x->Eqv c (kx (arrOf st') k) (kx (arrOf st') (lo+x - 1)))) ?step ?fin
  ⟨0,rfl,fb,ng,h1,λk k1 k2=>by rw[show k=lo+n - 1 by omega];exact ir _⟩
 case fin=>
  rintro z st' ⟨q,rfl,f,g,g1,g2⟩;rw[show max n nr=nr by omega] at g g1 g2 ⊢;exact h nr q st' han (Ql _) f g g1 g2
 case step=>
  rintro x z st' hax hxn ⟨q,rfl,f,g,g1,g2⟩
  dsimp only
  refine Qi (Qex hA f.sb (by omega) (by omega) ?_);cases e:c (kx (arrOf st') (lo+x)) (kx (arrOf st') (lo+x - 1)) with
  |true=>
   dsimp only
   rw[if_pos rfl];by_cases zq:q > 0
   ·rw[if_pos zq];refine Qi (QbY f (by omega) (by omega) λst2 f2 km=>Qj ⟨0,rfl,f2,?_,by omega,λk k1 k2=>by rw[show k=lo+(x+1) - 1 by omega];exact ir _⟩);refine Eqv.ng hA.ord (xs:=arrOf st') (λk _ _=>Qgt hA.ord km g2 k) (QeQ hA.ord g (by omega) (hA.ord.lt_le e))
   ·rw[if_neg zq];exact Qj ⟨0,rfl,f,QeQ hA.ord g (by omega) (hA.ord.lt_le e),by omega,λk k1 k2=>by rw[show k=lo+(x+1) - 1 by omega];exact ir _⟩
  |false=>
   dsimp only
   rw[if_neg (by decide)];refine Qi (Qex hA f.sb (by omega) (by omega) ?_);cases e2:c (kx (arrOf st') (lo+x - 1)) (kx (arrOf st') (lo+x)) with
   |true=>exact Qj (h x q st' hax (by omega) f g g1 g2)
   |false=>
    refine Qj ⟨q+1,rfl,f,QeQ hA.ord g (by omega) e2,by omega,λk k1 k2=>?_⟩;rw[show lo+(x+1) - 1=lo+x by omega];by_cases zk:k=lo+x
    ·subst zk;exact ir _
    ·have a:=g2 k (by omega) (by omega);exact⟨hA.ord.tr a.1 e,hA.ord.tr e2 a.2⟩
theorem Qp6{xs ys:Array Keyed}{lo hi:Nat}(h:∀k,kx ys k=if lo<=k/\k<hi then kx xs (lo+hi - 1 - k) else kx xs k)(n:Ng c xs lo hi):Sg c ys lo hi:=λi j hi' hij hj=>by
 rw[h i,h j,if_pos (by omega),if_pos (by omega)];exact n _ _ (by omega) (by omega) (by omega)
theorem Qge{st:Zb}{lo nr:Nat}{Q:Option Nat->Zb->Prop}(hA:Asks prog w A s κ a₀ c)(hn:lo+nr<=a₀.size)(h1:1<=nr)(hB:SB κ a₀ st)
  (h:∀m st',Fb κ a₀ lo st st'->1<=m->m<=nr->Sg c (arrOf st') lo (lo+m)->Q (some m) st'):wpS (model prog w) A E s (countRun' lo nr) Q st:=by
 rw[countRun'_eq]
 dsimp only
 refine Qi (Qez (lo:=lo) (a:=1) (nr:=nr) hA hn (Ql _) h1 hB (λi j hi hij hj=>by rw[show i=j by omega];exact hA.ord.irr _) λn n1 n2 sg hor=>?_)
 dsimp only
 by_cases zn:n=nr
 ·rw[if_pos (by simpa using zn)];exact Qj (h n st (Fb.refl hB) n1 n2 sg)
 ·rw[if_neg (by simpa using zn)];have hlt:=hor.resolve_left zn;by_cases zg:n > 1
  ·rw[if_pos zg];refine Qi (Qex hA hB (by omega) (by omega) ?_);cases e:c (kx (arrOf st) lo) (kx (arrOf st) (lo+n - 1)) with
   |true=>exact Qj (h n st (Fb.refl hB) n1 n2 sg)
   |false=>
    have all:∀k,lo<=k->k<lo+n->Eqv c (kx (arrOf st) k) (kx (arrOf st) (lo+n - 1)):=λk k1 k2=>
     ⟨sg k (lo+n - 1) k1 (by omega) (by omega),hA.ord.tr e (sg lo k (Ql _) k1 k2)⟩
    dsimp only
    rw[if_neg (by decide)];refine Qi (QbY (Fb.refl hB) (Ql _) (by omega) λst2 f2 km=>?_);have ng2:Ng c (arrOf st2) lo (lo+(n+1)):=by
     refine Eqv.ng hA.ord (xs:=arrOf st) (λk k1 k2=>Qgt hA.ord km all k) (QeQ hA.ord (λi j i1 ij j1=>?_) n1 (hA.ord.lt_le hlt));have a:=all i i1 (by omega);have b:=all j (by omega) j1;exact hA.ord.tr b.1 a.2
    refine Qi (Qd8 (Yj ⟨rfl,?_⟩));refine Qi (Qjp (lo:=lo) (n:=n+1) (nr:=nr) hA hn (by omega) (by omega) f2 (ng2) λm q st' m1 m2 f5 g g1 g2=>?_)
    dsimp only
    by_cases zq:q > 0
    ·rw[if_pos zq];refine Qi (QbY f5 (by omega) (by omega) λst3 f3 km3=>?_);refine Qi (QbY f3 (Ql _) (by omega) λst4 f4 km4=>?_);refine Qi (Qez (lo:=lo) (a:=m) (nr:=nr) hA hn (by omega) m2 f4.sb (Qp6 km4 (Eqv.ng hA.ord (xs:=arrOf st') (λk _ _=>Qgt hA.ord km3 g2 k) g)) λk k1 k2 sg4 _=>Qj (h k st4 f4 (by omega) k2 sg4))
    ·rw[if_neg zq];refine Qi (QbY f5 (Ql _) (by omega) λst4 f4 km4=>?_);refine Qi (Qez (lo:=lo) (a:=m) (nr:=nr) hA hn (by omega) m2 f4.sb (Qp6 km4 (g)) λk k1 k2 sg4 _=>Qj (h k st4 f4 (by omega) k2 sg4))
  ·rw[if_neg zg];have z1:n=1:=by omega
   subst z1;refine Qi (Qd8 (Yj ⟨rfl,?_⟩));refine Qi (Qjp (lo:=lo) (n:=1+1) (nr:=nr) hA hn (by omega) (by omega) (Fb.refl hB) (QeQ hA.ord (λi j i1 ij j1=>by rw[show i=j by omega];exact hA.ord.irr _) n1 (hA.ord.lt_le hlt)) λm q st' m1 m2 f5 g g1 g2=>?_)
   dsimp only
   by_cases zq:q > 0
   ·rw[if_pos zq];refine Qi (QbY f5 (by omega) (by omega) λst3 f3 km3=>?_);refine Qi (QbY f3 (Ql _) (by omega) λst4 f4 km4=>?_);refine Qi (Qez (lo:=lo) (a:=m) (nr:=nr) hA hn (by omega) m2 f4.sb (Qp6 km4 (Eqv.ng hA.ord (xs:=arrOf st') (λk _ _=>Qgt hA.ord km3 g2 k) g)) λk k1 k2 sg4 _=>Qj (h k st4 f4 (by omega) k2 sg4))
   ·rw[if_neg zq];refine Qi (QbY f5 (Ql _) (by omega) λst4 f4 km4=>?_);refine Qi (Qez (lo:=lo) (a:=m) (nr:=nr) hA hn (by omega) m2 f4.sb (Qp6 km4 (g)) λk k1 k2 sg4 _=>Qj (h k st4 f4 (by omega) k2 sg4))
theorem Qnv{xs:Array Keyed}{src d:Nat}(hs:src<xs.size)(hd:d<=src)(k:Nat):kx (bubble xs src d) k=if k=src - d then kx xs src else if src - d<k/\k<=src then kx xs (k - 1) else kx xs k:=by
 have e:=getElem?_bubble hs d hd k
 by_cases h1:k=src - d
 ·rw[if_pos h1] at e ⊢;exact Qi5 e
 ·rw[if_neg h1] at e ⊢;by_cases h2:src - d<k/\k<=src
  ·rw[if_pos h2] at e ⊢;exact Qi5 e
  ·rw[if_neg h2] at e ⊢;exact Qi5 e
theorem Qey{st:Zb}{lo n ok:Nat}{Q:Bool->Zb->Prop}(hA:Asks prog w A s κ a₀ c)(hn:lo+n<=a₀.size)(h1:1<=ok)(hok:ok<=n)(hB:SB κ a₀ st)(sg:Sg c (arrOf st) lo (lo+ok))
  (h:∀st',Fb κ a₀ lo st st'->Sg c (arrOf st') lo (lo+n)->Q true st'):wpS (model prog w) A E s (binarySort' lo n ok) Q st:=by
 rw[binarySort'_eq];refine Qi (Yu (Za (I:=λk z st'=>z=(none,())/\Fb κ a₀ lo st st'/\Sg c (arrOf st') lo (lo+min k n)) (Q:=λz st'=>z=(none,())/\Fb κ a₀ lo st st'/\Sg c (arrOf st') lo (lo+n)) ?step ?fin ⟨rfl,Fb.refl hB,by rw[show min (max ok 1) n=ok by omega];exact sg⟩) ?post)
 case post=>
  rintro z st' ⟨rfl,f,g⟩;exact Qj (h st' f g)
 case fin=>
  rintro z st' ⟨rfl,f,g⟩;rw[show min (max (max ok 1) n) n=n by omega] at g;exact⟨rfl,f,g⟩
 case step=>
  rintro k z st' hak hkn ⟨rfl,f,g⟩;rw[show min k n=k by omega] at g;refine Qi (Yu (Za (I:=λx z st''=>st''=st'/\∃l r,z=(none,l,r)/\l<=r/\r<=k/\r - l<=k - x/\(∀i,i<l->le c (kx (arrOf st') (lo+i)) (kx (arrOf st') (lo+k)))/\(∀i,r<=i->i<k->le c (kx (arrOf st') (lo+k)) (kx (arrOf st') (lo+i))))
   (Q:=λz st''=>st''=st'/\∃l r,z=(none,l,r)/\l<=k/\(∀i,i<l->le c (kx (arrOf st') (lo+i)) (kx (arrOf st') (lo+k)))/\(∀i,l<=i->i<k->le c (kx (arrOf st') (lo+k)) (kx (arrOf st') (lo+i)))) ?istep ?ifin ⟨rfl,0,k,rfl,by omega,by omega,by omega,λi hi=>by omega,λi a b=>by omega⟩) ?ipost)
  case ifin=>
   rintro z st'' ⟨rfl,l,r,rfl,h1,h2,h3,h4,h5⟩;have:l=r:=by omega
   subst this;exact⟨rfl,l,l,rfl,h2,h4,h5⟩
  case istep=>
   rintro x z st'' _ hx ⟨rfl,l,r,rfl,h1,h2,h3,h4,h5⟩
   dsimp only
   by_cases zz:l≥r
   ·rw[if_pos zz];have:l=r:=by omega
    subst this;exact Qj ⟨rfl,l,l,rfl,h2,h4,h5⟩
   ·rw[if_neg zz];refine Qi (Qex hA f.sb (by omega) (by omega) ?_);cases e:c (kx (arrOf st'') (lo+k)) (kx (arrOf st'') (lo+(l+r) / 2)) with
    |true=>exact Qj ⟨rfl,_,_,rfl,by omega,by omega,by omega,h4,λi a b=>hA.ord.tr (hA.ord.lt_le e) (g _ _ (by omega) (by omega) (by omega))⟩
    |false=>exact Qj ⟨rfl,_,_,rfl,by omega,by omega,by omega,λi a=>hA.ord.tr (g (lo+i) (lo+(l+r) / 2) (by omega) (by omega) (by omega)) e,h5⟩
  case ipost=>
   rintro z st'' ⟨rfl,l,r,rfl,h2,h4,h5⟩
   dsimp only
   rw[moveDown'_eq];have hs:lo+k<(arrOf st'').size:=by rw[f.sb.size];omega
   have kb:∀j,kx (bubble (arrOf st'') (lo+k) (lo+k - (lo+l))) j=if j=lo+l then kx (arrOf st'') (lo+k) else if lo+l<j/\j<=lo+k then kx (arrOf st'') (j - 1) else kx (arrOf st'') j:=λj=>by
    rw[Qnv hs (by omega),show lo+k - (lo+k - (lo+l))=lo+l by omega]
   refine Qi (QaD (Qj ⟨rfl,⟨⟨(bubble_perm _ _ _).trans f.sb.perm,f.sb.kind,f.sb.failed⟩,f.pend,λj hj=>?_⟩,λi j hi hij hj=>?_⟩))
   ·show kx (bubble (arrOf st'') (lo+k) (lo+k - (lo+l))) j=_;rw[kb,if_neg (by omega),if_neg (by omega)];exact f.low j hj
   ·show le c (kx (bubble (arrOf st'') (lo+k) (lo+k - (lo+l))) i) (kx (bubble (arrOf st'') (lo+k) (lo+k - (lo+l))) j);rw[kb,kb];have low:∀i,lo<=i->i<lo+l->le c (kx (arrOf st'') i) (kx (arrOf st'') (lo+k)):=λi a b=>by have:=h4 (i - lo) (by omega);rwa [show lo+(i - lo)=i by omega] at this
    have high:∀i,lo+l<=i->i<lo+k->le c (kx (arrOf st'') (lo+k)) (kx (arrOf st'') i):=λi a b=>by have:=h5 (i - lo) (by omega) (by omega);rwa [show lo+(i - lo)=i by omega] at this
    repeat' split
    all_goals first
     |(exfalso;omega)
     |exact hA.ord.irr _
     |exact low _ (by omega) (by omega)
     |exact high _ (by omega) (by omega)
     |exact g _ _ (by omega) (by omega) (by omega)
end
def Yy:Nat->StateT Zb Sem Unit:=sortPriv% PySem.Builtin.setMinGallop
theorem Qd3(g:Nat):Yy g=modify λz=>Qx8 (kindOf z) (arrOf z) (pendingOf z) g (failedOf z):=rfl
def QgI:Array Keyed->Array Keyed->StateT Zb Sem (Array Keyed):=sortPriv% PySem.Builtin.mergeLo
def QgJ:Array Keyed->Array Keyed->StateT Zb Sem (Array Keyed):=sortPriv% PySem.Builtin.mergeHi
theorem QiT(a b:Array Keyed):QgI a b=(do
 rule "list.sort.merge-lo"
 let tot:=a.size+b.size
 let dn (r:Array Keyed) (i j:Nat):=r++a.extract i a.size++b.extract j b.size
 let la (r:Array Keyed) (i j:Nat):=r++b.extract j b.size++a.extract i a.size
 let mut r:Array Keyed:=#[<- elem' b 0]
 let mut i:=0
 let mut j:=1
 if j == b.size then return dn r i j
 if i+1 == a.size then return la r i j
 let mut mg:=gallopOf (<- get)
 for _ in [0:tot] do
  let mut p:=0
  let mut q:=0
  for _ in [0:tot] do
   let some t <- lt' (<- elem' b j) (<- elem' a i) | return dn r i j
   if t then
    r:=r.push (<- elem' b j);j:=j+1;q:=q+1;p:=0
    if j == b.size then return dn r i j
    if q≥mg then break
   else
    r:=r.push (<- elem' a i);i:=i+1;p:=p+1;q:=0
    if i+1 == a.size then return la r i j
    if p≥mg then break
  rule "list.sort.gallop"
  mg:=mg+1
  for _ in [0:tot] do
   if mg > 1 then mg:=mg - 1
   Yy mg
   let some k <- Qb5 false (<- elem' b j) a i (a.size - i) 0 | return dn r i j
   p:=k
   if k > 0 then
    r:=r++a.extract i (i+k);i:=i+k
    if i+1 == a.size then return la r i j
    if i == a.size then return dn r i j
   r:=r.push (<- elem' b j);j:=j+1
   if j == b.size then return dn r i j
   let some k <- Qb5 true (<- elem' a i) b j (b.size - j) 0 | return dn r i j
   q:=k
   if k > 0 then
    r:=r++b.extract j (j+k);j:=j+k
    if j == b.size then return dn r i j
   r:=r.push (<- elem' a i);i:=i+1
   if i+1 == a.size then return la r i j
   if p<7&&q<7 then break
  mg:=mg+1
  Yy mg
 unsupported "internal:list.sort.merge-bound"):=rfl
section
variable{c:Keyed->Keyed->Bool}
abbrev Pw (c:Keyed->Keyed->Bool) (l:List Keyed):Prop:=l.Pairwise (le c)
theorem Qsx{r ch x y:List Keyed}(h1:Pw c (r++(ch++x)))(h2:Pw c (r++y))(h:∀u∈ch,∀v∈y,le c u v):Pw c ((r++ch)++x)/\Pw c ((r++ch)++y):=by
 have h1':Pw c ((r++ch)++x):=by rw[QZ];exact h1
 refine⟨h1',?_⟩;have g:=Jk.mp h1';have g2:=Jk.mp h2;refine Jk.mpr ⟨g.1,g2.2.1,λu hu v hv=>?_⟩;rcases Jm.mp hu with z | z
 ·exact g2.2.2 u z v hv
 ·exact h u z v hv
theorem Qa4{xs:Array Keyed}{i:Nat}(h:i<xs.size):xs.toList[i]? = some (kx xs i):=by rw[ZO];exact Quj h
theorem QnU{xs:Array Keyed}{i:Nat}(h:i<xs.size):xs.toList.drop i=kx xs i::xs.toList.drop (i+1):=by
 have hl:i<xs.toList.length:=by rw[Qo];exact h
 rw[Y8 hl];have:=Qa4 h;rw[Qf hl] at this;rw[Qw this]
theorem QbJ{xs:Array Keyed}{i:Nat}{p:Keyed}(h:p∈xs.toList.drop i):∃k,i<=k/\k<xs.size/\p=kx xs k:=by
 obtain⟨n,hn⟩:=Zd.mp h;rw[QbD] at hn;have hl:=(Qx.mp hn).1;rw[Qo] at hl;rw[Qa4 hl] at hn;exact⟨i+n,by omega,hl,(Qw hn).symm⟩
theorem Qer(xs:Array Keyed)(i k:Nat):(xs.extract i (i+k)).toList=(xs.toList.drop i).take k:=by
 rw[Qa7,Y7,QkA]
theorem QdI(xs:Array Keyed)(i:Nat):(xs.extract i xs.size).toList=xs.toList.drop i:=by
 rw[Qa7,Y7,Ys (by rw[Qad,Qo];exact Ql _)]
theorem QeR{xs:Array Keyed}{i k:Nat}{p:Keyed}(h:p∈(xs.toList.drop i).take k):∃t,t<k/\i+t<xs.size/\p=kx xs (i+t):=by
 obtain⟨n,hn⟩:=Zd.mp h;rw[Qec] at hn;split at hn
 ·rename_i z
  rw[QbD] at hn;have hl:=(Qx.mp hn).1;rw[Qo] at hl;rw[Qa4 hl] at hn;exact⟨n,z,hl,(Qw hn).symm⟩
 ·cases hn
structure MI (c:Keyed->Keyed->Bool) (a b r:Array Keyed) (i j:Nat):Prop where
 ha:Pw c (r.toList++a.toList.drop i)
 hb:Pw c (r.toList++b.toList.drop j)
 pm:(r.toList++(a.toList.drop i++b.toList.drop j)).Perm (a.toList++b.toList)
def Out(c:Keyed->Keyed->Bool)(a b z:Array Keyed):Prop:=Pw c z.toList/\z.toList.Perm (a.toList++b.toList)
variable{a b r:Array Keyed}{i j k:Nat}
theorem MI.chA(m:MI c a b r i j)(h:∀t,t<k->i+t<a.size->∀n,j<=n->n<b.size->le c (kx a (i+t)) (kx b n)):MI c a b (r++a.extract i (i+k)) (i+k) j:=by
 have e:a.toList.drop i=(a.toList.drop i).take k++a.toList.drop (i+k):=by rw[<- Qik,Zc]
 have e2:(r++a.extract i (i+k)).toList=r.toList++(a.toList.drop i).take k:=by rw[JA,Qer]
 have h1:=m.ha;have pm:=m.pm;rw[e] at h1 pm;obtain⟨g1,g2⟩:=Qsx h1 m.hb λu hu v hv=>by
  obtain⟨t,t1,t2,rfl⟩:=QeR hu;obtain⟨n,n1,n2,rfl⟩:=QbJ hv;exact h t t1 t2 n n1 n2
 refine⟨by rw[e2];exact g1,by rw[e2];exact g2,?_⟩;rw[e2,QZ,<- QZ ((a.toList.drop i).take k)];exact pm
theorem MI.chB(m:MI c a b r i j)(h:∀t,t<k->j+t<b.size->∀n,i<=n->n<a.size->le c (kx b (j+t)) (kx a n)):MI c a b (r++b.extract j (j+k)) i (j+k):=by
 have e:b.toList.drop j=(b.toList.drop j).take k++b.toList.drop (j+k):=by rw[<- Qik,Zc]
 have e2:(r++b.extract j (j+k)).toList=r.toList++(b.toList.drop j).take k:=by rw[JA,Qer]
 have h1:=m.hb;have pm:=m.pm;rw[e] at h1 pm;obtain⟨g1,g2⟩:=Qsx h1 m.ha λu hu v hv=>by
  obtain⟨t,t1,t2,rfl⟩:=QeR hu;obtain⟨n,n1,n2,rfl⟩:=QbJ hv;exact h t t1 t2 n n1 n2
 refine⟨by rw[e2];exact g2,by rw[e2];exact g1,?_⟩;rw[e2,QZ];refine QaX (Qaw _ ?_) pm;rw[<- QZ,<- QZ];exact Qan _ QaU
theorem QjO{xs:Array Keyed}{i:Nat}(h:i<xs.size):r.push (kx xs i)=r++xs.extract i (i+1):=by
 apply Qfj.mp
 rw[Qev,JA,Qer,QnU h];rfl
theorem MI.puA(m:MI c a b r i j)(hi:i<a.size)(h:∀n,j<=n->n<b.size->le c (kx a i) (kx b n)):MI c a b (r.push (kx a i)) (i+1) j:=by
 rw[QjO hi];refine m.chA λt t1 t2=>?_
 have:t=0:=by omega
 subst this;exact h
theorem MI.puB(m:MI c a b r i j)(hj:j<b.size)(h:∀n,i<=n->n<a.size->le c (kx b j) (kx a n)):MI c a b (r.push (kx b j)) i (j+1):=by
 rw[QjO hj];refine m.chB λt t1 t2=>?_
 have:t=0:=by omega
 subst this;exact h
theorem MI.dnB(m:MI c a b r i j)(hj:j=b.size):Out c a b (r++a.extract i a.size++b.extract j b.size):=by
 have e:b.toList.drop j=[]:=Yt (by rw[Qo];omega);have e2:(r++a.extract i a.size++b.extract j b.size).toList=r.toList++a.toList.drop i:=by rw[JA,JA,QdI,QdI,e,Je]
 have pm:=m.pm;rw[e,Je] at pm;exact⟨by rw[e2];exact m.ha,by rw[e2];exact pm⟩
theorem MI.dnA(m:MI c a b r i j)(hi:i=a.size):Out c a b (r++a.extract i a.size++b.extract j b.size):=by
 have e:a.toList.drop i=[]:=Yt (by rw[Qo];omega);have e2:(r++a.extract i a.size++b.extract j b.size).toList=r.toList++b.toList.drop j:=by rw[JA,JA,QdI,QdI,e,Je]
 have pm:=m.pm;rw[e,Qbq] at pm;exact⟨by rw[e2];exact m.hb,by rw[e2];exact pm⟩
theorem MI.last(m:MI c a b r i j)(hi:i+1=a.size)(p2:∀k,k<b.size->le c (kx b k) (kx a (a.size - 1))):Out c a b (r++b.extract j b.size++a.extract i a.size):=by
 have e2:(r++b.extract j b.size++a.extract i a.size).toList=(r.toList++b.toList.drop j)++a.toList.drop i:=by rw[JA,JA,QdI,QdI]
 have g:=Jk.mp m.ha;refine⟨by
  rw[e2];refine Jk.mpr ⟨m.hb,g.2.1,λu hu v hv=>?_⟩;rcases Jm.mp hu with z | z
  ·exact g.2.2 u z v hv
  ·obtain⟨n,n1,n2,rfl⟩:=QbJ hv;obtain⟨n',n3,n4,rfl⟩:=QbJ z;rw[show n=a.size - 1 by omega];exact p2 n' n4,?_⟩
 rw[e2,QZ];exact QaX (Qaw _ QaU) m.pm
end
structure Sm (st st':Zb):Prop where
 kind:kindOf st'=kindOf st
 arr:arrOf st'=arrOf st
 pend:pendingOf st'=pendingOf st
 failed:failedOf st'=failedOf st
theorem Sm.refl(st:Zb):Sm st st:=⟨rfl,rfl,rfl,rfl⟩
section
variable{prog:QP}{w:JH}{A:Js}{E:Value->Shared->Prop}{s:Shared}{a₀:Array Keyed}{κ:Yv}{c:Keyed->Keyed->Bool}
theorem Qft{st st0:Zb}{g:Nat}{Q:Unit->Zb->Prop}(m:Sm st0 st)(h:∀st',Sm st0 st'->Q () st'):wpS (model prog w) A E s (Yy g) Q st:=by
 rw[Qd3];exact QaD (h _ ⟨m.kind,m.arr,m.pend,m.failed⟩)
theorem JR{x y:Nat}(h:x≠y):¬((x == y)=true):=λz=>h (beq_iff_eq.mp z)
theorem Qit{st:Zb}{a b:Array Keyed}{Q:Array Keyed->Zb->Prop}(hA:Asks prog w A s κ a₀ c)(hk:kindOf st=κ)(ma:∀p∈a.toList,p∈a₀.toList)(mb:∀p∈b.toList,p∈a₀.toList)(na:1<=a.size)(nb:1<=b.size)
  (sa:Sg c a 0 a.size)(sb:Sg c b 0 b.size)(p1:∀k,k<a.size->le c (kx b 0) (kx a k))(p2:∀k,k<b.size->le c (kx b k) (kx a (a.size - 1)))(h:∀z st',Sm st st'->Out c a b z->Q z st'):wpS (model prog w) A E s (QgI a b) Q st:=by
 have pwl:∀{xs:Array Keyed},Sg c xs 0 xs.size->Pw c xs.toList:=λ{xs} sg=>ZI.mpr λx y hx hy hxy=>by
  rw[Qo] at hx hy;have e1:=Qa4 hx;have e2:=Qa4 hy;rw[Qf (by rw[Qo];exact hx)] at e1;rw[Qf (by rw[Qo];exact hy)] at e2;rw[Qw e1,Qw e2];exact sg x y (QC _) (by omega) hy
 rw[QiT]
 dsimp only
 refine Qi (Qd8 (Yj ⟨rfl,?_⟩));refine Qi (Q8 (by omega) ?_);have m0:MI c a b #[] 0 0:=⟨by rw[ZJ];exact pwl sa,by rw[ZJ];exact pwl sb,by rw[ZJ,ZJ];exact QoA _⟩;have m1:MI c a b #[kx b 0] 0 1:=MI.puB m0 (by omega) λn _ hn=>p1 n hn
 by_cases z1:1=b.size
 ·rw[if_pos (beq_iff_eq.mpr z1)];exact Qj (h _ _ (Sm.refl st) (m1.dnB z1))
 ·rw[if_neg (JR z1)];by_cases z2:0+1=a.size
  ·rw[if_pos (beq_iff_eq.mpr z2)];exact Qj (h _ _ (Sm.refl st) (m1.last z2 p2))
  ·rw[if_neg (JR z2)];refine Qi (Qci ?_);refine Qi (Yu (Za (I:=λx z st'=>∃r i j mg,z=(none,r,i,j,mg)/\MI c a b r i j/\i+1<a.size/\j<b.size/\x+1<=i+j/\Sm st st')
    (Q:=λz st'=>∃o y,z=(some o,y)/\Out c a b o/\Sm st st') ?step ?fin ⟨_,0,1,_,rfl,m1,by omega,by omega,by omega,Sm.refl st⟩) ?post)
   case post=>
    rintro z st' ⟨o,y,rfl,ho,sm⟩;exact Qj (h o st' sm ho)
   case fin=>
    rintro z st' ⟨r,i,j,mg,rfl,m,i1,j1,x1,sm⟩;exfalso
    omega
   case step=>
    rintro x z st' _ hx ⟨r,i,j,mg,rfl,m,i1,j1,x1,sm⟩
    dsimp only
    refine Qi (Yu (Za (I:=λy z st2=>∃r i j p q,z=(none,r,i,j,p,q)/\MI c a b r i j/\i+1<a.size/\j<b.size/\x+1+y<=i+j/\Sm st st2)
     (Q:=λz st2=>(∃o y,z=(some o,y)/\Out c a b o/\Sm st st2)∨∃r i j p q,z=(none,r,i,j,p,q)/\MI c a b r i j/\i+1<a.size/\j<b.size/\x+2<=i+j/\Sm st st2) ?step1 ?fin1 ⟨r,i,j,0,0,rfl,m,i1,j1,by omega,sm⟩) ?post1)
    case fin1=>
     rintro z st2 ⟨r,i,j,p,q,rfl,m,i1,j1,x1,sm⟩;exact .inr ⟨r,i,j,p,q,rfl,m,i1,j1,by omega,sm⟩
    case step1=>
     rintro y z st2 _ hy ⟨r,i,j,p,q,rfl,m,i1,j1,x1,sm⟩
     dsimp only
     refine Qi (Q8 j1 ?_);refine Qi (Q8 (by omega) ?_);refine Qi (Qho hA (sm.kind.trans hk) (mb _ (QeS j1)) (ma _ (QeS (by omega))) ?_);cases e:c (kx b j) (kx a i) with
     |true=>
      dsimp only
      rw[if_pos rfl];refine Qi (Q8 j1 ?_);have m2:=MI.puB m j1 λn n1 n2=>hA.ord.tr (hA.ord.lt_le e) (sa i n (QC _) n1 n2)
      by_cases z3:j+1=b.size
      ·rw[if_pos (beq_iff_eq.mpr z3)];exact Qj (.inl ⟨_,_,rfl,m2.dnB z3,sm⟩)
      ·rw[if_neg (JR z3)];split
       ·exact Qj (.inr ⟨_,_,_,_,_,rfl,m2,by omega,by omega,by omega,sm⟩)
       ·exact Qj ⟨_,_,_,_,_,rfl,m2,by omega,by omega,by omega,sm⟩
     |false=>
      dsimp only
      rw[if_neg (by decide)];refine Qi (Q8 (by omega) ?_);have m2:=MI.puA m (by omega) λn n1 n2=>hA.ord.tr e (sb j n (QC _) n1 n2)
      by_cases z3:i+1+1=a.size
      ·rw[if_pos (beq_iff_eq.mpr z3)];exact Qj (.inl ⟨_,_,rfl,m2.last z3 p2,sm⟩)
      ·rw[if_neg (JR z3)];split
       ·exact Qj (.inr ⟨_,_,_,_,_,rfl,m2,by omega,by omega,by omega,sm⟩)
       ·exact Qj ⟨_,_,_,_,_,rfl,m2,by omega,by omega,by omega,sm⟩
    case post1=>
     rintro z st2 (⟨o,y,rfl,ho,sm⟩ | ⟨r,i,j,p,q,rfl,m,i1,j1,x1,sm⟩)
     ·exact Qj ⟨o,_,rfl,ho,sm⟩
     ·dsimp only
      refine Qi (Qd8 (Yj ⟨rfl,?_⟩));refine Qi (Yu (Za (I:=λy z st3=>∃r i j mg p q,z=(none,r,i,j,mg,p,q)/\MI c a b r i j/\i+1<a.size/\j<b.size/\x+2<=i+j/\Sm st st3)
       (Q:=λz st3=>(∃o y,z=(some o,y)/\Out c a b o/\Sm st st3)∨∃r i j mg p q,z=(none,r,i,j,mg,p,q)/\MI c a b r i j/\i+1<a.size/\j<b.size/\x+2<=i+j/\Sm st st3) ?step2 ?fin2 ⟨r,i,j,_,p,q,rfl,m,i1,j1,by omega,sm⟩) ?post2)
      case fin2=>
       rintro z st3 ⟨r,i,j,mg,p,q,rfl,m,i1,j1,x1,sm⟩;exact .inr ⟨r,i,j,mg,p,q,rfl,m,i1,j1,by omega,sm⟩
      case post2=>
       rintro z st3 (⟨o,y,rfl,ho,sm⟩ | ⟨r,i,j,mg,p,q,rfl,m,i1,j1,x1,sm⟩)
       ·exact Qj ⟨o,_,rfl,ho,sm⟩
       ·dsimp only
        exact Qi (Qft sm λst4 sm4=>Qj ⟨_,_,_,_,rfl,m,i1,j1,by omega,sm4⟩)
      case step2=>
       rintro y z st3 _ hy ⟨r,i,j,mg,p,q,rfl,m,i1,j1,x1,sm⟩
       dsimp only
       by_cases z0:mg > 1
       ·rw[if_pos z0];refine Qi (Qft sm λst4 sm4=>?_);refine Qi (Q8 (by omega) ?_);refine Qi (ZL hA (sm4.kind.trans hk) (mb _ (QeS (by omega))) ma (by omega) (by omega) (λx y x1 xy y1=>sa x y (QC _) xy (by omega)) λk kn b1 b2=>?_);have b1:∀t,t<k->(!c (kx b j) (kx a (i+t)))=true:=λt ht=>b1 t ht
        have b2:∀t,k<=t->t<a.size - i->(!c (kx b j) (kx a (i+t)))=false:=λt h1 h2=>b2 t h1 h2
        dsimp only
        have hB1:∀n,i+k<=n->n<a.size->le c (kx b j) (kx a n):=λn n1 n2=>by
         have:=b2 (n - i) (by omega) (by omega);rw[show i+(n - i)=n by omega] at this;exact hA.ord.lt_le (by simpa using this)
        by_cases zk:k > 0
        ·rw[if_pos zk];have m2:=MI.chA (k:=k) m λt t1 t2 n n1 n2=>by
          have:=b1 t t1;exact hA.ord.tr (show le c (kx a (i+t)) (kx b j) by simpa using this) (sb j n (QC _) n1 n2)
         by_cases z2:i+k+1=a.size
         ·rw[if_pos (beq_iff_eq.mpr z2)];exact Qj (.inl ⟨_,_,rfl,m2.last z2 p2,sm4⟩)
         ·rw[if_neg (JR z2)];by_cases z3:i+k=a.size
          ·rw[if_pos (beq_iff_eq.mpr z3)];exact Qj (.inl ⟨_,_,rfl,m2.dnA z3,sm4⟩)
          ·rw[if_neg (JR z3)];refine Qi (Q8 (by omega) ?_);have m5:=MI.puB m2 (by omega) hB1;by_cases z5:j+1=b.size
           ·rw[if_pos (beq_iff_eq.mpr z5)];exact Qj (.inl ⟨_,_,rfl,m5.dnB z5,sm4⟩)
           ·rw[if_neg (JR z5)];refine Qi (Q8 (by omega) ?_);refine Qi (ZL hA (sm4.kind.trans hk) (ma _ (QeS (by omega))) mb (by omega) (by omega) (λx y x1 xy y1=>sb x y (QC _) xy (by omega)) λk2 k2n b1 b2=>?_);have b1:∀t,t<k2->c (kx b (j+1+t)) (kx a (i+k))=true:=λt ht=>b1 t ht
            have b2:∀t,k2<=t->t<b.size - (j+1)->c (kx b (j+1+t)) (kx a (i+k))=false:=λt h1 h2=>b2 t h1 h2
            dsimp only
            have gA:∀n,j+1+k2<=n->n<b.size->le c (kx a (i+k)) (kx b n):=λn n1 n2=>by have:=b2 (n - (j+1)) (by omega) (by omega);rwa [show j+1+(n - (j+1))=n by omega] at this
            by_cases zk2:k2 > 0
            ·rw[if_pos zk2];have m6:=MI.chB (k:=k2) m5 λt t1 t2 n n1 n2=>hA.ord.tr (hA.ord.lt_le (b1 t t1)) (sa (i+k) n (QC _) n1 n2)
             by_cases z6:j+1+k2=b.size
             ·rw[if_pos (beq_iff_eq.mpr z6)];exact Qj (.inl ⟨_,_,rfl,m6.dnB z6,sm4⟩)
             ·rw[if_neg (JR z6)];refine Qi (Q8 (by omega) ?_);have m9:=MI.puA m6 (by omega) gA;by_cases z9:i+k+1+1=a.size
              ·rw[if_pos (beq_iff_eq.mpr z9)];exact Qj (.inl ⟨_,_,rfl,m9.last z9 p2,sm4⟩)
              ·rw[if_neg (JR z9)];split
               ·exact Qj (.inr ⟨_,_,_,_,_,_,rfl,m9,by omega,by omega,by omega,sm4⟩)
               ·exact Qj ⟨_,_,_,_,_,_,rfl,m9,by omega,by omega,by omega,sm4⟩
            ·rw[if_neg zk2];have zk2:k2=0:=by omega
             subst zk2;refine Qi (Q8 (by omega) ?_);have m9:=MI.puA m5 (by omega) gA;by_cases z9:i+k+1+1=a.size
             ·rw[if_pos (beq_iff_eq.mpr z9)];exact Qj (.inl ⟨_,_,rfl,m9.last z9 p2,sm4⟩)
             ·rw[if_neg (JR z9)];split
              ·exact Qj (.inr ⟨_,_,_,_,_,_,rfl,m9,by omega,by omega,by omega,sm4⟩)
              ·exact Qj ⟨_,_,_,_,_,_,rfl,m9,by omega,by omega,by omega,sm4⟩
        ·rw[if_neg zk];have zk:k=0:=by omega
         subst zk;refine Qi (Q8 (by omega) ?_);have m5:=MI.puB m (by omega) hB1;by_cases z5:j+1=b.size
         ·rw[if_pos (beq_iff_eq.mpr z5)];exact Qj (.inl ⟨_,_,rfl,m5.dnB z5,sm4⟩)
         ·rw[if_neg (JR z5)];refine Qi (Q8 (by omega) ?_);refine Qi (ZL hA (sm4.kind.trans hk) (ma _ (QeS (by omega))) mb (by omega) (by omega) (λx y x1 xy y1=>sb x y (QC _) xy (by omega)) λk2 k2n b1 b2=>?_);have b1:∀t,t<k2->c (kx b (j+1+t)) (kx a (i))=true:=λt ht=>b1 t ht
          have b2:∀t,k2<=t->t<b.size - (j+1)->c (kx b (j+1+t)) (kx a (i))=false:=λt h1 h2=>b2 t h1 h2
          dsimp only
          have gA:∀n,j+1+k2<=n->n<b.size->le c (kx a (i)) (kx b n):=λn n1 n2=>by have:=b2 (n - (j+1)) (by omega) (by omega);rwa [show j+1+(n - (j+1))=n by omega] at this
          by_cases zk2:k2 > 0
          ·rw[if_pos zk2];have m6:=MI.chB (k:=k2) m5 λt t1 t2 n n1 n2=>hA.ord.tr (hA.ord.lt_le (b1 t t1)) (sa (i) n (QC _) n1 n2)
           by_cases z6:j+1+k2=b.size
           ·rw[if_pos (beq_iff_eq.mpr z6)];exact Qj (.inl ⟨_,_,rfl,m6.dnB z6,sm4⟩)
           ·rw[if_neg (JR z6)];refine Qi (Q8 (by omega) ?_);have m9:=MI.puA m6 (by omega) gA;by_cases z9:i+1+1=a.size
            ·rw[if_pos (beq_iff_eq.mpr z9)];exact Qj (.inl ⟨_,_,rfl,m9.last z9 p2,sm4⟩)
            ·rw[if_neg (JR z9)];split
             ·exact Qj (.inr ⟨_,_,_,_,_,_,rfl,m9,by omega,by omega,by omega,sm4⟩)
             ·exact Qj ⟨_,_,_,_,_,_,rfl,m9,by omega,by omega,by omega,sm4⟩
          ·rw[if_neg zk2];have zk2:k2=0:=by omega
           subst zk2;refine Qi (Q8 (by omega) ?_);have m9:=MI.puA m5 (by omega) gA;by_cases z9:i+1+1=a.size
           ·rw[if_pos (beq_iff_eq.mpr z9)];exact Qj (.inl ⟨_,_,rfl,m9.last z9 p2,sm4⟩)
           ·rw[if_neg (JR z9)];split
            ·exact Qj (.inr ⟨_,_,_,_,_,_,rfl,m9,by omega,by omega,by omega,sm4⟩)
            ·exact Qj ⟨_,_,_,_,_,_,rfl,m9,by omega,by omega,by omega,sm4⟩
       ·rw[if_neg z0];refine Qi (Qft sm λst4 sm4=>?_);refine Qi (Q8 (by omega) ?_);refine Qi (ZL hA (sm4.kind.trans hk) (mb _ (QeS (by omega))) ma (by omega) (by omega) (λx y x1 xy y1=>sa x y (QC _) xy (by omega)) λk kn b1 b2=>?_);have b1:∀t,t<k->(!c (kx b j) (kx a (i+t)))=true:=λt ht=>b1 t ht
        have b2:∀t,k<=t->t<a.size - i->(!c (kx b j) (kx a (i+t)))=false:=λt h1 h2=>b2 t h1 h2
        dsimp only
        have hB1:∀n,i+k<=n->n<a.size->le c (kx b j) (kx a n):=λn n1 n2=>by
         have:=b2 (n - i) (by omega) (by omega);rw[show i+(n - i)=n by omega] at this;exact hA.ord.lt_le (by simpa using this)
        by_cases zk:k > 0
        ·rw[if_pos zk];have m2:=MI.chA (k:=k) m λt t1 t2 n n1 n2=>by
          have:=b1 t t1;exact hA.ord.tr (show le c (kx a (i+t)) (kx b j) by simpa using this) (sb j n (QC _) n1 n2)
         by_cases z2:i+k+1=a.size
         ·rw[if_pos (beq_iff_eq.mpr z2)];exact Qj (.inl ⟨_,_,rfl,m2.last z2 p2,sm4⟩)
         ·rw[if_neg (JR z2)];by_cases z3:i+k=a.size
          ·rw[if_pos (beq_iff_eq.mpr z3)];exact Qj (.inl ⟨_,_,rfl,m2.dnA z3,sm4⟩)
          ·rw[if_neg (JR z3)];refine Qi (Q8 (by omega) ?_);have m5:=MI.puB m2 (by omega) hB1;by_cases z5:j+1=b.size
           ·rw[if_pos (beq_iff_eq.mpr z5)];exact Qj (.inl ⟨_,_,rfl,m5.dnB z5,sm4⟩)
           ·rw[if_neg (JR z5)];refine Qi (Q8 (by omega) ?_);refine Qi (ZL hA (sm4.kind.trans hk) (ma _ (QeS (by omega))) mb (by omega) (by omega) (λx y x1 xy y1=>sb x y (QC _) xy (by omega)) λk2 k2n b1 b2=>?_);have b1:∀t,t<k2->c (kx b (j+1+t)) (kx a (i+k))=true:=λt ht=>b1 t ht
            have b2:∀t,k2<=t->t<b.size - (j+1)->c (kx b (j+1+t)) (kx a (i+k))=false:=λt h1 h2=>b2 t h1 h2
            dsimp only
            have gA:∀n,j+1+k2<=n->n<b.size->le c (kx a (i+k)) (kx b n):=λn n1 n2=>by have:=b2 (n - (j+1)) (by omega) (by omega);rwa [show j+1+(n - (j+1))=n by omega] at this
            by_cases zk2:k2 > 0
            ·rw[if_pos zk2];have m6:=MI.chB (k:=k2) m5 λt t1 t2 n n1 n2=>hA.ord.tr (hA.ord.lt_le (b1 t t1)) (sa (i+k) n (QC _) n1 n2)
             by_cases z6:j+1+k2=b.size
             ·rw[if_pos (beq_iff_eq.mpr z6)];exact Qj (.inl ⟨_,_,rfl,m6.dnB z6,sm4⟩)
             ·rw[if_neg (JR z6)];refine Qi (Q8 (by omega) ?_);have m9:=MI.puA m6 (by omega) gA;by_cases z9:i+k+1+1=a.size
              ·rw[if_pos (beq_iff_eq.mpr z9)];exact Qj (.inl ⟨_,_,rfl,m9.last z9 p2,sm4⟩)
              ·rw[if_neg (JR z9)];split
               ·exact Qj (.inr ⟨_,_,_,_,_,_,rfl,m9,by omega,by omega,by omega,sm4⟩)
               ·exact Qj ⟨_,_,_,_,_,_,rfl,m9,by omega,by omega,by omega,sm4⟩
            ·rw[if_neg zk2];have zk2:k2=0:=by omega
             subst zk2;refine Qi (Q8 (by omega) ?_);have m9:=MI.puA m5 (by omega) gA;by_cases z9:i+k+1+1=a.size
             ·rw[if_pos (beq_iff_eq.mpr z9)];exact Qj (.inl ⟨_,_,rfl,m9.last z9 p2,sm4⟩)
             ·rw[if_neg (JR z9)];split
              ·exact Qj (.inr ⟨_,_,_,_,_,_,rfl,m9,by omega,by omega,by omega,sm4⟩)
              ·exact Qj ⟨_,_,_,_,_,_,rfl,m9,by omega,by omega,by omega,sm4⟩
        ·rw[if_neg zk];have zk:k=0:=by omega
         subst zk;refine Qi (Q8 (by omega) ?_);have m5:=MI.puB m (by omega) hB1;by_cases z5:j+1=b.size
         ·rw[if_pos (beq_iff_eq.mpr z5)];exact Qj (.inl ⟨_,_,rfl,m5.dnB z5,sm4⟩)
         ·rw[if_neg (JR z5)];refine Qi (Q8 (by omega) ?_);refine Qi (ZL hA (sm4.kind.trans hk) (ma _ (QeS (by omega))) mb (by omega) (by omega) (λx y x1 xy y1=>sb x y (QC _) xy (by omega)) λk2 k2n b1 b2=>?_);have b1:∀t,t<k2->c (kx b (j+1+t)) (kx a (i))=true:=λt ht=>b1 t ht
          have b2:∀t,k2<=t->t<b.size - (j+1)->c (kx b (j+1+t)) (kx a (i))=false:=λt h1 h2=>b2 t h1 h2
          dsimp only
          have gA:∀n,j+1+k2<=n->n<b.size->le c (kx a (i)) (kx b n):=λn n1 n2=>by have:=b2 (n - (j+1)) (by omega) (by omega);rwa [show j+1+(n - (j+1))=n by omega] at this
          by_cases zk2:k2 > 0
          ·rw[if_pos zk2];have m6:=MI.chB (k:=k2) m5 λt t1 t2 n n1 n2=>hA.ord.tr (hA.ord.lt_le (b1 t t1)) (sa (i) n (QC _) n1 n2)
           by_cases z6:j+1+k2=b.size
           ·rw[if_pos (beq_iff_eq.mpr z6)];exact Qj (.inl ⟨_,_,rfl,m6.dnB z6,sm4⟩)
           ·rw[if_neg (JR z6)];refine Qi (Q8 (by omega) ?_);have m9:=MI.puA m6 (by omega) gA;by_cases z9:i+1+1=a.size
            ·rw[if_pos (beq_iff_eq.mpr z9)];exact Qj (.inl ⟨_,_,rfl,m9.last z9 p2,sm4⟩)
            ·rw[if_neg (JR z9)];split
             ·exact Qj (.inr ⟨_,_,_,_,_,_,rfl,m9,by omega,by omega,by omega,sm4⟩)
             ·exact Qj ⟨_,_,_,_,_,_,rfl,m9,by omega,by omega,by omega,sm4⟩
          ·rw[if_neg zk2];have zk2:k2=0:=by omega
           subst zk2;refine Qi (Q8 (by omega) ?_);have m9:=MI.puA m5 (by omega) gA;by_cases z9:i+1+1=a.size
           ·rw[if_pos (beq_iff_eq.mpr z9)];exact Qj (.inl ⟨_,_,rfl,m9.last z9 p2,sm4⟩)
           ·rw[if_neg (JR z9)];split
            ·exact Qj (.inr ⟨_,_,_,_,_,_,rfl,m9,by omega,by omega,by omega,sm4⟩)
            ·exact Qj ⟨_,_,_,_,_,_,rfl,m9,by omega,by omega,by omega,sm4⟩
end
theorem QiU(a b:Array Keyed):QgJ a b=(do
 rule "list.sort.merge-hi"
 let tot:=a.size+b.size
 let dn (r:Array Keyed) (i j:Nat):=a.extract 0 i++b.extract 0 j++r.reverse
 let fb (r:Array Keyed) (i j:Nat):=b.extract 0 j++a.extract 0 i++r.reverse
 let mut i:=a.size - 1
 let mut j:=b.size
 let mut r:Array Keyed:=#[<- elem' a i]
 if i == 0 then return dn r i j
 if j == 1 then return fb r i j
 let mut mg:=gallopOf (<- get)
 for _ in [0:tot] do
  let mut p:=0
  let mut q:=0
  for _ in [0:tot] do
   let some t <- lt' (<- elem' b (j - 1)) (<- elem' a (i - 1)) | return dn r i j
   if t then
    i:=i - 1;r:=r.push (<- elem' a i);p:=p+1;q:=0
    if i == 0 then return dn r i j
    if p≥mg then break
   else
    j:=j - 1;r:=r.push (<- elem' b j);q:=q+1;p:=0
    if j == 1 then return fb r i j
    if q≥mg then break
  rule "list.sort.gallop"
  mg:=mg+1
  for _ in [0:tot] do
   if mg > 1 then mg:=mg - 1
   Yy mg
   let some t <- Qb5 false (<- elem' b (j - 1)) a 0 i (i - 1) | return dn r i j
   let k:=i - t
   p:=k
   if k > 0 then
    r:=r++(a.extract t i).reverse;i:=t
    if i == 0 then return dn r i j
   j:=j - 1;r:=r.push (<- elem' b j)
   if j == 1 then return fb r i j
   let some t <- Qb5 true (<- elem' a (i - 1)) b 0 j (j - 1) | return dn r i j
   let k:=j - t
   q:=k
   if k > 0 then
    r:=r++(b.extract t j).reverse;j:=t
    if j == 1 then return fb r i j
    if j == 0 then return dn r i j
   i:=i - 1;r:=r.push (<- elem' a i)
   if i == 0 then return dn r i j
   if p<7&&q<7 then break
  mg:=mg+1
  Yy mg
 unsupported "internal:list.sort.merge-bound"):=rfl
section
variable{c:Keyed->Keyed->Bool}
theorem Qsw{r ch x y:List Keyed}(h1:Pw c ((x++ch)++r))(h2:Pw c (y++r))(h:∀u∈y,∀v∈ch,le c u v):Pw c (x++(ch++r))/\Pw c (y++(ch++r)):=by
 have h1':Pw c (x++(ch++r)):=by rw[<- QZ];exact h1
 refine⟨h1',?_⟩;have g:=Jk.mp h1';have g2:=Jk.mp h2;refine Jk.mpr ⟨g2.1,g.2.1,λu hu v hv=>?_⟩;rcases Jm.mp hv with z | z
 ·exact h u hu v z
 ·exact g2.2.2 u hu v z
theorem Qka(xs:Array Keyed)(i:Nat):(xs.extract 0 i).toList=xs.toList.take i:=by
 rw[Qa7,Y7,QlK,ZJ]
theorem Qa5(xs:Array Keyed)(t i:Nat):(xs.extract t i).toList=(xs.toList.take i).drop t:=by
 rw[Qa7,Y7,List.take_drop];by_cases z:t<=i
 ·rw[show t+(i - t)=i by omega]
 ·rw[show i - t=0 by omega,Qfq,Yt (by rw[Zi];omega),Yt (by rw[Zi];omega)]
theorem Y3{xs:Array Keyed}{t i:Nat}{p:Keyed}(h:p∈(xs.toList.take i).drop t):∃n,t<=n/\n<i/\n<xs.size/\p=kx xs n:=by
 obtain⟨n,hn⟩:=Zd.mp h;rw[QbD,Qec] at hn;split at hn
 ·rename_i z
  have hl:=(Qx.mp hn).1;rw[Qo] at hl;rw[Qa4 hl] at hn;exact⟨t+n,by omega,z,hl,(Qw hn).symm⟩
 ·cases hn
structure MH (c:Keyed->Keyed->Bool) (a b r:Array Keyed) (i j:Nat):Prop where
 ha:Pw c (a.toList.take i++r.toList.reverse)
 hb:Pw c (b.toList.take j++r.toList.reverse)
 pm:((a.toList.take i++b.toList.take j)++r.toList.reverse).Perm (a.toList++b.toList)
variable{a b r:Array Keyed}{i j t:Nat}
theorem Qdq(r x:Array Keyed):(r++x.reverse).toList.reverse=x.toList++r.toList.reverse:=by
 rw[JA,QcU,List.reverse_append,List.reverse_reverse]
theorem MH.chA(m:MH c a b r i j)(ht:t<=i)(h:∀n,t<=n->n<i->n<a.size->∀k,k<j->k<b.size->le c (kx b k) (kx a n)):MH c a b (r++(a.extract t i).reverse) t j:=by
 have e:a.toList.take i=a.toList.take t++(a.toList.take i).drop t:=by
  have:=(Zc t (a.toList.take i)).symm
  rwa [Qdf,YH ht] at this
 have h1:=m.ha;have pm:=m.pm;rw[e] at h1 pm;obtain⟨g1,g2⟩:=Qsw h1 m.hb λu hu v hv=>by
  obtain⟨n,n1,n2,n3,rfl⟩:=Y3 hv;obtain⟨k,_,k2,k3,rfl⟩:=Y3 (t:=0) (by rw[ZJ];exact hu);exact h n n1 n2 n3 k k2 k3
 refine⟨by rw[Qdq,Qa5];exact g1,by rw[Qdq,Qa5];exact g2,?_⟩;rw[Qdq,Qa5];refine QaX ?_ pm
 rw[<- QZ];refine Qan _ ?_
 rw[QZ,QZ];exact Qaw _ QaU
theorem MH.chB(m:MH c a b r i j)(ht:t<=j)(h:∀n,t<=n->n<j->n<b.size->∀k,k<i->k<a.size->le c (kx a k) (kx b n)):MH c a b (r++(b.extract t j).reverse) i t:=by
 have e:b.toList.take j=b.toList.take t++(b.toList.take j).drop t:=by
  have:=(Zc t (b.toList.take j)).symm
  rwa [Qdf,YH ht] at this
 have h1:=m.hb;have pm:=m.pm;rw[e] at h1 pm;obtain⟨g1,g2⟩:=Qsw h1 m.ha λu hu v hv=>by
  obtain⟨n,n1,n2,n3,rfl⟩:=Y3 hv;obtain⟨k,_,k2,k3,rfl⟩:=Y3 (t:=0) (by rw[ZJ];exact hu);exact h n n1 n2 n3 k k2 k3
 refine⟨by rw[Qdq,Qa5];exact g2,by rw[Qdq,Qa5];exact g1,?_⟩;rw[Qdq,Qa5];refine QaX ?_ pm
 rw[<- QZ,QZ (a.toList.take i)]
theorem QjN{xs:Array Keyed}{i:Nat}(h1:1<=i)(h:i<=xs.size):r.push (kx xs (i - 1))=r++(xs.extract (i - 1) i).reverse:=by
 apply Qfj.mp
 have e:=Qer xs (i - 1) 1;rw[show i - 1+1=i by omega] at e;rw[Qev,JA,QcU,e,QnU (by omega)];rfl
theorem MH.puA(m:MH c a b r i j)(h1:1<=i)(hi:i<=a.size)(h:∀k,k<j->k<b.size->le c (kx b k) (kx a (i - 1))):MH c a b (r.push (kx a (i - 1))) (i - 1) j:=by
 rw[QjN h1 hi];refine m.chA (by omega) λn n1 n2 _=>?_
 rw[show n=i - 1 by omega];exact h
theorem MH.puB(m:MH c a b r i j)(h1:1<=j)(hj:j<=b.size)(h:∀k,k<i->k<a.size->le c (kx a k) (kx b (j - 1))):MH c a b (r.push (kx b (j - 1))) i (j - 1):=by
 rw[QjN h1 hj];refine m.chB (by omega) λn n1 n2 _=>?_
 rw[show n=j - 1 by omega];exact h
theorem Qcd(x y r:Array Keyed)(i j:Nat):(x.extract 0 i++y.extract 0 j++r.reverse).toList=(x.toList.take i++y.toList.take j)++r.toList.reverse:=by
 rw[JA,JA,Qka,Qka,QcU]
theorem MH.dnA(m:MH c a b r i j)(hi:i=0):Out c a b (a.extract 0 i++b.extract 0 j++r.reverse):=by
 have pm:=m.pm;subst hi;refine⟨?_,by rw[Qcd];exact pm⟩;rw[Qcd,Qu5,Qbq];exact m.hb
theorem MH.dnB(m:MH c a b r i j)(hj:j=0):Out c a b (a.extract 0 i++b.extract 0 j++r.reverse):=by
 have pm:=m.pm;subst hj;refine⟨?_,by rw[Qcd];exact pm⟩;rw[Qcd,Qu5,Je];exact m.ha
theorem MH.fb(m:MH c a b r i j)(hj:j=1)(p1:∀k,k<a.size->le c (kx b 0) (kx a k)):Out c a b (b.extract 0 j++a.extract 0 i++r.reverse):=by
 refine⟨?_,?_⟩
 ·rw[Qcd];have g:=Jk.mp m.hb;rw[QZ];refine Jk.mpr ⟨g.1,m.ha,λu hu v hv=>?_⟩;rcases Jm.mp hv with z | z
  ·obtain⟨k,_,k2,k3,rfl⟩:=Y3 (t:=0) (by rw[ZJ];exact hu);obtain⟨n,_,n2,n3,rfl⟩:=Y3 (t:=0) (by rw[ZJ];exact z);rw[show k=0 by omega];exact p1 n n3
  ·exact g.2.2 u hu v z
 ·rw[Qcd];exact QaX (Qan _ QaU) m.pm
end
section
variable{prog:QP}{w:JH}{A:Js}{E:Value->Shared->Prop}{s:Shared}{a₀:Array Keyed}{κ:Yv}{c:Keyed->Keyed->Bool}
theorem QjM{xs:Array Keyed}(sg:Sg c xs 0 xs.size):Pw c xs.toList:=ZI.mpr λx y hx hy hxy=>by
 rw[Qo] at hx hy;have e1:=Qa4 hx;have e2:=Qa4 hy;rw[Qf (by rw[Qo];exact hx)] at e1;rw[Qf (by rw[Qo];exact hy)] at e2;rw[Qw e1,Qw e2];exact sg x y (QC _) (by omega) hy
theorem Qiu{st:Zb}{a b:Array Keyed}{Q:Array Keyed->Zb->Prop}(hA:Asks prog w A s κ a₀ c)(hk:kindOf st=κ)(ma:∀p∈a.toList,p∈a₀.toList)(mb:∀p∈b.toList,p∈a₀.toList)(na:1<=a.size)(nb:1<=b.size)
  (sa:Sg c a 0 a.size)(sb:Sg c b 0 b.size)(p1:∀k,k<a.size->le c (kx b 0) (kx a k))(p2:∀k,k<b.size->le c (kx b k) (kx a (a.size - 1)))(h:∀z st',Sm st st'->Out c a b z->Q z st'):wpS (model prog w) A E s (QgJ a b) Q st:=by
 rw[QiU]
 dsimp only
 refine Qi (Qd8 (Yj ⟨rfl,?_⟩));refine Qi (Q8 (by omega) ?_);have tk:∀xs:Array Keyed,xs.toList.take xs.size=xs.toList:=λxs=>Ys (by rw[Qo];exact Ql _)
 have m0:MH c a b #[] a.size b.size:=⟨by rw[tk];show Pw c (a.toList++[]);rw[Je];exact QjM sa,by rw[tk];show Pw c (b.toList++[]);rw[Je];exact QjM sb,by rw[tk,tk];show((a.toList++b.toList)++[]).Perm _;rw[Je]⟩;have m1:MH c a b #[kx a (a.size - 1)] (a.size - 1) b.size:=MH.puA m0 na (Ql _) λk _ hk=>p2 k hk
 by_cases z1:a.size - 1=0
 ·rw[if_pos (beq_iff_eq.mpr z1)];exact Qj (h _ _ (Sm.refl st) (m1.dnA z1))
 ·rw[if_neg (JR z1)];by_cases z2:b.size=1
  ·rw[if_pos (beq_iff_eq.mpr z2)];exact Qj (h _ _ (Sm.refl st) (m1.fb z2 p1))
  ·rw[if_neg (JR z2)];refine Qi (Qci ?_);refine Qi (Yu (Za (I:=λx z st'=>∃r i j mg,z=(none,i,j,r,mg)/\MH c a b r i j/\1<=i/\i<=a.size/\2<=j/\j<=b.size/\x+1+i+j<=a.size+b.size/\Sm st st')
    (Q:=λz st'=>∃o y,z=(some o,y)/\Out c a b o/\Sm st st') ?step ?fin ⟨_,_,_,_,rfl,m1,by omega,by omega,by omega,by omega,by omega,Sm.refl st⟩) ?post)
   case post=>
    rintro z st' ⟨o,y,rfl,ho,sm⟩;exact Qj (h o st' sm ho)
   case fin=>
    rintro z st' ⟨r,i,j,mg,rfl,m,i1,i2,j1,j2,x1,sm⟩;exfalso
    omega
   case step=>
    rintro x z st' _ hx ⟨r,i,j,mg,rfl,m,i1,i2,j1,j2,x1,sm⟩
    dsimp only
    refine Qi (Yu (Za (I:=λy z st2=>∃r i j p q,z=(none,i,j,r,p,q)/\MH c a b r i j/\1<=i/\i<=a.size/\2<=j/\j<=b.size/\x+1+y+i+j<=a.size+b.size/\Sm st st2)
     (Q:=λz st2=>(∃o y,z=(some o,y)/\Out c a b o/\Sm st st2)∨∃r i j p q,z=(none,i,j,r,p,q)/\MH c a b r i j/\1<=i/\i<=a.size/\2<=j/\j<=b.size/\x+2+i+j<=a.size+b.size/\Sm st st2) ?step1 ?fin1 ⟨r,i,j,0,0,rfl,m,i1,i2,j1,j2,by omega,sm⟩) ?post1)
    case fin1=>
     rintro z st2 ⟨r,i,j,p,q,rfl,m,i1,i2,j1,j2,x1,sm⟩;exact .inr ⟨r,i,j,p,q,rfl,m,i1,i2,j1,j2,by omega,sm⟩
    case step1=>
     rintro y z st2 _ hy ⟨r,i,j,p,q,rfl,m,i1,i2,j1,j2,x1,sm⟩
     dsimp only
     refine Qi (Q8 (by omega) ?_);refine Qi (Q8 (by omega) ?_);refine Qi (Qho hA (sm.kind.trans hk) (mb _ (QeS (by omega))) (ma _ (QeS (by omega))) ?_);cases e:c (kx b (j - 1)) (kx a (i - 1)) with
     |true=>
      dsimp only
      rw[if_pos rfl];refine Qi (Q8 (by omega) ?_);have m2:=MH.puA m i1 i2 λk k1 k2=>hA.ord.tr (sb k (j - 1) (QC _) (by omega) (by omega)) (hA.ord.lt_le e)
      by_cases z3:i - 1=0
      ·rw[if_pos (beq_iff_eq.mpr z3)];exact Qj (.inl ⟨_,_,rfl,m2.dnA z3,sm⟩)
      ·rw[if_neg (JR z3)];split
       ·exact Qj (.inr ⟨_,_,_,_,_,rfl,m2,by omega,by omega,by omega,by omega,by omega,sm⟩)
       ·exact Qj ⟨_,_,_,_,_,rfl,m2,by omega,by omega,by omega,by omega,by omega,sm⟩
     |false=>
      dsimp only
      rw[if_neg (by decide)];refine Qi (Q8 (by omega) ?_);have m2:=MH.puB m (by omega) j2 λk k1 k2=>hA.ord.tr (sa k (i - 1) (QC _) (by omega) (by omega)) e
      by_cases z3:j - 1=1
      ·rw[if_pos (beq_iff_eq.mpr z3)];exact Qj (.inl ⟨_,_,rfl,m2.fb z3 p1,sm⟩)
      ·rw[if_neg (JR z3)];split
       ·exact Qj (.inr ⟨_,_,_,_,_,rfl,m2,by omega,by omega,by omega,by omega,by omega,sm⟩)
       ·exact Qj ⟨_,_,_,_,_,rfl,m2,by omega,by omega,by omega,by omega,by omega,sm⟩
    case post1=>
     rintro z st2 (⟨o,y,rfl,ho,sm⟩ | ⟨r,i,j,p,q,rfl,m,i1,i2,j1,j2,x1,sm⟩)
     ·exact Qj ⟨o,_,rfl,ho,sm⟩
     ·dsimp only
      refine Qi (Qd8 (Yj ⟨rfl,?_⟩));refine Qi (Yu (Za (I:=λy z st3=>∃r i j mg p q,z=(none,i,j,r,mg,p,q)/\MH c a b r i j/\1<=i/\i<=a.size/\2<=j/\j<=b.size/\x+2+i+j<=a.size+b.size/\Sm st st3)
       (Q:=λz st3=>(∃o y,z=(some o,y)/\Out c a b o/\Sm st st3)∨∃r i j mg p q,z=(none,i,j,r,mg,p,q)/\MH c a b r i j/\1<=i/\i<=a.size/\2<=j/\j<=b.size/\x+2+i+j<=a.size+b.size/\Sm st st3) ?step2 ?fin2 ⟨r,i,j,_,p,q,rfl,m,i1,i2,j1,j2,by omega,sm⟩) ?post2)
      case fin2=>
       rintro z st3 ⟨r,i,j,mg,p,q,rfl,m,i1,i2,j1,j2,x1,sm⟩;exact .inr ⟨r,i,j,mg,p,q,rfl,m,i1,i2,j1,j2,by omega,sm⟩
      case post2=>
       rintro z st3 (⟨o,y,rfl,ho,sm⟩ | ⟨r,i,j,mg,p,q,rfl,m,i1,i2,j1,j2,x1,sm⟩)
       ·exact Qj ⟨o,_,rfl,ho,sm⟩
       ·dsimp only
        exact Qi (Qft sm λst4 sm4=>Qj ⟨_,_,_,_,rfl,m,i1,i2,j1,j2,by omega,sm4⟩)
      case step2=>
       rintro y z st3 _ hy ⟨r,i,j,mg,p,q,rfl,m,i1,i2,j1,j2,x1,sm⟩
       dsimp only
       by_cases z0:mg > 1
       ·rw[if_pos z0];refine Qi (Qft sm λst4 sm4=>?_);refine Qi (Q8 (by omega) ?_);refine Qi (ZL hA (sm4.kind.trans hk) (mb _ (QeS (by omega))) ma (by omega) (by omega) (λx y x1 xy y1=>sa x y (QC _) xy (by omega)) λt tn b1 b2=>?_);have lowA:∀n,n<t->le c (kx a n) (kx b (j - 1)):=λn hn=>by
         have:(!c (kx b (j - 1)) (kx a (0+n)))=true:=b1 n hn;rw[Zy] at this
         simpa using this
        have b2:∀n,t<=n->n<i->c (kx b (j - 1)) (kx a n)=true:=λn h1 h2=>by
         have:(!c (kx b (j - 1)) (kx a (0+n)))=false:=b2 n h1 h2;rw[Zy] at this
         simpa using this
        dsimp only
        by_cases zk:i - t > 0
        ·rw[if_pos zk];have m2:=MH.chA (t:=t) m tn λn n1 n2 _ k k1 k2=>hA.ord.tr (sb k (j - 1) (QC _) (by omega) (by omega)) (hA.ord.lt_le (b2 n n1 n2))
         by_cases z2:t=0
         ·rw[if_pos (beq_iff_eq.mpr z2)];exact Qj (.inl ⟨_,_,rfl,m2.dnA z2,sm4⟩)
         ·rw[if_neg (JR z2)];refine Qi (Q8 (by omega) ?_);have m5:=MH.puB m2 (by omega) (by omega) λk k1 k2=>lowA k k1
          by_cases z5:j - 1=1
          ·rw[if_pos (beq_iff_eq.mpr z5)];exact Qj (.inl ⟨_,_,rfl,m5.fb z5 p1,sm4⟩)
          ·rw[if_neg (JR z5)];refine Qi (Q8 (by omega) ?_);refine Qi (ZL hA (sm4.kind.trans hk) (ma _ (QeS (by omega))) mb (by omega) (by omega) (λx y x1 xy y1=>sb x y (QC _) xy (by omega)) λt2 t2n b1 b2=>?_);have b1:∀n,n<t2->c (kx b n) (kx a (t - 1))=true:=λn hn=>by have:=b1 n hn;rwa [Zy] at this
           have b2:∀n,t2<=n->n<j - 1->c (kx b n) (kx a (t - 1))=false:=λn h1 h2=>by have:=b2 n h1 h2;rwa [Zy] at this
           dsimp only
           by_cases zk2:j - 1 - t2 > 0
           ·rw[if_pos zk2];have m6:=MH.chB (t:=t2) m5 t2n λn n1 n2 _ k k1 k2=>hA.ord.tr (sa k (t - 1) (QC _) (by omega) (by omega)) (b2 n n1 n2)
            by_cases z6:t2=1
            ·rw[if_pos (beq_iff_eq.mpr z6)];exact Qj (.inl ⟨_,_,rfl,m6.fb z6 p1,sm4⟩)
            ·rw[if_neg (JR z6)];by_cases z7:t2=0
             ·rw[if_pos (beq_iff_eq.mpr z7)];exact Qj (.inl ⟨_,_,rfl,m6.dnB z7,sm4⟩)
             ·rw[if_neg (JR z7)];refine Qi (Q8 (by omega) ?_);have m9:=MH.puA m6 (by omega) (by omega) λk k1 k2=>hA.ord.lt_le (b1 k k1)
              by_cases z9:t - 1=0
              ·rw[if_pos (beq_iff_eq.mpr z9)];exact Qj (.inl ⟨_,_,rfl,m9.dnA z9,sm4⟩)
              ·rw[if_neg (JR z9)];split
               ·exact Qj (.inr ⟨_,_,_,_,_,_,rfl,m9,by omega,by omega,by omega,by omega,by omega,sm4⟩)
               ·exact Qj ⟨_,_,_,_,_,_,rfl,m9,by omega,by omega,by omega,by omega,by omega,sm4⟩
           ·rw[if_neg zk2];have zt:t2=j - 1:=by omega
            refine Qi (Q8 (by omega) ?_);have m9:=MH.puA m5 (by omega) (by omega) λk k1 k2=>hA.ord.lt_le (b1 k (by omega))
            by_cases z9:t - 1=0
            ·rw[if_pos (beq_iff_eq.mpr z9)];exact Qj (.inl ⟨_,_,rfl,m9.dnA z9,sm4⟩)
            ·rw[if_neg (JR z9)];split
             ·exact Qj (.inr ⟨_,_,_,_,_,_,rfl,m9,by omega,by omega,by omega,by omega,by omega,sm4⟩)
             ·exact Qj ⟨_,_,_,_,_,_,rfl,m9,by omega,by omega,by omega,by omega,by omega,sm4⟩
        ·rw[if_neg zk];have zt:t=i:=by omega
         subst zt;refine Qi (Q8 (by omega) ?_);have m5:=MH.puB m (by omega) (by omega) λk k1 k2=>lowA k k1
         by_cases z5:j - 1=1
         ·rw[if_pos (beq_iff_eq.mpr z5)];exact Qj (.inl ⟨_,_,rfl,m5.fb z5 p1,sm4⟩)
         ·rw[if_neg (JR z5)];refine Qi (Q8 (by omega) ?_);refine Qi (ZL hA (sm4.kind.trans hk) (ma _ (QeS (by omega))) mb (by omega) (by omega) (λx y x1 xy y1=>sb x y (QC _) xy (by omega)) λt2 t2n b1 b2=>?_);have b1:∀n,n<t2->c (kx b n) (kx a (t - 1))=true:=λn hn=>by have:=b1 n hn;rwa [Zy] at this
          have b2:∀n,t2<=n->n<j - 1->c (kx b n) (kx a (t - 1))=false:=λn h1 h2=>by have:=b2 n h1 h2;rwa [Zy] at this
          dsimp only
          by_cases zk2:j - 1 - t2 > 0
          ·rw[if_pos zk2];have m6:=MH.chB (t:=t2) m5 t2n λn n1 n2 _ k k1 k2=>hA.ord.tr (sa k (t - 1) (QC _) (by omega) (by omega)) (b2 n n1 n2)
           by_cases z6:t2=1
           ·rw[if_pos (beq_iff_eq.mpr z6)];exact Qj (.inl ⟨_,_,rfl,m6.fb z6 p1,sm4⟩)
           ·rw[if_neg (JR z6)];by_cases z7:t2=0
            ·rw[if_pos (beq_iff_eq.mpr z7)];exact Qj (.inl ⟨_,_,rfl,m6.dnB z7,sm4⟩)
            ·rw[if_neg (JR z7)];refine Qi (Q8 (by omega) ?_);have m9:=MH.puA m6 (by omega) (by omega) λk k1 k2=>hA.ord.lt_le (b1 k k1)
             by_cases z9:t - 1=0
             ·rw[if_pos (beq_iff_eq.mpr z9)];exact Qj (.inl ⟨_,_,rfl,m9.dnA z9,sm4⟩)
             ·rw[if_neg (JR z9)];split
              ·exact Qj (.inr ⟨_,_,_,_,_,_,rfl,m9,by omega,by omega,by omega,by omega,by omega,sm4⟩)
              ·exact Qj ⟨_,_,_,_,_,_,rfl,m9,by omega,by omega,by omega,by omega,by omega,sm4⟩
          ·rw[if_neg zk2];have zt:t2=j - 1:=by omega
           refine Qi (Q8 (by omega) ?_);have m9:=MH.puA m5 (by omega) (by omega) λk k1 k2=>hA.ord.lt_le (b1 k (by omega))
           by_cases z9:t - 1=0
           ·rw[if_pos (beq_iff_eq.mpr z9)];exact Qj (.inl ⟨_,_,rfl,m9.dnA z9,sm4⟩)
           ·rw[if_neg (JR z9)];split
            ·exact Qj (.inr ⟨_,_,_,_,_,_,rfl,m9,by omega,by omega,by omega,by omega,by omega,sm4⟩)
            ·exact Qj ⟨_,_,_,_,_,_,rfl,m9,by omega,by omega,by omega,by omega,by omega,sm4⟩
       ·rw[if_neg z0];refine Qi (Qft sm λst4 sm4=>?_);refine Qi (Q8 (by omega) ?_);refine Qi (ZL hA (sm4.kind.trans hk) (mb _ (QeS (by omega))) ma (by omega) (by omega) (λx y x1 xy y1=>sa x y (QC _) xy (by omega)) λt tn b1 b2=>?_);have lowA:∀n,n<t->le c (kx a n) (kx b (j - 1)):=λn hn=>by
         have:(!c (kx b (j - 1)) (kx a (0+n)))=true:=b1 n hn;rw[Zy] at this
         simpa using this
        have b2:∀n,t<=n->n<i->c (kx b (j - 1)) (kx a n)=true:=λn h1 h2=>by
         have:(!c (kx b (j - 1)) (kx a (0+n)))=false:=b2 n h1 h2;rw[Zy] at this
         simpa using this
        dsimp only
        by_cases zk:i - t > 0
        ·rw[if_pos zk];have m2:=MH.chA (t:=t) m tn λn n1 n2 _ k k1 k2=>hA.ord.tr (sb k (j - 1) (QC _) (by omega) (by omega)) (hA.ord.lt_le (b2 n n1 n2))
         by_cases z2:t=0
         ·rw[if_pos (beq_iff_eq.mpr z2)];exact Qj (.inl ⟨_,_,rfl,m2.dnA z2,sm4⟩)
         ·rw[if_neg (JR z2)];refine Qi (Q8 (by omega) ?_);have m5:=MH.puB m2 (by omega) (by omega) λk k1 k2=>lowA k k1
          by_cases z5:j - 1=1
          ·rw[if_pos (beq_iff_eq.mpr z5)];exact Qj (.inl ⟨_,_,rfl,m5.fb z5 p1,sm4⟩)
          ·rw[if_neg (JR z5)];refine Qi (Q8 (by omega) ?_);refine Qi (ZL hA (sm4.kind.trans hk) (ma _ (QeS (by omega))) mb (by omega) (by omega) (λx y x1 xy y1=>sb x y (QC _) xy (by omega)) λt2 t2n b1 b2=>?_);have b1:∀n,n<t2->c (kx b n) (kx a (t - 1))=true:=λn hn=>by have:=b1 n hn;rwa [Zy] at this
           have b2:∀n,t2<=n->n<j - 1->c (kx b n) (kx a (t - 1))=false:=λn h1 h2=>by have:=b2 n h1 h2;rwa [Zy] at this
           dsimp only
           by_cases zk2:j - 1 - t2 > 0
           ·rw[if_pos zk2];have m6:=MH.chB (t:=t2) m5 t2n λn n1 n2 _ k k1 k2=>hA.ord.tr (sa k (t - 1) (QC _) (by omega) (by omega)) (b2 n n1 n2)
            by_cases z6:t2=1
            ·rw[if_pos (beq_iff_eq.mpr z6)];exact Qj (.inl ⟨_,_,rfl,m6.fb z6 p1,sm4⟩)
            ·rw[if_neg (JR z6)];by_cases z7:t2=0
             ·rw[if_pos (beq_iff_eq.mpr z7)];exact Qj (.inl ⟨_,_,rfl,m6.dnB z7,sm4⟩)
             ·rw[if_neg (JR z7)];refine Qi (Q8 (by omega) ?_);have m9:=MH.puA m6 (by omega) (by omega) λk k1 k2=>hA.ord.lt_le (b1 k k1)
              by_cases z9:t - 1=0
              ·rw[if_pos (beq_iff_eq.mpr z9)];exact Qj (.inl ⟨_,_,rfl,m9.dnA z9,sm4⟩)
              ·rw[if_neg (JR z9)];split
               ·exact Qj (.inr ⟨_,_,_,_,_,_,rfl,m9,by omega,by omega,by omega,by omega,by omega,sm4⟩)
               ·exact Qj ⟨_,_,_,_,_,_,rfl,m9,by omega,by omega,by omega,by omega,by omega,sm4⟩
           ·rw[if_neg zk2];have zt:t2=j - 1:=by omega
            refine Qi (Q8 (by omega) ?_);have m9:=MH.puA m5 (by omega) (by omega) λk k1 k2=>hA.ord.lt_le (b1 k (by omega))
            by_cases z9:t - 1=0
            ·rw[if_pos (beq_iff_eq.mpr z9)];exact Qj (.inl ⟨_,_,rfl,m9.dnA z9,sm4⟩)
            ·rw[if_neg (JR z9)];split
             ·exact Qj (.inr ⟨_,_,_,_,_,_,rfl,m9,by omega,by omega,by omega,by omega,by omega,sm4⟩)
             ·exact Qj ⟨_,_,_,_,_,_,rfl,m9,by omega,by omega,by omega,by omega,by omega,sm4⟩
        ·rw[if_neg zk];have zt:t=i:=by omega
         subst zt;refine Qi (Q8 (by omega) ?_);have m5:=MH.puB m (by omega) (by omega) λk k1 k2=>lowA k k1
         by_cases z5:j - 1=1
         ·rw[if_pos (beq_iff_eq.mpr z5)];exact Qj (.inl ⟨_,_,rfl,m5.fb z5 p1,sm4⟩)
         ·rw[if_neg (JR z5)];refine Qi (Q8 (by omega) ?_);refine Qi (ZL hA (sm4.kind.trans hk) (ma _ (QeS (by omega))) mb (by omega) (by omega) (λx y x1 xy y1=>sb x y (QC _) xy (by omega)) λt2 t2n b1 b2=>?_);have b1:∀n,n<t2->c (kx b n) (kx a (t - 1))=true:=λn hn=>by have:=b1 n hn;rwa [Zy] at this
          have b2:∀n,t2<=n->n<j - 1->c (kx b n) (kx a (t - 1))=false:=λn h1 h2=>by have:=b2 n h1 h2;rwa [Zy] at this
          dsimp only
          by_cases zk2:j - 1 - t2 > 0
          ·rw[if_pos zk2];have m6:=MH.chB (t:=t2) m5 t2n λn n1 n2 _ k k1 k2=>hA.ord.tr (sa k (t - 1) (QC _) (by omega) (by omega)) (b2 n n1 n2)
           by_cases z6:t2=1
           ·rw[if_pos (beq_iff_eq.mpr z6)];exact Qj (.inl ⟨_,_,rfl,m6.fb z6 p1,sm4⟩)
           ·rw[if_neg (JR z6)];by_cases z7:t2=0
            ·rw[if_pos (beq_iff_eq.mpr z7)];exact Qj (.inl ⟨_,_,rfl,m6.dnB z7,sm4⟩)
            ·rw[if_neg (JR z7)];refine Qi (Q8 (by omega) ?_);have m9:=MH.puA m6 (by omega) (by omega) λk k1 k2=>hA.ord.lt_le (b1 k k1)
             by_cases z9:t - 1=0
             ·rw[if_pos (beq_iff_eq.mpr z9)];exact Qj (.inl ⟨_,_,rfl,m9.dnA z9,sm4⟩)
             ·rw[if_neg (JR z9)];split
              ·exact Qj (.inr ⟨_,_,_,_,_,_,rfl,m9,by omega,by omega,by omega,by omega,by omega,sm4⟩)
              ·exact Qj ⟨_,_,_,_,_,_,rfl,m9,by omega,by omega,by omega,by omega,by omega,sm4⟩
          ·rw[if_neg zk2];have zt:t2=j - 1:=by omega
           refine Qi (Q8 (by omega) ?_);have m9:=MH.puA m5 (by omega) (by omega) λk k1 k2=>hA.ord.lt_le (b1 k (by omega))
           by_cases z9:t - 1=0
           ·rw[if_pos (beq_iff_eq.mpr z9)];exact Qj (.inl ⟨_,_,rfl,m9.dnA z9,sm4⟩)
           ·rw[if_neg (JR z9)];split
            ·exact Qj (.inr ⟨_,_,_,_,_,_,rfl,m9,by omega,by omega,by omega,by omega,by omega,sm4⟩)
            ·exact Qj ⟨_,_,_,_,_,_,rfl,m9,by omega,by omega,by omega,by omega,by omega,sm4⟩
end
theorem QiV(i:Nat):mergeAt' i=(do
 let z <- get
 let (some (u,n,pw),some (v,m,_)):=((pendingOf z)[i]?,(pendingOf z)[i+1]?) | unsupported "internal:list.sort.pending"
 set (setPending z (((pendingOf z).setIfInBounds i (u,n+m,pw)).eraseIdxIfInBounds (i+1)))
 let some k <- Qb5 false (<- elem' (arrOf z) v) (arrOf z) u n 0 | return false
 let (u,n):=(u+k,n - k)
 if n == 0 then return true
 let some m <- Qb5 true (<- elem' (arrOf z) (u+n - 1)) (arrOf z) v m (m - 1) | return false
 if m == 0 then return true
 let x:=(arrOf z).extract u v
 let y:=(arrOf z).extract v (v+m)
 let mm <- if n<=m then QgI x y else QgJ x y
 modify λz=>setArr z (mm.toList.zipIdx.foldl (λa (p,j)=>a.setIfInBounds (u+j) p) (arrOf z))
 return (failedOf (<- get)).isNone):=rfl
theorem QsO{σ:Type}{M:QkB}{A:Js}{E:Value->Shared->Prop}{s:Shared}{Q:PUnit->σ->Prop}{st st':σ}(h:Q ⟨⟩ st'):wpS M A E s (set st':StateT σ Sem PUnit) Q st:=by
 unfold wpS;rw[StateT.run_set];exact Qk ⟨rfl,h⟩
theorem Qj4(u:Nat):∀(z:List Keyed)(m:Nat)(xs:Array Keyed),u+m+z.length<=xs.size->((z.zipIdx m).foldl (λa (p:Keyed×Nat)=>a.setIfInBounds (u+p.2) p.1) xs).toList=xs.toList.take (u+m)++z++xs.toList.drop (u+m+z.length)
 |[],m,xs,_=>by
  show xs.toList=_;rw[Je,QcH,Qfq,Zc]
 |p::z,m,xs,h=>by
  rw[QU] at h;rw[Qfr,QcJ];have ih:=Qj4 u z (m+1) (xs.setIfInBounds (u+m) p) (by rw[Array.size_setIfInBounds];omega);rw[ih,Qg8,List.set_eq_take_append_cons_drop,if_pos (by rw[Qo];omega)];have lt:(xs.toList.take (u+m)).length=u+m:=by rw[Zi,Qo];omega
  have e1:(xs.toList.take (u+m)++p::xs.toList.drop (u+m+1)).take (u+(m+1))=xs.toList.take (u+m)++[p]:=by
   rw[List.take_append,lt,Ys (by omega),show u+(m+1) - (u+m)=1 by omega];rfl
  have e2:(xs.toList.take (u+m)++p::xs.toList.drop (u+m+1)).drop (u+(m+1)+z.length)=xs.toList.drop (u+m+(p::z).length):=by
   rw[List.drop_append,lt,Yt (by omega),Qbq,show u+(m+1)+z.length - (u+m)=z.length+1 by omega,List.drop_succ_cons,Qik,QU]
   congr 1
   omega
  rw[e1,e2,QZ,QZ,QZ];rfl
theorem QhV{xs ys:Array Keyed}{i j:Nat}(h:xs.toList[i]? = ys.toList[j]?):kx xs i=kx ys j:=by
 rw[ZO,ZO] at h;exact Qi5 h
theorem Qsl{xs:Array Keyed}{u v t:Nat}(h:u+t<v)(hv:v<=xs.size):kx (xs.extract u v) t=kx xs (u+t):=by
 refine Qi5 ?_
 rw[Array.getElem?_extract,if_pos (by omega)]
section
variable{c:Keyed->Keyed->Bool}
structure Laid (c:Keyed->Keyed->Bool) (xs ws z:Array Keyed) (lo hi:Nat):Prop where
 size:ws.size=xs.size
 perm:ws.Perm xs
 out:∀n,n<lo∨hi<=n->kx ws n=kx xs n
 mid:∀n,lo<=n->n<hi->kx ws n=kx z (n - lo)
 zs:z.size=hi - lo
 of_:∀n,lo<=n->n<hi->∃m,lo<=m/\m<hi/\kx ws n=kx xs m
theorem Qui{xs z:Array Keyed}{lo v hi:Nat}(h1:lo<=v)(h2:v<=hi)(h3:hi<=xs.size)(o:Out c (xs.extract lo v) (xs.extract v hi) z):Laid c xs (z.toList.zipIdx.foldl (λa (p:Keyed×Nat)=>a.setIfInBounds (lo+p.2) p.1) xs) z lo hi:=by
 have ln:z.toList.length=hi - lo:=by
  rw[o.2.length_eq,Qq,Qo,Qo,QbA,QbA];omega
 have zs:z.size=hi - lo:=by rw[<- ln,Qo]
 have lb:=Qj4 lo z.toList 0 xs (by omega);rw[Qfq,ln,show lo+(hi - lo)=hi by omega] at lb;generalize hw:z.toList.zipIdx.foldl (λa (p:Keyed×Nat)=>a.setIfInBounds (lo+p.2) p.1) xs=ws;rw[show z.toList.zipIdx 0=z.toList.zipIdx from rfl,hw] at lb;have lt:(xs.toList.take lo).length=lo:=by rw[Zi,Qo];omega
 have mid0:xs.toList=xs.toList.take lo++((xs.extract lo v).toList++(xs.extract v hi).toList)++xs.toList.drop hi:=by
  rw[Qa5,Qa5];have e1:xs.toList.take hi=xs.toList.take v++(xs.toList.take hi).drop v:=by
   have:=(Zc v (xs.toList.take hi)).symm
   rwa [Qdf,YH h2] at this
  have e2:xs.toList.take v=xs.toList.take lo++(xs.toList.take v).drop lo:=by
   have:=(Zc lo (xs.toList.take v)).symm
   rwa [Qdf,YH h1] at this
  rw[<- QZ,<- e2,<- e1,Zc]
 have szl:ws.toList.length=xs.toList.length:=by
  rw[lb,Qq,Qq,lt,ln,Qad,Qo];omega
 have md:∀n,lo<=n->n<hi->kx ws n=kx z (n - lo):=λn n1 n2=>by
  refine QhV ?_
  rw[lb,J5 (by rw[Qq,lt,ln];omega),Ju (by rw[lt];exact n1),lt]
 refine⟨by rw[<- Qo,szl,Qo],?_,λn hn=>?_,md,zs,λn n1 n2=>?_⟩
 ·refine YT.mpr ?_
  rw[lb]
  conv=>rhs;rw[mid0]
  exact Qan _ (Qaw _ o.2)
 ·refine QhV ?_
  rw[lb];rcases hn with hn | hn
  ·rw[QZ,J5 (by rw[lt];exact hn),Qec,if_pos hn]
  ·rw[Ju (by rw[Qq,lt,ln];omega),Qq,lt,ln,QbD]
   congr 1
   omega
 ·have hz:n - lo<z.size:=by omega
  have hm:=o.2.mem_iff.mp (QeS hz);rw[md n n1 n2];rcases Jm.mp hm with q | q
  ·rw[Qa5] at q;obtain⟨m,m1,m2,_,e⟩:=Y3 q;exact⟨m,m1,by omega,e⟩
  ·rw[Qa5] at q;obtain⟨m,m1,m2,_,e⟩:=Y3 q;exact⟨m,by omega,m2,e⟩
end
section
variable{prog:QP}{w:JH}{A:Js}{E:Value->Shared->Prop}{s:Shared}{a₀:Array Keyed}{κ:Yv}{c:Keyed->Keyed->Bool}
structure Mg (κ:Yv) (a₀:Array Keyed) (c:Keyed->Keyed->Bool) (st st':Zb) (i u v hi pn pw:Nat):Prop where
 sb:SB κ a₀ st'
 pend:pendingOf st'=((pendingOf st).setIfInBounds i (u,pn,pw)).eraseIdxIfInBounds (i+1)
 out:∀n,n<u∨hi<=n->kx (arrOf st') n=kx (arrOf st) n
 sg:Sg c (arrOf st') u hi
theorem Qiv{st:Zb}{i u n pw m pw2:Nat}{Q:Bool->Zb->Prop}(hA:Asks prog w A s κ a₀ c)(hB:SB κ a₀ st)(e1:(pendingOf st)[i]? = some (u,n,pw))(e2:(pendingOf st)[i+1]? = some (u+n,m,pw2))(n1:1<=n)(m1:1<=m)(hz:u+n+m<=a₀.size)
  (s1:Sg c (arrOf st) u (u+n))(s2:Sg c (arrOf st) (u+n) (u+n+m))(h:∀st',Mg κ a₀ c st st' i u (u+n) (u+n+m) (n+m) pw->Q true st'):wpS (model prog w) A E s (mergeAt' i) Q st:=by
 have sz:=hB.size;have mem:∀p∈(arrOf st).toList,p∈a₀.toList:=λp hp=>hB.mem hp
 have memE:∀{x y:Nat}{p:Keyed},p∈((arrOf st).extract x y).toList->p∈a₀.toList:=λ{x y p} hp=>mem p (by rw[Qa5] at hp;exact Qdc (QlL hp))
 rw[QiV];refine Qi (Qci ?_);rw[e1,e2]
 dsimp only
 refine Qi (QsO ?_);refine Qi (Q8 (by omega) ?_);refine Qi (ZL hA hB.kind (mem _ (QeS (by omega))) mem (by omega) (by omega) s1 λk kn b1 b2=>?_);have b1:∀t,t<k->le c (kx (arrOf st) (u+t)) (kx (arrOf st) (u+n)):=λt ht=>by
  have:(!c (kx (arrOf st) (u+n)) (kx (arrOf st) (u+t)))=true:=b1 t ht
  simpa using this
 have b2:∀t,k<=t->t<n->c (kx (arrOf st) (u+n)) (kx (arrOf st) (u+t))=true:=λt h1 h2=>by
  have:(!c (kx (arrOf st) (u+n)) (kx (arrOf st) (u+t)))=false:=b2 t h1 h2
  simpa using this
 dsimp only
 by_cases z1:n - k=0
 ·rw[if_pos (beq_iff_eq.mpr z1)];refine Qj (h _ ⟨⟨hB.perm,hB.kind,hB.failed⟩,rfl,λ_ _=>rfl,λx y x1 xy y1=>?_⟩);show le c (kx (arrOf st) x) (kx (arrOf st) y);by_cases zx:x<u+n
  ·by_cases zy:y<u+n
   ·exact s1 x y x1 xy zy
   ·have:=b1 (x - u) (by omega);rw[show u+(x - u)=x by omega] at this;exact hA.ord.tr this (s2 (u+n) y (Ql _) (by omega) y1)
  ·exact s2 x y (by omega) xy y1
 ·rw[if_neg (JR z1)];have hl:u+k+(n - k) - 1=u+n - 1:=by omega
  rw[hl];refine Qi (Q8 (by omega) ?_);refine Qi (ZL hA hB.kind (mem _ (QeS (by omega))) mem (by omega) (by omega) s2 λm2 mn d1 d2=>?_);have d1:∀t,t<m2->c (kx (arrOf st) (u+n+t)) (kx (arrOf st) (u+n - 1))=true:=λt ht=>d1 t ht
  have d2:∀t,m2<=t->t<m->le c (kx (arrOf st) (u+n - 1)) (kx (arrOf st) (u+n+t)):=λt h1 h2=>d2 t h1 h2
  dsimp only
  by_cases z2:m2=0
  ·rw[if_pos (beq_iff_eq.mpr z2)];refine Qj (h _ ⟨⟨hB.perm,hB.kind,hB.failed⟩,rfl,λ_ _=>rfl,λx y x1 xy y1=>?_⟩);show le c (kx (arrOf st) x) (kx (arrOf st) y);by_cases zx:x<u+n
   ·by_cases zy:y<u+n
    ·exact s1 x y x1 xy zy
    ·have:=d2 (y - (u+n)) (by omega) (by omega);rw[show u+n+(y - (u+n))=y by omega] at this;exact hA.ord.tr (s1 x (u+n - 1) x1 (by omega) (by omega)) this
   ·exact s2 x y (by omega) xy y1
  ·rw[if_neg (JR z2)];have ex:∀t,t<n - k->kx ((arrOf st).extract (u+k) (u+n)) t=kx (arrOf st) (u+k+t):=λt ht=>Qsl (by omega) (by omega)
   have ey:∀t,t<m2->kx ((arrOf st).extract (u+n) (u+n+m2)) t=kx (arrOf st) (u+n+t):=λt ht=>Qsl (by omega) (by omega)
   have sx:((arrOf st).extract (u+k) (u+n)).size=n - k:=by rw[QbA];omega
   have sy:((arrOf st).extract (u+n) (u+n+m2)).size=m2:=by rw[QbA];omega
   have fin:∀(z:Array Keyed)(st':Zb),Sm (setPending st (((pendingOf st).setIfInBounds i (u,n+m,pw)).eraseIdxIfInBounds (i+1))) st'->Out c ((arrOf st).extract (u+k) (u+n)) ((arrOf st).extract (u+n) (u+n+m2)) z ->
     wpS (model prog w) A E s (do
      modify λx=>setArr x (z.toList.zipIdx.foldl (λa (p,j)=>a.setIfInBounds (u+k+j) p) (arrOf x))
      return (failedOf (<- get)).isNone) Q st':=λz st' sm o=>by
    refine Qi (QaD (Qi (Qci ?_)));have fe:failedOf st'=none:=sm.failed.trans hB.failed;have ae:arrOf st'=arrOf st:=sm.arr;have L:=Qui (c:=c) (xs:=arrOf st) (z:=z) (lo:=u+k) (v:=u+n) (hi:=u+n+m2) (by omega) (by omega) (by omega) o;refine Qj ?_
    show Q ((failedOf st').isNone) _;rw[fe,ae];refine h _ ⟨⟨L.perm.trans hB.perm,sm.kind.trans hB.kind,fe⟩,sm.pend,λx hx=>L.out x (by omega),λx y x1 xy y1=>?_⟩;generalize z.toList.zipIdx.foldl (λa (p:Keyed×Nat)=>a.setIfInBounds (u+k+p.2) p.1) (arrOf st)=ws at L;show le c (kx ws x) (kx ws y);have a0:∀x,u<=x->x<u+k->le c (kx (arrOf st) x) (kx (arrOf st) (u+n)):=λx g1 g2=>by have:=b1 (x - u) (by omega);rwa [show u+(x - u)=x by omega] at this
    have b9:∀y,u+n+m2<=y->y<u+n+m->le c (kx (arrOf st) (u+n - 1)) (kx (arrOf st) y):=λy g1 g2=>by have:=d2 (y - (u+n)) (by omega) (by omega);rwa [show u+n+(y - (u+n))=y by omega] at this
    by_cases zx:x<u+k
    ·rw[L.out x (.inl zx)];by_cases zy:y<u+k
     ·rw[L.out y (.inl zy)];exact s1 x y x1 xy (by omega)
     ·by_cases zy2:y<u+n+m2
      ·obtain⟨q,q1,q2,qe⟩:=L.of_ y (by omega) zy2;rw[qe];by_cases zq:q<u+n
       ·exact s1 x q x1 (by omega) zq
       ·exact hA.ord.tr (a0 x x1 zx) (s2 (u+n) q (Ql _) (by omega) (by omega))
      ·rw[L.out y (.inr (by omega))];exact hA.ord.tr (a0 x x1 zx) (s2 (u+n) y (Ql _) (by omega) y1)
    ·by_cases zx2:x<u+n+m2
     ·by_cases zy2:y<u+n+m2
      ·rw[L.mid x (by omega) zx2,L.mid y (by omega) zy2];by_cases xe:x=y
       ·subst xe;exact hA.ord.irr _
       ·have g:=ZI.mp o.1 (x - (u+k)) (y - (u+k)) (by rw[Qo,L.zs];omega) (by rw[Qo,L.zs];omega) (by omega);have k1:=Qa4 (xs:=z) (i:=x - (u+k)) (by rw[L.zs];omega);have k2:=Qa4 (xs:=z) (i:=y - (u+k)) (by rw[L.zs];omega);rw[Qf (by rw[Qo,L.zs];omega)] at k1 k2;rw[Qw k1,Qw k2] at g;exact g
      ·rw[L.out y (.inr (by omega))];obtain⟨q,q1,q2,qe⟩:=L.of_ x (by omega) zx2;rw[qe];by_cases zq:q<u+n
       ·exact hA.ord.tr (s1 q (u+n - 1) (by omega) (by omega) (by omega)) (b9 y (by omega) y1)
       ·exact s2 q y (by omega) (by omega) y1
     ·rw[L.out x (.inr (by omega)),L.out y (.inr (by omega))];exact s2 x y (by omega) xy y1
   have hsx:Sg c ((arrOf st).extract (u+k) (u+n)) 0 ((arrOf st).extract (u+k) (u+n)).size:=λx y _ xy y1=>by
    rw[sx] at y1;rw[ex x (by omega),ex y y1];exact s1 _ _ (by omega) (by omega) (by omega)
   have hsy:Sg c ((arrOf st).extract (u+n) (u+n+m2)) 0 ((arrOf st).extract (u+n) (u+n+m2)).size:=λx y _ xy y1=>by
    rw[sy] at y1;rw[ey x (by omega),ey y y1];exact s2 _ _ (by omega) (by omega) (by omega)
   have hp1:∀t,t<((arrOf st).extract (u+k) (u+n)).size->le c (kx ((arrOf st).extract (u+n) (u+n+m2)) 0) (kx ((arrOf st).extract (u+k) (u+n)) t):=λt ht=>by
    rw[sx] at ht;rw[ey 0 (by omega),ex t ht,Qfq];have:=b2 (k+t) (by omega) (by omega);rw[show u+(k+t)=u+k+t by omega] at this;exact hA.ord.lt_le this
   have hp2:∀t,t<((arrOf st).extract (u+n) (u+n+m2)).size->le c (kx ((arrOf st).extract (u+n) (u+n+m2)) t) (kx ((arrOf st).extract (u+k) (u+n)) (((arrOf st).extract (u+k) (u+n)).size - 1)):=λt ht=>by
    rw[sy] at ht;rw[sx,ey t ht,ex (n - k - 1) (by omega),show u+k+(n - k - 1)=u+n - 1 by omega];exact hA.ord.lt_le (d1 t ht)
   split
   ·exact Qi (Qit hA hB.kind (λp hp=>memE hp) (λp hp=>memE hp) (by rw[sx];omega) (by rw[sy];omega) hsx hsy hp1 hp2 λz st' sm o=>fin z st' sm o)
   ·exact Qi (Qiu hA hB.kind (λp hp=>memE hp) (λp hp=>memE hp) (by rw[sx];omega) (by rw[sy];omega) hsx hsy hp1 hp2 λz st' sm o=>fin z st' sm o)
end
def RunsOk:List (Nat×Nat)->Nat->Nat->Prop
 |[],s,e=>s=e
 |(s',n)::r,s,e=>s'=s/\1<=n/\RunsOk r (s+n) e
theorem RunsOk.app:∀{l1 l2:List (Nat×Nat)}{s e:Nat},RunsOk (l1++l2) s e↔∃m,RunsOk l1 s m/\RunsOk l2 m e
 |[],l2,s,e=>⟨λh=>⟨s,rfl,h⟩,λ⟨m,h1,h2⟩=>by cases(show s=m from h1);exact h2⟩
 |(s',n)::l1,l2,s,e=>by
  constructor
  ·rintro⟨h1,h2,h3⟩;obtain⟨m,a,b⟩:=RunsOk.app.mp h3;exact⟨m,⟨h1,h2,a⟩,b⟩
  ·rintro⟨m,⟨h1,h2,a⟩,b⟩;exact⟨h1,h2,RunsOk.app.mpr ⟨m,a,b⟩⟩
theorem RunsOk.le:∀{l:List (Nat×Nat)}{s e:Nat},RunsOk l s e->s+l.length<=e
 |[],s,e,h=>by cases(show s=e from h);exact Ql _
 |(s',n)::l,s,e,⟨_,h2,h3⟩=>by
  have:=RunsOk.le h3;rw[QU];omega
theorem RunsOk.mem:∀{l:List (Nat×Nat)}{s e:Nat},RunsOk l s e->∀p∈l,s<=p.1/\p.1+p.2<=e
 |(s',n)::l,s,e,⟨h1,h2,h3⟩,p,hp=>by
  have hl:=RunsOk.le h3;rcases Qz.mp hp with z | z
  ·subst z;show s<=s'/\s'+n<=e;omega
  ·have:=RunsOk.mem h3 p z;omega
def sn(p:Nat×Nat×Nat):Nat×Nat:=(p.1,p.2.1)
def YZ(st:Zb):List (Nat×Nat):=(pendingOf st).toList.map sn
section
variable{prog:QP}{w:JH}{A:Js}{E:Value->Shared->Prop}{s:Shared}{a₀:Array Keyed}{κ:Yv}{c:Keyed->Keyed->Bool}
structure RI (κ:Yv) (a₀:Array Keyed) (c:Keyed->Keyed->Bool) (lo:Nat) (st:Zb):Prop where
 sb:SB κ a₀ st
 runs:RunsOk (YZ st) 0 lo
 srt:∀p∈YZ st,Sg c (arrOf st) p.1 (p.1+p.2)
 le:lo<=a₀.size
theorem Sg.same{xs ys:Array Keyed}{u v:Nat}(h:Sg c xs u v)(k:∀n,u<=n->n<v->kx ys n=kx xs n):Sg c ys u v:=λi j hi hij hj=>by
 rw[k i hi (by omega),k j (by omega) hj];exact h i j hi hij hj
theorem Qve{l:List (Nat×Nat×Nat)}{i:Nat}(h:i+1<l.length):∃l1 x y l2,l=l1++x::y::l2/\l1.length=i:=by
 refine⟨l.take i,l[i],l[i+1],l.drop (i+2),?_,by rw[Zi];omega⟩;rw[<- Y8,<- Y8,Zc]
theorem Qdj{st:Zb}{lo i hi:Nat}{Q:Bool->Zb->Prop}(hA:Asks prog w A s κ a₀ c)(ri:RI κ a₀ c lo st)(hi':i+1<(pendingOf st).size)
  (h:∀st',RI κ a₀ c lo st'->(pendingOf st').size+1=(pendingOf st).size->(∀n,lo<=n->kx (arrOf st') n=kx (arrOf st) n)->Q true st'):wpS (model prog w) A E s (mergeAt' i) Q st:=by
 obtain⟨l1,⟨u,n,pw⟩,⟨v,m,pw2⟩,l2,el,ll⟩:=Qve (l:=(pendingOf st).toList) (i:=i) (by rw[Qo];exact hi');have er:YZ st=l1.map sn++(u,n)::(v,m)::l2.map sn:=by unfold YZ;rw[el,Jj];rfl
 have r0:=ri.runs;rw[er] at r0;obtain⟨q,ra,rb⟩:=RunsOk.app.mp r0;obtain⟨g1,g2,g3,g4,g5⟩:=rb;subst g1;subst g3;have e1:(pendingOf st)[i]? = some (u,n,pw):=by
  rw[<- ZO,el,Ju (by omega),ll,QcO];rfl
 have e2:(pendingOf st)[i+1]? = some (u+n,m,pw2):=by
  rw[<- ZO,el,Ju (by omega),ll,show i+1 - i=1 by omega];rfl
 have le5:=RunsOk.le g5;have le1:=ri.le;refine Qiv hA ri.sb e1 e2 g2 g4 (by omega) (ri.srt (u,n) (by rw[er];simp)) (ri.srt (u+n,m) (by rw[er];simp)) λst' mg=>?_
 have ep:(pendingOf st').toList=l1++(u,n+m,pw)::l2:=by
  rw[mg.pend,Array.toList_eraseIdxIfInBounds,Qg8,el,List.set_append_right _ _ (by omega),ll,QcO,List.set_cons_zero,List.eraseIdx_append_of_length_le (by omega),ll,show i+1 - i=1 by omega];rfl
 have er':YZ st'=l1.map sn++(u,n+m)::l2.map sn:=by unfold YZ;rw[ep,Jj];rfl
 refine h st' ⟨mg.sb,?_,λp hp=>?_,ri.le⟩ ?_ λk hk=>mg.out k (.inr (by omega))
 ·rw[er'];exact RunsOk.app.mpr ⟨u,ra,rfl,by omega,by rw[show u+(n+m)=u+n+m by omega];exact g5⟩
 ·rw[er'] at hp;rcases Jm.mp hp with z | z
  ·have b:=RunsOk.mem ra p z;exact(ri.srt p (by rw[er];exact YW _ z)).same λk k1 k2=>mg.out k (.inl (by omega))
  ·rcases Qz.mp z with z | z
   ·subst z;show Sg c (arrOf st') u (u+(n+m));rw[show u+(n+m)=u+n+m by omega];exact mg.sg
   ·have b:=RunsOk.mem g5 p z;exact(ri.srt p (by rw[er];exact JG _ (Jw _ (Jw _ z)))).same λk k1 k2=>mg.out k (.inr (by omega))
 ·rw[<- Qo,<- Qo,ep,el,Qq,Qq,QU,QU,QU];omega
theorem RI.pow{st:Zb}{lo:Nat}(r:RI κ a₀ c lo st)(i pw:Nat):RI κ a₀ c lo (setPending st ((pendingOf st).modify i λx=>(x.1,x.2.1,pw))):=by
 have er:YZ (setPending st ((pendingOf st).modify i λx=>(x.1,x.2.1,pw)))=YZ st:=by
  show((pendingOf st).modify i λx=>(x.1,x.2.1,pw)).toList.map sn=(pendingOf st).toList.map sn;rw[Array.toList_modify];apply QaL
  intro j;rw[QD,QD,List.getElem?_modify];cases(pendingOf st).toList[j]? with
  |none=>rfl
  |some p=>
   show some (sn (if i=j then _ else p))=some (sn p);split<;>rfl
 exact⟨⟨r.sb.perm,r.sb.kind,r.sb.failed⟩,by rw[er];exact r.runs,by rw[er];exact r.srt,r.le⟩
theorem Qis{st:Zb}{Q:Unit->Zb->Prop}(hA:Asks prog w A s κ a₀ c)(hB:SB κ a₀ st)(hp:pendingOf st=#[])
  (h:∀st',SB κ a₀ st'->Sg c (arrOf st') 0 a₀.size->Q () st'):wpS (model prog w) A E s sortRuns' Q st:=by
 rw[sortRuns'_eq];refine Qi (Qci ?_)
 dsimp only
 rw[hB.size];have ri0:RI κ a₀ c 0 st:=⟨hB,by unfold YZ;rw[hp];rfl,λp h=>by unfold YZ at h;rw[hp] at h;simp at h,QC _⟩;refine Qi (Yu (Za (I:=λx z st'=>∃lo,z=(none,lo)/\RI κ a₀ c lo st'/\(x<=lo∨lo=a₀.size)) (Q:=λz st'=>z=(none,a₀.size)/\RI κ a₀ c a₀.size st') ?step ?fin ⟨0,rfl,ri0,.inl (Ql _)⟩) ?post)
 case fin=>
  rintro z st' ⟨lo,rfl,ri,hx⟩;have:=ri.le;have e:lo=a₀.size:=by omega
  subst e;exact⟨rfl,ri⟩
 case step=>
  rintro x z st' _ hx ⟨lo,rfl,ri,hxl⟩
  dsimp only
  have hle:=ri.le;by_cases z0:lo≥a₀.size
  ·rw[if_pos z0];have e:lo=a₀.size:=by omega
   subst e;exact Qj ⟨rfl,ri⟩
  ·rw[if_neg z0];refine Qi (Qge hA (by omega) (by omega) ri.sb λm st1 f1 m1 m2 sg1=>?_)
   dsimp only
   have ri1:RI κ a₀ c lo st1:=⟨f1.sb,by unfold YZ;rw[f1.pend];exact ri.runs,λp hp=>by
    unfold YZ at hp;rw[f1.pend] at hp;have b:=RunsOk.mem ri.runs p hp;exact(ri.srt p hp).same λk k1 k2=>f1.low k (by omega),hle⟩
   have push:∀(n:Nat)(st2:Zb),RI κ a₀ c lo st2->1<=n->lo+n<=a₀.size->Sg c (arrOf st2) lo (lo+n)->RI κ a₀ c (lo+n) (setPending st2 ((pendingOf st2).push (lo,n,0))):=λn st2 r2 n1 n2 sg=>by
    have er:YZ (setPending st2 ((pendingOf st2).push (lo,n,0)))=YZ st2++[(lo,n)]:=by
     show((pendingOf st2).push (lo,n,0)).toList.map sn=_;rw[Qev,Jj];rfl
    refine⟨⟨r2.sb.perm,r2.sb.kind,r2.sb.failed⟩,by rw[er];exact RunsOk.app.mpr ⟨lo,r2.runs,rfl,n1,rfl⟩,λp hp=>?_,n2⟩;rw[er] at hp;rcases Jm.mp hp with z | z
    ·exact r2.srt p z
    ·rw[Jo.mp z];exact sg
   by_cases zm:m<minRun' a₀.size a₀.size 0
   ·rw[if_pos zm];refine Qi (Qd8 (Yj ⟨rfl,?_⟩));refine Qi (Qey hA (by omega) m1 (by omega) f1.sb sg1 λst2 f2 sg2=>?_);simp only[Bool.not_true,Yx,if_false];have ri2:RI κ a₀ c lo st2:=⟨f2.sb,by unfold YZ;rw[f2.pend];exact ri1.runs,λp hp=>by
     unfold YZ at hp;rw[f2.pend] at hp;have b:=RunsOk.mem ri1.runs p hp;exact(ri1.srt p hp).same λk k1 k2=>f2.low k (by omega),hle⟩
    refine Qi (Qci ?_);cases hb:(pendingOf st2).back? with
    |none=>
     dsimp only
     exact Qi (QaD (Qj ⟨_,rfl,push _ st2 ri2 (by omega) (by omega) sg2,by omega⟩))
    |some bb=>
     obtain⟨s1,s2,s3⟩:=bb
     dsimp only
     refine Qi (Yu (Za (I:=λ_ z st3=>z=(none,())/\RI κ a₀ c lo st3/\Sg c (arrOf st3) lo (lo+min (a₀.size - lo) (minRun' a₀.size a₀.size 0))) (Q:=λz st3=>z=(none,())/\RI κ a₀ c lo st3/\Sg c (arrOf st3) lo (lo+min (a₀.size - lo) (minRun' a₀.size a₀.size 0))) ?stepA (λ_ _ q=>q) ⟨rfl,ri2,sg2⟩) ?postA)
     case stepA=>
      rintro y z st3 _ hy ⟨rfl,r3,g3⟩;refine Qi (Qci ?_);by_cases z5:(pendingOf st3).size > 1
      ·rw[if_pos z5,getElem?_pos (pendingOf st3) ((pendingOf st3).size - 2) (by omega)];generalize (pendingOf st3)[(pendingOf st3).size - 2]'(by omega)=pp;obtain⟨q1,q2,q3⟩:=pp
       dsimp only
       split
       ·exact Qj ⟨rfl,r3,g3⟩
       ·refine Qi (Qdj (hi:=0) hA r3 (by omega) λst4 r4 sz k4=>?_);exact Qj ⟨rfl,r4,g3.same λk k1 _=>k4 k k1⟩
      ·rw[if_neg z5];exact Qj ⟨rfl,r3,g3⟩
     case postA=>
      rintro z st3 ⟨rfl,r3,g3⟩
      dsimp only
      refine Qi (QaD (Qi (QaD (Qj ⟨_,rfl,push _ _ (r3.pow _ _) (by omega) (by omega) g3,by omega⟩))))
   ·rw[if_neg zm];refine Qi (Qci ?_);cases hb:(pendingOf st1).back? with
    |none=>
     dsimp only
     exact Qi (QaD (Qj ⟨_,rfl,push _ st1 ri1 m1 (by omega) sg1,by omega⟩))
    |some bb=>
     obtain⟨s1,s2,s3⟩:=bb
     dsimp only
     refine Qi (Yu (Za (I:=λ_ z st3=>z=(none,())/\RI κ a₀ c lo st3/\Sg c (arrOf st3) lo (lo+m)) (Q:=λz st3=>z=(none,())/\RI κ a₀ c lo st3/\Sg c (arrOf st3) lo (lo+m)) ?stepA (λ_ _ q=>q) ⟨rfl,ri1,sg1⟩) ?postA)
     case stepA=>
      rintro y z st3 _ hy ⟨rfl,r3,g3⟩;refine Qi (Qci ?_);by_cases z5:(pendingOf st3).size > 1
      ·rw[if_pos z5,getElem?_pos (pendingOf st3) ((pendingOf st3).size - 2) (by omega)];generalize (pendingOf st3)[(pendingOf st3).size - 2]'(by omega)=pp;obtain⟨q1,q2,q3⟩:=pp
       dsimp only
       split
       ·exact Qj ⟨rfl,r3,g3⟩
       ·refine Qi (Qdj (hi:=0) hA r3 (by omega) λst4 r4 sz k4=>?_);exact Qj ⟨rfl,r4,g3.same λk k1 _=>k4 k k1⟩
      ·rw[if_neg z5];exact Qj ⟨rfl,r3,g3⟩
     case postA=>
      rintro z st3 ⟨rfl,r3,g3⟩
      dsimp only
      refine Qi (QaD (Qi (QaD (Qj ⟨_,rfl,push _ _ (r3.pow _ _) m1 (by omega) g3,by omega⟩))))
 case post=>
  rintro z st' ⟨rfl,ri⟩
  dsimp only
  refine Qi (Yu (Za (I:=λx z st3=>z=(none,())/\RI κ a₀ c a₀.size st3/\((pendingOf st3).size+x<=a₀.size∨(pendingOf st3).size<=1)) (Q:=λz st3=>z=(none,())/\RI κ a₀ c a₀.size st3/\(pendingOf st3).size<=1) ?stepB ?finB ⟨rfl,ri,.inl ?initB⟩) ?postB)
  case initB=>
   have:=RunsOk.le ri.runs;unfold YZ at this;rw[Qh,Qo] at this;omega
  case finB=>
   rintro z st3 ⟨rfl,r3,hx⟩;exact⟨rfl,r3,by omega⟩
  case stepB=>
   rintro x z st3 _ hx ⟨rfl,r3,hs⟩;refine Qi (Qci ?_);by_cases z5:(pendingOf st3).size<=1
   ·rw[if_pos z5];exact Qj ⟨rfl,r3,z5⟩
   ·rw[if_neg z5];have key:∀i,i+1<(pendingOf st3).size->wpS (model prog w) A E s (mergeAt' i) (λb st4=>b=true/\RI κ a₀ c a₀.size st4/\(pendingOf st4).size+1=(pendingOf st3).size) st3:=λi hi=>Qdj (hi:=0) hA r3 hi λst4 r4 sz _=>⟨rfl,r4,sz⟩
    refine Qi (Yu (key _ ?_) ?_)
    ·have ii:∀{p:Prop}[Decidable p],(if p then(pendingOf st3).size - 2 - 1 else(pendingOf st3).size - 2)+1<(pendingOf st3).size:=by intro p _;split<;>omega
     exact ii
    ·rintro bb st4 ⟨rfl,r4,sz⟩;exact Qj ⟨rfl,r4,by omega⟩
  case postB=>
   rintro z st3 ⟨rfl,r3,hs⟩;refine Qj (h st3 r3.sb ?_);have rr:=r3.runs;have hl:(YZ st3).length<=1:=by unfold YZ;rw[Qh,Qo];exact hs
   have hsr:=r3.srt;cases er:YZ st3 with
   |nil=>
    rw[er] at rr;rw[<- (show 0=a₀.size from rr)];exact λi j hi hij hj=>by omega
   |cons p l=>
    rw[er] at rr hl hsr;cases l with
    |cons p' l'=>simp at hl
    |nil=>
     obtain⟨g1,g2,g3⟩:=rr;have:=hsr p (Jo.mpr rfl);rw[g1,(show 0+p.2=a₀.size from g3)] at this;exact this
end
end Rt
namespace L2
def blk(X:Cx)(M:List Str)(scope:Qbk)(cl:List (Str×Addr))(ex:List Addr)(s3:Shared)(H3:Hp)(C:Addr):Cx where
 prog:=X.prog
 w:=X.w
 K:=X.K
 mg:=X.mg
 base:=X.base
 A:=X.A
 N:=M
 s₀:=s3
 H₀:=H3
 env:=compEnvC scope cl C X.env
 outer:=X.stack
 stack:=X.stack
 ex:=ex
 fn:=λ_=>false
 calm:=X.calm
 pn:=[]
 xe:=λ_ _=>False
def QcL(env:Env):List (Str×Qbb)->List (Str×Addr)->List (Str×Addr)
 |[],acc=>acc
 |(n,k)::r,acc=>QcL env r (if k=.free then(n,(env.cells.lookup n).getD 0)::acc else acc)
theorem Qjb{env:Env}:∀(l:List (Str×Qbb))(acc:List (Str×Addr)),(∀x∈l,x.2=.free->∃c,env.cells.lookup x.1=some c) ->
  (forIn (m:=Sem) l acc λx cs=>(if(x.2 == Jf)=true then do let a <- cellOf env x.1;pure (J7 ((x.1,a)::cs)) else pure (J7 cs)))=pure (QcL env l acc)
 |[],acc,_=>rfl
 |(n,k)::r,acc,h=>by
  rw[Qg5];by_cases hk:k=.free
  ·subst hk;obtain⟨c,hc⟩:=h (n,.free) Zt rfl;have e1:cellOf env n=pure c:=by unfold cellOf;rw[hc]
   have e2:QcL env ((n,.free)::r) acc=QcL env r ((n,c)::acc):=by
    show QcL env r (if Jf=.free then(n,(env.cells.lookup n).getD 0)::acc else acc)=_;rw[if_pos rfl,hc];rfl
   rw[e2];show((if(Jf == Jf)=true then do let a <- cellOf env n;pure (J7 ((n,a)::acc)) else pure (J7 acc)) >>= _)=_;rw[if_pos (show(Jf == Jf)=true by decide),e1];exact Qjb r _ λx hx=>h x (Jw _ hx)
  ·have hb:(k == Jf)=false:=by simpa using hk
   have e2:QcL env ((n,k)::r) acc=QcL env r acc:=by
    show QcL env r (if k=.free then(n,(env.cells.lookup n).getD 0)::acc else acc)=_;rw[if_neg hk]
   rw[e2];show((if(k == Jf)=true then _ else pure (J7 acc)) >>= _)=_;rw[hb,if_neg Qt];exact Qjb r _ λx hx=>h x (Jw _ hx)
theorem Qn5{scope:Qbk}{env:Env}(h:∀x∈scope.names,x.2=.free->∃c,env.cells.lookup x.1=some c):closureFor scope env=pure (QcL env scope.names []):=by
 have e:=Qjb (env:=env) scope.names [] h;unfold closureFor;show(forIn scope.names [] _ >>= _)=_;have e':(forIn (m:=Sem) scope.names ([]:List (Str×Addr)) λx cs=>match x with | (name,kind)=>(if(kind == Jf)=true then do let a <- cellOf env name;pure (J7 ((name,a)::cs)) else pure (J7 cs)))=pure (QcL env scope.names []):=e
 first
  |(rw[e'];rfl)
  |(refine Eq.trans (congrArg (λt=>t >>= _) e') ?_;rfl)
theorem Qjc{env:Env}:∀(l:List (Str×Qbb))(acc:List (Str×Addr)),(∀x∈l,x.2=.free->∃c,env.cells.lookup x.1=some c)->(∀x c,acc.lookup x=some c->env.cells.lookup x=some c) ->
  (∀x c,(QcL env l acc).lookup x=some c->env.cells.lookup x=some c)/\(∀x c,acc.lookup x=some c->(QcL env l acc).lookup x=some c)/\∀x,(x,Jf)∈l->∃c,(QcL env l acc).lookup x=some c
 |[],acc,_,ha=>⟨ha,λ_ _ h=>h,λ_ h=>nomatch h⟩
 |(n,k)::r,acc,h,ha=>by
  have hr:∀x∈r,x.2=.free->∃c,env.cells.lookup x.1=some c:=λx hx=>h x (Jw _ hx)
  by_cases hk:k=.free
  ·subst hk;obtain⟨c,hc⟩:=h (n,.free) Zt rfl;have e2:QcL env ((n,.free)::r) acc=QcL env r ((n,c)::acc):=by
    show QcL env r (if Jf=.free then(n,(env.cells.lookup n).getD 0)::acc else acc)=_;rw[if_pos rfl,hc];rfl
   rw[e2];have ha':∀x c',((n,c)::acc).lookup x=some c'->env.cells.lookup x=some c':=λx c' q=>by
    rw[Jq] at q;cases hx:x == n with
    |true=>
     rw[hx] at q;have z:c=c':=Qw q;have y:x=n:=by simpa using hx
     rw[y,<- z];exact hc
    |false=>rw[hx] at q;exact ha x c' q
   obtain⟨i1,i2,i3⟩:=Qjc r ((n,c)::acc) hr ha';refine⟨i1,λx c' q=>?_,λx hx=>?_⟩
   ·refine i2 x c' ?_
    rw[Jq];cases hx:x == n with
    |true=>
     have y:x=n:=by simpa using hx
     have:=ha x c' q;rw[y,hc] at this;exact this
    |false=>exact q
   ·rcases Qz.mp hx with z | z
    ·cases z;exact⟨c,i2 n c (by rw[Jq,beq_self_eq_true])⟩
    ·exact i3 x z
  ·have e2:QcL env ((n,k)::r) acc=QcL env r acc:=by
    show QcL env r (if k=.free then(n,(env.cells.lookup n).getD 0)::acc else acc)=_;rw[if_neg hk]
   rw[e2];obtain⟨i1,i2,i3⟩:=Qjc r acc hr ha;refine⟨i1,i2,λx hx=>?_⟩;rcases Qz.mp hx with z | z
   ·cases z;exact absurd rfl hk
   ·exact i3 x z
theorem Qcf{l:List (Str×Qbb)}{x:Str}{k:Qbb}(h:l.lookup x=some k):(x,k)∈l:=by
 induction l with
 |nil=>cases h
 |cons p r ih=>
  obtain⟨n,q⟩:=p;rw[Jq] at h;cases hx:x == n with
  |true=>
   rw[hx] at h;have y:x=n:=by simpa using hx
   have z:q=k:=Qw h;subst y z;exact Zt
  |false=>rw[hx] at h;exact Jw _ (ih h)
theorem Qbm{env:Env}:∀{names:List (Str×Qbb)}{x:Str}{k:Qbb},(names.map λ(n,k)=>if(k == Jf&&env.scope.kind == .function&&env.kindOf n == some .cell) then(n,YB) else(n,k)).lookup x=some k ->
  names.lookup x=some k∨(k=.cell/\names.lookup x=some .free)
 |[],x,k,h=>by cases h
 |(n,q)::r,x,k,h=>by
  have ih:=@Qbm env r x k;rw[JC] at h;have h':Qg4 x ((if(q == Jf&&env.scope.kind == .function&&env.kindOf n == some .cell)=true then(n,YB) else(n,q))::_)=some k:=h;cases hx:x == n with
  |true=>
   by_cases hc:(q == Jf&&env.scope.kind == .function&&env.kindOf n == some .cell)=true
   ·rw[if_pos hc,Jq,hx] at h';have z:YB=k:=Qw h';have y:q=.free:=by simp at hc;exact hc.1.1
    refine .inr ⟨z.symm,?_⟩;rw[Jq,hx,y]
   ·rw[if_neg hc,Jq,hx] at h';refine .inl ?_
    rw[Jq,hx];exact h'
  |false=>
   have h2:Qg4 x (r.map λ(n,k)=>if(k == Jf&&env.scope.kind == .function&&env.kindOf n == some .cell) then(n,YB) else(n,k))=some k:=by
    by_cases hc:(q == Jf&&env.scope.kind == .function&&env.kindOf n == some .cell)=true
    ·rw[if_pos hc,Jq,hx] at h';exact h'
    ·rw[if_neg hc,Jq,hx] at h';exact h'
   rw[Jq,hx];exact ih h2
theorem relabel_free{env:Env}:∀{names:List (Str×Qbb)}{x:Str},names.lookup x=some .free->(names.map λ(n,k)=>if(k == Jf&&env.scope.kind == .function&&env.kindOf n == some .cell) then(n,YB) else(n,k)).lookup x=some .cell ∨
   (names.map λ(n,k)=>if(k == Jf&&env.scope.kind == .function&&env.kindOf n == some .cell) then(n,YB) else(n,k)).lookup x=some .free
 |[],x,h=>by cases h
 |(n,q)::r,x,h=>by
  have ih:=@relabel_free env r x;rw[JC];show Qg4 x ((if(q == Jf&&env.scope.kind == .function&&env.kindOf n == some .cell)=true then(n,YB) else(n,q))::_)=some .cell∨Qg4 x ((if(q == Jf&&env.scope.kind == .function&&env.kindOf n == some .cell)=true then(n,YB) else(n,q))::_)=some .free;cases hx:x == n with
  |true=>
   rw[Jq,hx] at h;have z:q=Jf:=Qw h;subst z;by_cases hc:(Jf == Jf&&env.scope.kind == .function&&env.kindOf n == some .cell)=true
   ·rw[if_pos hc,Jq,hx];exact .inl rfl
   ·rw[if_neg hc,Jq,hx];exact .inr rfl
  |false=>
   rw[Jq,hx] at h;by_cases hc:(q == Jf&&env.scope.kind == .function&&env.kindOf n == some .cell)=true
   ·rw[if_pos hc,Jq,hx];exact ih h
   ·rw[if_neg hc,Jq,hx];exact ih h
def Qje(N:List Str)(sc:Qbk)(M:List Str)(scope:Qbk)(cap:List (Option Nat)):Bool:=
 cap.length == M.length&&(M.zip cap).all (λ(x,o)=>match o with
  |none=>scope.names.lookup x == some .local
  |some j=>N[j]? == some x&&(scope.names.lookup x == some .free&&(sc.names.lookup x == some .cell||sc.names.lookup x == some .free))) &&
 (scope.kind == .function&&scope.names.all λy=>y.2 != .cell&&((y.2 != .free||(sc.names.lookup y.1 == some .cell||sc.names.lookup y.1 == some .free))&&(y.2 != .local||scope.names.lookup y.1 == some .local)))
def Qhb(cap:List (Option Nat))(σ:St):St:=cap.map λo=>match o with
 |none=>none
 |some j=>(σ[j]?).getD none
structure CapOk (N:List Str) (sc:Qbk) (M:List Str) (scope:Qbk) (cap:List (Option Nat)):Prop where
 len:cap.length=M.length
 own:∀(i j:Nat)(x:Str),M[i]? = some x->cap[i]? = some (some j)->N[j]? = some x/\scope.names.lookup x=some .free/\(sc.names.lookup x=some .cell∨sc.names.lookup x=some .free)
 kind:scope.kind=.function
 cell:∀y∈scope.names,y.2≠.cell
 free:∀y∈scope.names,y.2=.free->sc.names.lookup y.1=some .cell∨sc.names.lookup y.1=some .free
 loc:∀y∈scope.names,y.2=.local->scope.names.lookup y.1=some .local
theorem CapOk.of{N:List Str}{sc:Qbk}{M:List Str}{scope:Qbk}{cap:List (Option Nat)}(h:Qje N sc M scope cap=true):CapOk N sc M scope cap:=by
 unfold Qje at h;simp only[Jr,Zw,beq_iff_eq] at h;obtain⟨⟨h1,h2⟩,h3,h4⟩:=h;refine⟨h1,λi j x e1 e2=>?_,h3,λy hy z=>?_,λy hy z=>?_,λy hy z=>?_⟩
 ·have hm:(x,some j)∈M.zip cap:=by
   have:(M.zip cap)[i]? = some (x,some j):=by rw[List.getElem?_zip_eq_some];exact⟨e1,e2⟩
   exact QV this
  have:=h2 _ hm;simp only[Jr,beq_iff_eq,QuU] at this;exact this
 ·have:=(h4 y hy).1;simp[z] at this
 ·have:=(h4 y hy).2.1
  simpa [z] using this
 ·have:=(h4 y hy).2.2
  simpa [z] using this
section
variable{X:Cx}{pins:List (Addr×Obj)}{σ:St}{H H3:Hp}{s3:Shared}{M:List Str}{scope:Qbk}{cap:List (Option Nat)}{fp:List Addr}{h4:Zl}{t4:Nat}
theorem Cx.Ok.cells(ok:X.Ok){N:List Str}(c:CapOk N X.env.scope M scope cap):∀y∈scope.names,y.2=.free->∃d,X.env.cells.lookup y.1=some d:=λy hy z=>ok.has y.1 (c.free y hy z)
theorem Qia(I:Inv X pins σ H3 s3)(c:CapOk X.N X.env.scope M scope cap)(hf:∀b∈fp,FpOk X pins H3 b)(hb:∀b∈fp,b<s3.heap.objs.size)
  (hn:h4.Ns s3.heap.objs.size λ_=>none)(hk:∀b o,s3.heap.get? b=some o->h4.get? b=some o) :
  Inv (blk X M scope (QcL X.env scope.names []) fp s3 H3 s3.heap.objs.size) [] (Qhb cap σ) H3 { s3 with heap:=h4,toks:=t4 }:=by
 obtain⟨c1,c2,c3⟩:=Qjc scope.names [] (I.ok.cells c) (λx d q=>by cases q);refine⟨⟨I.ok.mod,c.kind,I.ok.glob,I.ok.blt,Ql _,λx y d e1 e2=>I.ok.inj x y d (c1 x d e1) (c1 y d e2),λx hx=>?_,(λx d z=>nomatch z),I.ok.hd,I.ok.frames,.inl rfl,λb hb'=>?_,I.bs,
  QQ I.ok.bsz I.sz,λb o e z=>?_,λb hb' z=>?_,I.stack,I.stkFree⟩,rfl,I.bare,Un.kept hk,⟨_,hn,λi x v e1 e2 e3=>?_⟩,λx d e=>?_,I.hok.fresh (Ql _),λx d e=>I.freeC x d (c1 x d e),λp hp=>(nomatch hp),I.hok.kept hk,?_⟩
 ·have hx':(relabel scope X.env).names.lookup x=some .cell∨(relabel scope X.env).names.lookup x=some .free:=hx;rcases hx' with q | q
  ·rcases Qbm q with z | ⟨_,z⟩
   ·exact absurd rfl (c.cell _ (Qcf z))
   ·exact c3 x (Qcf z)
  ·rcases Qbm q with z | ⟨z,_⟩
   ·exact c3 x (Qcf z)
   ·cases z
 ·obtain⟨f0,f1,f2,f3,f4,f5⟩:=hf b hb';exact⟨QY (hb b hb'),λx d e=>f4 x d (c1 x d e)⟩
 ·obtain⟨f0,f1,f2,f3,f4,f5⟩:=hf b z;rcases f3 with q | q
  ·exact I.ok.noex b o e q
  ·exact absurd (Q1 (Qv e) (QQ I.ok.bsz q)) (Yk _)
 ·obtain⟨f0,f1,f2,f3,f4,f5⟩:=hf b hb';rcases Qz.mp (I.stkSub b z) with q | q
  ·exact f1 q
  ·exact f2 q
 ·have e2':(cap.map λo=>match o with | none=>none | some j=>(σ[j]?).getD none)[i]? = some (some v):=e2;rw[QD] at e2';cases q:cap[i]? with
  |none=>rw[q] at e2';cases e2'
  |some o=>
   rw[q] at e2';cases o with
   |none=>cases e2'
   |some j=>
    have e4:(σ[j]?).getD none=some v:=Qw e2';have e5:σ[j]? = some (some v):=by
     cases r:σ[j]? with
     |none=>rw[r] at e4;cases e4
     |some o=>rw[r] at e4;exact congrArg some e4
    obtain⟨n1,n2,n3⟩:=c.own i j x e1 q;obtain⟨m,hm,hl⟩:=I.loc;obtain⟨u,ru,lk⟩:=hl j x v n1 e5 (n3.elim (λz=>.inr (.inl z)) λz=>.inr (.inr z));refine⟨u,ru,.inr ?_⟩;rcases lk with⟨k1,_⟩ | ⟨_,d,k2,k3⟩
    ·have k1':X.env.scope.names.lookup x=some .local:=k1;rcases n3 with z | z<;>(rw[z] at k1';cases k1')
    ·obtain⟨d',hd'⟩:=c3 x (Qcf n2);have ed:d'=d:=by
      have:=c1 x d' hd';rw[k2] at this;exact(Qw this).symm
     subst ed;exact⟨(relabel_free n2:(relabel scope X.env).names.lookup x=some .cell∨(relabel scope X.env).names.lookup x=some .free),d',hd',k3.keeps hk⟩
 ·obtain⟨v,q⟩:=I.cell x d (c1 x d e);exact⟨v,q.keeps hk⟩
 ·show(cap.map _).length=M.length;rw[Qh];exact c.len
theorem Qol{σ':St}{s':Shared}{h':Zl}(I:Inv X pins σ H3 s3)(hf:∀b∈fp,FpOk X pins H3 b)(J:Inv (blk X M scope (QcL X.env scope.names []) fp s3 H3 s3.heap.objs.size) [] σ' H s')(hs:QbE s3.heap.objs.size s'.heap h') :
  Inv X pins σ H { s' with heap:=h' }:=by
 have u:Un (frs X.stack) fp H3 H s3.heap s'.heap:=J.base;have ne:∀b o,s3.heap.get? b=some o->b≠s3.heap.objs.size:=λb o e=>QY (Qv e)
 have hC:H s3.heap.objs.size=none:=J.free;refine I.call' (ch:=fp) (s':={ s' with heap:=h' }) J.os ⟨λb o e n hb hx=>(hs.2 b (ne b o e)).trans (u.keep b o e n hb hx),λb o e n hb hx=>?_,u.free,λb o e hx=>?_,u.tups,u.frzs,u.tbls⟩ (λb o e=>?_) J.bare λb hb=>?_
 ·obtain⟨sl,q⟩:=u.slot b o e n hb hx;exact⟨sl,(hs.2 b (ne b o e)).trans q⟩
 ·obtain⟨o',q⟩:=u.there b o e hx;exact⟨o',(hs.2 b (ne b o e)).trans q⟩
 ·refine(J.hok b o e).stay (λc v hc q=>(hs.2 c ?_).trans q) (λ_ q=>q) λ_ _ q=>q
  rintro rfl;rcases hc with z | z
  ·rw[<- z,hC] at e;cases e
  ·rw[hC] at z;cases z
 ·obtain⟨f0,f1,f2,f3,f4,f5⟩:=hf b hb;exact⟨f3,f1,f4,f5⟩
end
def Wk:St->St->Prop
 |[],[]=>True
 |none::a,_::b=>Wk a b
 |some v::a,some u::b=>v=u/\Wk a b
 |_,_=>False
theorem Wk.len:∀{a b:St},Wk a b->a.length=b.length
 |[],[],_=>rfl
 |none::a,_::b,h=>congrArg (·+1) (Wk.len (a:=a) (b:=b) h)
 |some v::a,some u::b,h=>congrArg (·+1) (Wk.len (a:=a) (b:=b) h.2)
 |[],_::_,h=>h.elim
 |some _::_,[],h=>h.elim
 |none::_,[],h=>h.elim
 |some _::_,none::_,h=>h.elim
theorem Wk.get:∀{a b:St},Wk a b->∀(i:Nat) v,a[i]? = some (some v)->b[i]? = some (some v)
 |[],[],_,i,v,h=>by simp at h
 |none::a,x::b,h,0,v,e=>by simp at e
 |none::a,x::b,h,i+1,v,e=>by
  simp only[Qas] at e ⊢;exact Wk.get (a:=a) (b:=b) h i v e
 |some q::a,some u::b,h,0,v,e=>by
  simp only[Qjn] at e ⊢;rw[<- h.1];exact e
 |some q::a,some u::b,h,i+1,v,e=>by
  simp only[Qas] at e ⊢;exact Wk.get (a:=a) (b:=b) h.2 i v e
 |[],_::_,h,_,_,_=>h.elim
 |some _::_,[],h,_,_,_=>h.elim
 |none::_,[],h,_,_,_=>h.elim
 |some _::_,none::_,h,_,_,_=>h.elim
theorem Inv.wk{X:Cx}{pins:List (Addr×Obj)}{σ σ':St}{H:Hp}{s:Shared}(I:Inv X pins σ H s)(h:Wk σ' σ):Inv X pins σ' H s:=I.weak h.len h.get
def QoV(J:It)(body:V->Hp->(Hp->Prop)->Prop)(Qn:Hp->Prop)(H:Hp):Prop:=
 ∃W:Nat->Nat->Hp->Prop,(∃m,W 0 m H)/\∀i m H2,W i m H2->(J.stop i H2/\Qn H2)∨(J.go i H2/\∀x H3,J.yld i H2 x H3->body x H3 λH6=>∃m',m'<m/\W (i+1) m' H6)
abbrev Act:=(Shared->Prop)->Shared->Prop
def BodyOk(Y:Cx)(σ:St)(act:Act)(b:Hp->(Hp->Prop)->Prop):Prop:=
 ∀(pins:List (Addr×Obj))(s:Shared)(H:Hp)(k:Hp->Prop)(Q:Shared->Prop),Inv Y pins σ H s->b H k->(∀s' H',Inv Y pins σ H' s'->k H'->Q s')->act Q s
theorem Qh1{Y:Cx}{σ:St}{tg:Q5}{elt:Q5}{gens:List Comprehension}{scope:Qbk}{cpos:Pos}{d:Nat}{it D:Addr}{fp:List Addr}{tn:Nat->Zl->Prop}{J:It}{pins:List (Addr×Obj)}{s:Shared}{H:Hp}{body:V->Hp->(Hp->Prop)->Prop}{Qn:Hp->Prop}{R:Result->Shared->Prop}{act:Value->Act}
  (hc:Y.calm=true)(T:Turn Y.prog Y.w Y.K tg J fp it tn)(st:tn 0 s.heap)(hf:∀b∈fp,FpOk Y pins H b)
  (hturn:∀(Q:PySem.Fin->Shared->Prop)(E:Value->Shared->Prop)(s:Shared),wpAny (model Y.prog Y.w) Y.A (pyNext (.ref it)) (λr s1=>match r with
   |none=>Q (.done .next) s1
   |some v=>wpAny (model Y.prog Y.w) Y.A (letOwnedTupleGo tg (.ref it) v) (λ_ s2=>act v (λs3=>Q (.again (.compLoop (.ListComp elt gens scope cpos) d (.ref it) (.ref D) Y.env)) s3) s2) E s1) E s ->
   wpAny (model Y.prog Y.w) Y.A (compTurn (.ListComp elt gens scope cpos) d (.ref it) (.ref D) Y.env) Q E s)
  (hact:∀(x:V)(u:Value),RelV x u->BodyOk Y σ (act u) (body x))
  (I:Inv Y pins σ H s)(h:QoV J body Qn H)(hR:∀s' H',Inv Y pins σ H' s'->Qn H'->R (.ok .next) s') :
  codeAny (model Y.prog Y.w) Y.A (.compLoop (.ListComp elt gens scope cpos) d (.ref it) (.ref D) Y.env) R s:=by
 obtain⟨W,⟨m0,w0⟩,turn⟩:=h;have stat:∀{H':Hp},(∀b∈fp,H' b=none)->∀b∈fp,FpOk Y pins H' b:=λhn b hb=>⟨hn b hb,(hf b hb).2⟩
 refine codeAny_loop rfl (λn s'=>∃i H',Inv Y pins σ H' s'/\tn i s'.heap/\(∀b∈fp,H' b=none)/\W i n H') (λn s3 hI=>?_) m0 ⟨0,H,I,st,λb hb=>(hf b hb).1,w0⟩;show wpAny _ Y.A ((compTurn (.ListComp elt gens scope cpos) d (.ref it) (.ref D) Y.env).onRaise (λx=>do noteFrame x Y.env;theTreesLotGoes x)) _ _ s3;refine wpAny_noted (hturn _ _ _ ?_);obtain⟨i,H3,I3,st3,fr3,w3⟩:=hI;rcases turn i n H3 w3 with⟨stop,qn⟩ | ⟨go,step⟩
 ·refine thn (T.done Y rfl rfl rfl hc i pins s3 σ H3 _ I3 (stat fr3) st3 stop) λr s4 ⟨hr,I4⟩=>?_
  subst hr;exact hR s4 H3 I4 qn
 ·refine thn (T.item Y rfl rfl rfl hc i pins s3 σ H3 _ I3 (stat fr3) st3 go) λr s4 ⟨u,hr,h4⟩=>?_
  subst hr;refine thn h4 λ_ s5 ⟨x,H5,I5,r5,y5,st5,fr5⟩=>?_
  have I5':=I5.pinned (stat fr5) (T.obj _ _ st5);refine hact x u r5 _ s5 H5 _ _ I5' (step x H5 y5) λs7 H7 I7 ⟨m',hm,w7⟩=>?_
  refine⟨rfl,m',hm,i+1,H7,I7.unpinned,T.keep _ _ _ st5 λb hb o e=>(I7.pin (b,o) (JG _ (JG _ (Qce hb e)))).1,λb hb=>?_,w7⟩;obtain⟨o,e,dd⟩:=T.obj _ _ st5 b hb;exact(I7.pin (b,o) (JG _ (JG _ (Qce hb e)))).2.1
abbrev QlX (ifs:List Q5) (env:Env):Sem Bool:=forIn ifs true λc r=>if r=true then do let ok <- isTrue c env (eval c env);pure (J7 ok) else pure (J7 r)
def PTs(Y:Cx)(ifs:List Q5)(t:TT):Prop:=
 ∀(pins:List (Addr×Obj))(s:Shared)(σ:St)(H:Hp)(Q:Bool->Hp->Prop),Inv Y pins σ H s->t σ H Q->wpAny (model Y.prog Y.w) Y.A (QlX ifs Y.env) (TP Y pins σ Q) Y.xe s
def QiC:TT:=λ_ H Q=>Q true H
theorem QmC{Y:Cx}:PTs Y [] QiC:=λpins s σ H Q I h=>wpAny_tests_nil ⟨H,I,h⟩
theorem Qti{Y:Cx}{c:Q5}{t:TT}(h:PT Y c t):PTs Y [c] t:=λpins s σ H Q I q=>wpAny_tests_one (h pins s σ H Q I q)
def Qxx(Y:Cx)(tg:Q5)(ifs:List Q5)(inner:Act):Value->Act:=λu Q s=>
 wpAny (model Y.prog Y.w) Y.A (assign tg Y.env u) (λ_ s4=>wpAny (model Y.prog Y.w) Y.A (QlX ifs Y.env) (λok s5=>if ok=true then inner Q s5 else Q s5) (λ_ _=>False) s4) (λ_ _=>False) s
def bOf(σ:St)(g:TG)(tc:TT)(inner:St->Hp->(Hp->Prop)->Prop):V->Hp->(Hp->Prop)->Prop:=λx H k=>g x σ H λσ4 H4=>Wk σ σ4/\tc σ4 H4 λb H5=>
 if b=true then inner σ4 H5 k else k H5
theorem Qok{Y:Cx}{σ:St}{tg:Q5}{ifs:List Q5}{g:TG}{tc:TT}{inner:Act}{ri:St->Hp->(Hp->Prop)->Prop}(hx:Y.xe=λ_ _=>False)(hg:PG Y tg g)(ht:PTs Y ifs tc)(he:∀σ4,BodyOk Y σ4 inner (ri σ4))(x:V)(u:Value)(r:RelV x u) :
  BodyOk Y σ (Qxx Y tg ifs inner u) (bOf σ g tc ri x):=by
 intro pins s H k Q I h hQ;have hx':∀(v:Value)(s':Shared),Y.xe v s'->False:=λv s' z=>by rw[hx] at z;exact z
 refine J6 (hg pins s σ H x u _ I r h) (λ_ s4 ⟨σ4,H4,I4,wk,q4⟩=>?_) hx';refine J6 (ht pins s4 σ4 H4 _ I4 q4) (λb s5 ⟨H5,I5,q5⟩=>?_) hx';cases b with
 |false=>
  rw[if_neg Qt] at q5;rw[if_neg Qt];exact hQ s5 H5 (I5.wk wk) q5
 |true=>
  rw[if_pos rfl] at q5;rw[if_pos rfl];exact he σ4 pins s5 H5 k Q I5 q5 λs' H' I' k'=>hQ s' H' (I'.wk wk) k'
def QsC(Y:Cx)(elt:Q5)(D:Addr):Act:=λQ s=>wpAny (model Y.prog Y.w) Y.A (eval elt Y.env) (λv s6=>wpAny (model Y.prog Y.w) Y.A (call (.builtin "list.append") [.ref D,v]) (λ_ s7=>Q s7) (λ_ _=>False) s6) (λ_ _=>False) s
def QxW(p:Addr)(te:TE):St->Hp->(Hp->Prop)->Prop:=λσ H k=>te σ H λv H6=>∃ys,H6 p=some (.lst ys)/\ys.length<sizeLine/\k (upd H6 p (.lst (ys++[v])))
theorem Qkq{Y:Cx}{σ:St}{elt:Q5}{te:TE}{D:Addr}(hx:Y.xe=λ_ _=>False)(he:PE Y elt te):BodyOk Y σ (QsC Y elt D) (QxW D te σ):=by
 intro pins s H k Q I h hQ;have hx':∀(v:Value)(s':Shared),Y.xe v s'->False:=λv s' z=>by rw[hx] at z;exact z
 refine J6 (he pins s σ H _ I h) (λv s6 ⟨y,H6,I6,r6,ys,e,hz,q⟩=>?_) hx';exact J6 (QhU (X:=Y) pins s6 σ H6 (.ref D) [y] (.ref D) [v] (λ_ H'=>k H') I6 rfl (.cons r6 .nil) ⟨D,ys,y,rfl,rfl,e,hz,q⟩) (λ_ s7 ⟨_,H7,I7,_,q7⟩=>hQ s7 H7 I7 q7) hx'
theorem Qjs{Y:Cx}{elt tg iter:Q5}{ifs:List Q5}{scope:Qbk}{cpos:Pos}{it D:Addr}(Q:PySem.Fin->Shared->Prop)(E:Value->Shared->Prop)(s:Shared)
  (h:wpAny (model Y.prog Y.w) Y.A (pyNext (.ref it)) (λr s1=>match r with
   |none=>Q (.done .next) s1
   |some v=>wpAny (model Y.prog Y.w) Y.A (letOwnedTupleGo tg (.ref it) v) (λ_ s2=>Qxx Y tg ifs (QsC Y elt D) v (λs3=>Q (.again (.compLoop (.ListComp elt [⟨tg,iter,ifs,0⟩] scope cpos) 0 (.ref it) (.ref D) Y.env)) s3) s2) E s1) E s) :
  wpAny (model Y.prog Y.w) Y.A (compTurn (.ListComp elt [⟨tg,iter,ifs,0⟩] scope cpos) 0 (.ref it) (.ref D) Y.env) Q E s:=by
 rw[compTurn_list];refine Qa (QoE (Qa (thn h λr s1 h1=>?_)));cases r with
 |none=>exact Qk h1
 |some v=>
  refine Qa (thn h1 λ_ s2 h2=>?_);refine Qa (J6 h2 (λ_ s4 h4=>Qa (J6 h4 (λok s5 h5=>?_) λ_ _ f=>f.elim)) λ_ _ f=>f.elim);cases ok with
  |false=>exact Qk h5
  |true=>exact Qa (Qa (J6 h5 (λx s6 h6=>Qa (J6 h6 (λ_ s7 h7=>Qk (Qk h7)) λ_ _ f=>f.elim)) λ_ _ f=>f.elim))
def tComp(cap:List (Option Nat))(wi:TI)(g:TG)(tc:TT)(te:TE):TE:=λσ H Q=>wi σ H λJ H1=>∀p,H1 p=none->QoV J (bOf (Qhb cap σ) g tc (QxW p te)) (Q (.ref p)) (upd H1 p (.lst []))
theorem FpOk.upd{X:Cx}{pins:List (Addr×Obj)}{H:Hp}{b a:Addr}{o:HO}(h:FpOk X pins H b)(hne:b≠a):FpOk X pins (upd H a o) b:=⟨by rw[J8 hne];exact h.1,h.2⟩
theorem QjQ{X:Cx}{M:List Str}{cap:List (Option Nat)}{elt tg iter:Q5}{ifs:List Q5}{scope:Qbk}{pos:Pos}{wi:TI}{g:TG}{tc:TT}{te:TE}(hc:X.calm=true)(ok:Qje X.N X.env.scope M scope cap=true)
  (hi:PI X tg iter wi)(hb:∀cl ex s3 H3 C,PG (blk X M scope cl ex s3 H3 C) tg g/\PTs (blk X M scope cl ex s3 H3 C) ifs tc/\PE (blk X M scope cl ex s3 H3 C) elt te)
  (hs:∀x,foldedSetIterable iter X.env x=pure x:=by intro _;rfl):PE X (.ListComp elt [⟨tg,iter,ifs,0⟩] scope pos) (tComp cap wi g tc te):=by
 intro pins s σ H Q I h;have c:=CapOk.of ok;rw[eval_ListComp];refine Qov (use:=none) rfl hs (Qn5 (I.ok.cells c)) c.kind c.loc ?_
 refine thn (hi pins s σ H _ I h) λv s1 h1=>thn h1 λitv s2 h2=>?_
 obtain⟨it,fp,tn,J,H2,e,I2,T,st2,f2,hW⟩:=h2;subst e;refine JS (QuM c.cell (by intro y hy;simp at hy) (λh₁ hns₁ hsb₁=>?_) c.kind);have I3:Inv X pins σ (upd H2 s2.heap.objs.size (.lst [])) { s2 with heap:=s2.heap.push { cls:=.type "list",data:=.seq ([]:List Value).toArray } }:=I2.lnew (t':=s2.toks) (ys:=[]) .nil (QC _);have lt2:∀b∈fp,b<s2.heap.objs.size:=λb hb=>by obtain⟨o,e,_⟩:=T.obj _ _ st2 b hb;exact Qv e
 have f3:∀b∈fp,FpOk X pins (upd H2 s2.heap.objs.size (.lst [])) b:=λb hb=>(f2 b hb).upd (QY (lt2 b hb))
 generalize hs3:({ s2 with heap:=s2.heap.push { cls:=.type "list",data:=.seq ([]:List Value).toArray } }:Shared)=s3 at I3;have e3:s3.heap=s2.heap.push { cls:=.type "list",data:=.seq ([]:List Value).toArray }:=by rw[<- hs3]
 have z3:s3.heap.objs.size=s2.heap.objs.size+1:=by rw[e3,Y9]
 have hk:∀b o,s3.heap.get? b=some o->h₁.get? b=some o:=λb o e=>hsb₁.extBut b o (by
  have:=Qv e;rw[e3] at this;exact QY this) (Qe _ (e3 ▸ e))
 have hn₁:h₁.Ns s3.heap.objs.size λ_=>none:=by rw[e3];exact hns₁
 have B:=Qia (t4:=s3.toks+([]:List (Str×Value)).length) (fp:=fp) I3 c f3 (λb hb=>by rw[z3];exact QsI (lt2 b hb)) hn₁ hk;have st4:tn 0 h₁:=T.keep _ _ _ st2 λb hb o e=>hk b o (by rw[e3];exact Qe _ e)
 have fp4:∀b∈fp,FpOk (blk X M scope (QcL X.env scope.names []) fp s3 (upd H2 s2.heap.objs.size (.lst [])) s3.heap.objs.size) [] (upd H2 s2.heap.objs.size (.lst [])) b:=λb hb=>by
  refine⟨(f3 b hb).1,(B.ok.exf b hb).1,B.ok.exfs b hb,.inl hb,(B.ok.exf b hb).2,λp hp=>(nomatch hp)⟩
 obtain⟨hg,ht,he⟩:=hb (QcL X.env scope.names []) fp s3 (upd H2 s2.heap.objs.size (.lst [])) s3.heap.objs.size;have loop:codeAny (model X.prog X.w) X.A (.compLoop (.ListComp elt [⟨tg,iter,ifs,0⟩] scope pos) 0 (.ref it) (.ref s2.heap.objs.size) (compEnvC scope (QcL X.env scope.names []) s3.heap.objs.size X.env))
   (compPost (model X.prog X.w) X.A X.xe none (EP X pins σ Q) (.ref s2.heap.objs.size) s3.heap.objs.size) { s3 with heap:=h₁,toks:=s3.toks+([]:List (Str×Value)).length }:=by
  refine Qh1 (Y:=blk X M scope (QcL X.env scope.names []) fp s3 (upd H2 s2.heap.objs.size (.lst [])) s3.heap.objs.size) (gens:=[⟨tg,iter,ifs,0⟩]) (d:=0) hc T st4 fp4
   (λQ E s h=>Qjs Q E s h) (λx u r=>Qok rfl hg ht (λσ4=>Qkq rfl he) x u r) B (hW _ (I2.hok.fresh (Ql _))) λs' H' I' q=>?_
  obtain⟨m,hn,_⟩:=I'.loc;exact⟨m,hn,λh' hs'=>⟨.ref s2.heap.objs.size,H',Qol I3 f3 I' hs',rfl,q⟩⟩
 exact QrQ loop (T.self _ 0 _ _ _ st4 loop)
section
variable{X:Cx}
theorem ZU:CallR X (.builtin "isinstance") (λxs H Q=>∃x t T b,xs=[x,.ty T]/\TyOf X.K H x t/\PySem.W.kitOne X.K t (.type T)=some b/\Q (.bl b) H):=by
 intro pins s σ H xs us Q I r h;obtain⟨x,t,T,b,rfl,ty,e,q⟩:=h;obtain⟨u,v,rfl,ru,rv⟩:=vals2 r;cases(show v=Yl T from rv);exact Qny I ru ty e λtk=>⟨.bl b,H,I.tok tk,rfl,q⟩
theorem QrG{bs:List Bool}:∀{us:List Value},Vals (bs.map V.bl) us->LSm.BoolsAre us bs:=by
 induction bs with
 |nil=>intro us r;cases r;exact .nil
 |cons b bs ih=>
  intro us r;cases r with
  |cons r t=>
   cases(show _=ZW b from r);exact .cons b (ih t)
theorem QbK:CallR X (.builtin "all") (λxs H Q=>∃(p:Addr)(bs:List Bool),xs=[.ref p]/\SqL X.K H p (bs.map V.bl)/\X.calm=true/\Q (.bl (bs.all id)) H):=by
 intro pins s σ H xs us Q I r h;obtain⟨p,bs,rfl,hp,hc,q⟩:=h;obtain⟨u,rfl,ru⟩:=vals1 r;cases ru;obtain⟨its,rv,pl,hz⟩:=I.list hp;have hl:=pl.isList;have hb:=QrG rv;have hlt:p<s.heap.objs.size:=by obtain⟨_,e,_⟩:=hl;exact Qv e
 refine call_all_walk (QxZ hl ?_);refine⟨s.heap.objs.size,[s.heap.objs.size,p],[s.heap.objs.size],its.toArray.size,_,_,λi=>(bs[i]?).getD true,rfl,Walks.list (A:=X.A.in1) (I.ok.hd hc) _ p (QY hlt) its.toArray,
  ⟨⟨_,QK _ rfl,rfl,rfl⟩,hl.push _⟩,λi v s' Q' E' hP hQ=>?_,λh' tk hk=>?_⟩
 ·obtain⟨b,e,rfl⟩:=hb.get i v (by simpa using hP);simp only[e,Option.getD_some] at hQ;exact Zp hQ
 ·have e:((JX its.toArray.size).all λi=>(bs[i]?).getD true)=bs.all id:=by
   rw[Qp,hb.length];exact LSm.range_all bs
  rw[e];exact⟨.bl _,H,I.kept (LSm.kept_iter hk),rfl,q⟩
def Qzz:V->Option Int->Option Int->Hp->VK->Prop:=λx lo hi H Q=>∃a xs,x=.ref a/\H a=some (.tup xs)/\∀p H',Same H H'->H' p=some (.tup (Qki xs lo hi))->Q (.ref p) H'
theorem Jy{H:Hp}{p:Addr}{o:HO}(h:H p=none):Same H (upd H p o):=λb u e=>by rw[J8 (Z1 e h)];exact e
theorem QcA{prog:QP}{w:JH}{A:Js}{E:Value->Shared->Prop}{s:Shared}{t sl:Addr}{items:Array Value}{vl vu:Value}{lo hi:Option Int}{Q:Value->Shared->Prop}(ht:IsTup s.heap t items)(hs:s.heap.IsSliceOf sl vl vu .none)(pl:Qil vl lo)(pu:Qil vu hi)
  (h1:HT.sIx items.size 0 lo=0)(h2:HT.sIx items.size items.size hi=items.size)(h:Q (.ref t) s):wpAny (model prog w) A (getItem (.ref t) (.ref sl)) Q E s:=by
 obtain⟨os,hos,hcs,hds⟩:=id hs;have hTs:s.TypeIs (.ref sl) "slice" := ⟨os,hos,hcs⟩;unfold getItem
 try with_reducible refine Z2 ?_
 first | refine Qa (Qk ?_) | skip
 refine Qa (Qhc ht.typeIs (by decide) ?_);refine Qa (Zz (name:=QaW "__getitem__") ht.typeIs Jg
  (ZV Jg ht.typeIs Qff ?_ (Qf5 _ _)))
 show wpAny _ _ (QaP (.ref t) >>= _) _ _ s;refine Qa (QoF ht ?_);refine Qa (Qih hTs ?_);rw[if_pos (by decide)];refine Qa (HT.QbN hs pl pu ?_);show wpAny _ _ (if(((HT.sIx items.size 0 lo:Nat):Int) == 0&&(1:Int) == 1&&(HT.sIx items.size items.size hi - HT.sIx items.size 0 lo) == items.size)=true then _ else _) _ _ s;rw[if_pos (by rw[h1,h2];simp)];refine Qa (m:=Qyo _) (Qa (Qih ht.typeIs (Qk ?_)));rw[if_pos (by decide)];exact Qa (Yj (Qk ⟨_,rfl,Qk h⟩))
theorem Qvw:SlR X Qzz:=by
 intro pins s σ H x v vl vu lo hi sl Q I rx hs pl pu h;obtain⟨a,xs,rfl,hx,q⟩:=h;by_cases hw:HT.sIx xs.length 0 lo=0/\HT.sIx xs.length xs.length hi=xs.length
 ·cases rx;obtain⟨its,r,ht,hz⟩:=I.tuple (SqT.of hx);have hlen:its.toArray.size=xs.length:=by rw[Qp];exact r.length.symm
  refine⟨"tuple",_,Jg.lookup,ht.typeIs,?_⟩;refine QcA ht hs pl pu (by rw[hlen];exact hw.1) (by rw[hlen];exact hw.2) ?_
  refine⟨.ref a,H,I,rfl,q a H (Same.refl H) ?_⟩;have e:Qki xs lo hi=xs:=by
   unfold Qki;rw[hw.1,hw.2];simp
  rw[e];exact hx
 ·exact Qvv pins s σ H (.ref a) v vl vu lo hi sl Q I rx hs pl pu ⟨a,xs,rfl,SqT.of hx,hw,λp hp=>q p _ (Jy hp) JK⟩
def QAg(te ts:TE):TE:=λσ H Q=>te σ H λx H1=>Qvo ts σ H1 λo H2=>o=some (-1)/\∃a xs,x=.ref a/\H2 a=some (.tup xs)/\∀p H',Same H2 H'->H' p=some (.tup xs.reverse)->Q (.ref p) H'
theorem Qsp{α β:Type}(f:α->Option β)(g:α->β):∀(l:List α),(∀m∈l,f m=some (g m))->l.filterMap f=l.map g
 |[],_=>rfl
 |a::l,h=>by
  rw[Qak,h a Zt,JC,Qsp f g l λm hm=>h m (Jw _ hm)]
theorem Qpq(xs:List Value):((JX xs.length).filterMap λ(m:Nat)=>xs.toArray[((xs.length:Int) - 1+(m:Int)*(-1)).toNat]?)=xs.reverse:=by
 have e:∀m∈JX xs.length,(xs.toArray[((xs.length:Int) - 1+(m:Int)*(-1)).toNat]?)=some (xs.reverse.getD m .none):=by
  intro m hm;have hm':m<xs.length:=Z9.mp hm;have e1:((xs.length:Int) - 1+(m:Int)*(-1)).toNat=xs.length - 1 - m:=by omega
  rw[e1];have e2:xs.reverse[m]? = xs[xs.length - 1 - m]? := List.getElem?_reverse hm'
  rw[List.getElem?_toArray,JE,e2];have:xs.length - 1 - m<xs.length:=by omega
  rw[Qf this];rfl
 have e3:((JX xs.length).filterMap λ(m:Nat)=>xs.toArray[((xs.length:Int) - 1+(m:Int)*(-1)).toNat]?)=(JX xs.length).map λm=>xs.reverse.getD m .none:=by
  exact Qsp _ _ _ e
 rw[e3];refine QaL λi=>?_
 rw[QD];by_cases hi:i<xs.length
 ·rw[Zk hi];have:i<xs.reverse.length:=by rw[Qaj];exact hi
  show some (xs.reverse.getD i .none)=_;rw[Qf this,JE,Qf this];rfl
 ·have h1:(JX xs.length)[i]? = none:=Jn (by rw[JN];omega);have h2:xs.reverse[i]? = none:=Jn (by rw[Qaj];omega);rw[h1,h2];rfl
theorem QdF{prog:QP}{w:JH}{A:Js}{E:Value->Shared->Prop}{s:Shared}{t sl:Addr}{items:List Value}{tk:Tok}{Q:Value->Shared->Prop}(ht:IsTup s.heap t items.toArray)(hs:s.heap.IsSliceOf sl .none .none (.int (-1) tk))
  (h:Q (.ref s.heap.objs.size) { s with heap:=s.heap.push { cls:=.type "tuple",data:=.seq items.reverse.toArray } })(hsz:items.length<=sizeLine):wpAny (model prog w) A (getItem (.ref t) (.ref sl)) Q E s:=by
 have htake:sizeOk (.seq items.reverse.toArray):=by
  show items.reverse.toArray.size<=sizeLine;rw[Qp,Qaj];exact hsz
 obtain⟨os,hos,hcs,hds⟩:=id hs;have hTs:s.TypeIs (.ref sl) "slice" := ⟨os,hos,hcs⟩;unfold getItem
 try with_reducible refine Z2 ?_
 first | refine Qa (Qk ?_) | skip
 refine Qa (Qhc ht.typeIs (by decide) ?_);refine Qa (Zz (name:=QaW "__getitem__") ht.typeIs Jg
  (ZV Jg ht.typeIs Qff ?_ (Qf5 _ _)))
 show wpAny _ _ (QaP (.ref t) >>= _) _ _ s;refine Qa (QoF ht ?_);refine Qa (Qih hTs ?_);rw[if_pos (by decide)];have app:∀{Q:Int×Int×Nat->Shared->Prop}{A:Js}{E:Value->Shared->Prop},Q ((items.length:Int) - 1,-1,items.length) s->wpAny (model prog w) A (Yp (.ref sl) (pure (items.toArray.size:Int))) Q E s:=by
  intro Q A E h;unfold Yp Qd0;refine Qa (Qa (JZ hos hds (x:=.none) rfl (Qa (JZ hos hds (x:=.none) rfl (Qa (JZ hos hds (x:=.int (-1) tk) rfl (Qk ?_)))))));refine Qa (slicePart_int ?_);show wpAny _ _ (if((-1:Int) == 0)=true then _ else _) _ _ s;rw[if_neg (by decide)];refine Qa (Qfc (Qa (Qfc (Qa (Qk ?_)))));have e1:Zu none none (-1) (items.toArray.size:Int)=((items.length:Int) - 1,-1):=by
   unfold Zu;simp
  show wpAny _ _ (match Zu none none (-1) (items.toArray.size:Int) with | (lo,hi)=>pure (lo,(-1:Int),JU lo hi (-1))) _ _ s;rw[e1];have e2:JU ((items.length:Int) - 1) (-1) (-1)=items.length:=by
   unfold JU;simp only[show ¬((-1:Int) > 0) by decide,if_false];by_cases hn:items.length=0
   ·rw[hn];decide
   ·rw[if_pos (by omega)];have:((items.length:Int) - 1 - -1 - 1) / - -1=(items.length:Int) - 1:=by
     have:(- (-1:Int))=1:=by decide
     rw[this,Int.ediv_one];omega
    rw[this];omega
  show wpAny _ _ (pure ((items.length:Int) - 1,(-1:Int),JU ((items.length:Int) - 1) (-1) (-1))) _ _ s;rw[e2];exact Qk h
 refine Qa (app ?_);show wpAny _ _ (if(((items.length:Int) - 1) == 0&&(-1:Int) == 1&&items.length == items.toArray.size)=true then _ else _) _ _ s;rw[if_neg (by simp),Qpq]
 first
  |exact Qa (m:=JY _) (JS (Qk ⟨_,rfl,Qk h⟩) htake)
  |exact Qa (m:=JY _) (JS (Qa (Qk (Qk ⟨_,rfl,Qk h⟩))) htake)
  |exact Qa (Qa (m:=JY _) (JS (Qk (Qk ⟨_,rfl,Qk h⟩)) htake))
  |exact Qa (Qa (m:=JY _) (JS (Qk ⟨_,rfl,Qk h⟩) htake))
theorem QvZ{e st:Q5}{te ts:TE}{pos p2:Pos}(he:PE X e te)(hst:PE X st ts):PE X (.Subscript e (.Slice none none (some st) p2) pos) (QAg te ts):=by
 intro pins s σ H Q I h;refine Qx7 (thn (he pins s σ H _ I h) λv s1 ⟨x,H1,I1,r1,q1⟩=>?_);refine wpAny_Slice ?_
 rw[QoJ];refine Qk (Qk ?_);refine thn (QmF hst pins s1 σ H1 _ I1 q1) λvs s2 ⟨o,H2,I2,po,eo,a,xs,ex,hx,q⟩=>?_
 subst eo ex;cases r1;cases po with
 |int _ tk=>
  have I4:Inv X pins σ H2 { s2 with heap:=s2.heap.push { cls:=.type "slice",data:=.fields #[.none,.none,.int (-1) tk] } }:=I2.kept (t':=s2.toks) λb ob q=>Qe _ q
  obtain⟨its,r,ht,hz⟩:=I4.tuple (SqT.of hx);show wpAny (model X.prog X.w) X.A (subscriptTail e (.Slice none none (some st) p2) (.ref a) (.ref s2.heap.objs.size)) (EP X pins σ Q) X.xe { s2 with heap:=s2.heap.push { cls:=.type "slice",data:=.fields #[.none,.none,.int (-1) tk] } };refine tail_any (ops:=[.ref a,.ref s2.heap.objs.size]) ht.typeIs Jg.lookup (QdF ht (Qga ..) ?_ (by rw[<- r.length];exact hz)) (by with_unfolding_all rfl);have fr:H2 (s2.heap.push { cls:=.type "slice",data:=.fields #[.none,.none,.int (-1) tk] }).objs.size=none:=I4.hok.fresh (Ql _);refine⟨.ref _,_,I4.laid (t':=s2.toks) (o:=.tup xs.reverse) (λb ob q=>Qe _ q) (Ql _) ?_,rfl,q _ _ (Jy fr) JK⟩;exact⟨by rw[Qaj];exact hz,_,r.reverse,QkC _ _⟩
def QvK:R2:=λx y H Q=>∃a b xs ys,x=.ref a/\y=.ref b/\H a=some (.tup xs)/\H b=some (.tup ys)/\xs.length+ys.length<=sizeLine/\∀p H',Same H H'->H' p=some (.tup (xs++ys))->Q (.ref p) H'
theorem QtY:OpR X (binaryOp .Add) QvK:=by
 intro pins s σ H x y v u Q I rx ry h;obtain⟨a,b,xs,ys,rfl,rfl,ha,hb,hz,q⟩:=h;by_cases hx:xs=[]
 ·subst hx;cases rx;cases ry;obtain⟨its,r1,p1,_⟩:=I.tuple (SqT.of ha);obtain⟨its2,r2,p2,_⟩:=I.tuple (SqT.of hb);cases r1;obtain⟨⟨cls,dd,data,sl⟩,ho,hc,n,hd⟩:=id p1;obtain⟨⟨cls2,dd2,data2,sl2⟩,ho2,hc2,n2,hd2⟩:=id p2;simp only at hc hd hc2 hd2;subst hc hd hc2 hd2;exact QsE ⟨_,ho,rfl⟩ ⟨_,ho2,rfl⟩ Qiq QoG PySem.F.slot_tuple_add PySem.F.entry_tuple_add (PySem.F.args_tuple_add_2 _ _)
   (tuple_addW0 a b #[] its2.toArray n n2 dd dd2 sl sl2 rfl) ⟨ho,ho2,⟨.ref b,H,I,rfl,q b H (Same.refl H) hb⟩⟩
 ·exact QtX pins s σ H _ _ v u Q I rx ry ⟨a,b,xs,ys,rfl,rfl,SqT.of ha,SqT.of hb,hx,hz,λe=>q a H (Same.refl H) (by rw[e,Je];exact ha),λ_ p hp=>q p _ (Jy hp) JK⟩
def Qyx:TE:=λ_ H Q=>∀p,H p=none->Q (.ref p) (upd H p (.dK []))
theorem Qts{pos:Pos}:PE X (.Dict [] [] pos) Qyx:=λpins s σ H Q I h=>by
 refine wpAny_Dict_empty ⟨.ref s.heap.objs.size,_,I.laid (a:=s.heap.objs.size) (o:=.dK []) (t':=s.toks) (λ_ _ q=>Qe _ q) (Ql _) ?_,rfl,h _ (I.hok.fresh (Ql _))⟩;have hb:sysModules<s.heap.objs.size:=Nat.lt_trans (by decide) (I.mod.glob.keeps I.bk).lt;exact⟨QC _,beq_eq_false_iff_ne.mpr (Qea (QY hb)),[],.nil,Heap.DictOf.new s.heap⟩
end
end L2
namespace Rz
open Sem (wp)
section
variable{prog:QP}{w:JH}{A:Js}{E:Value->Shared->Prop}{s:Shared}
theorem Qeo{it t:Addr}{i:Nat}{items:Array Value}{x:Value}{Q:Value->Shared->Prop}(hit:s.heap.IsTupleIter it t i)(ht:s.heap.IsTuple t items)(hx:items[i]? = some x)
  (hQ:∀h',h'.IsTupleIter it t (i+1)->QbE it s.heap h'->Q x { s with heap:=h' }):wpAny (model prog w) A (JO (.ref it)) Q E s:=by
 obtain⟨o,ho,hc,hd⟩:=id hit;obtain⟨ol,hol,_,nl,hdl⟩:=ht;unfold JO;refine Qa (Zz (name:=QaW "__next__") hit.typeIs Qaa
  (ZV Qaa hit.typeIs Qir ?_ (Qim _)))
 show wpAny _ _ (field (.ref it) 0 >>= _) _ _ s;refine Qa (JZ ho hd (x:=.ref t) rfl ?_);show wpAny _ _ (if(JT t == Zs)=true then _ else _) _ _ s;rw[if_neg (show ¬((JT t == Zs)=true) from Qt)];show wpAny _ _ (field (.ref it) 1 >>= _) _ _ s;refine Qa (JZ ho hd (x:=.int i 0) rfl ?_);show wpAny _ _ (seqItems? (.ref t) >>= _) _ _ s;refine Qa (YE hol hdl ?_);simp only[QN,hx];refine Qa (wpAny_setField ho hd (by simp) (Qk ⟨x,rfl,Qk (hQ _ ?_ (Qg6 ..))⟩));exact⟨_,QlA _ ho (Obj.isFreed_of_fields (QrT hd _)),(Obj.cls_mapFields ..).trans hc,by
  rw[QrT hd];simp[rawInt]⟩
theorem QiR{it t:Addr}{i:Nat}{items:Array Value}{Q:Value->Shared->Prop}(hh:A.handled=none)(hit:s.heap.IsTupleIter it t i)(ht:s.heap.IsTuple t items)(hx:items[i]? = none)
  (hE:∀h' e,Heap.ExtBut it s.heap h'->(∃o,h'.get? e=some o/\o.cls=.type "StopIteration")->E (.ref e) { s with heap:=h' }):wpAny (model prog w) A (JO (.ref it)) Q E s:=by
 obtain⟨o,ho,hc,hd⟩:=id hit;obtain⟨ol,hol,_,nl,hdl⟩:=ht;unfold JO;refine Qa (Zz (name:=QaW "__next__") hit.typeIs Qaa
  (ZV Qaa hit.typeIs Qir ?_ (Qim _)))
 show wpAny _ _ (field (.ref it) 0 >>= _) _ _ s;refine Qa (JZ ho hd (x:=.ref t) rfl ?_);show wpAny _ _ (if(JT t == Zs)=true then _ else _) _ _ s;rw[if_neg (show ¬((JT t == Zs)=true) from Qt)];show wpAny _ _ (field (.ref it) 1 >>= _) _ _ s;refine Qa (JZ ho hd (x:=.int i 0) rfl ?_);show wpAny _ _ (seqItems? (.ref t) >>= _) _ _ s;refine Qa (YE hol hdl ?_);simp only[QN,hx];refine Qa (Yj (Qa (wpAny_setField ho hd (by simp) ?_)));show wpAny _ _ (newExc (.type "StopIteration") [] >>= _) _ _ _;refine Qa ?_
 simp only[newExc,newTuple];refine Qa (JS ?_ (by size_fits));refine Qa (m:=firstArgMember _ _) (Y5 (a:=Zs) (by first | rfl | (simp only[firstArgMember];rfl)) ?_);refine JS ?_ (by size_fits)
 simp only[raiseNew];refine Qa (wpAny_handled ?_)
 first | rw[show A.in1.handled=none from hh] | rw[hh]
 refine Qa (Qk (wpAny_throw ?_));exact hE _ _ (((Qg6 ..).extBut.push _).push _) ⟨_,QK _ rfl,rfl⟩
structure Apart (z TI TO i1 i2 t1 t2:Addr):Prop where
 a1:TI≠z
 a2:TO≠z
 a3:i1≠z
 a4:i2≠z
 a5:TI≠TO
 a6:TI≠i1
 a7:TI≠i2
 a8:TO≠i1
 a9:TO≠i2
 b1:i1≠i2
 b2:t1≠z/\t1≠TO/\t1≠i1/\t1≠i2
 b3:t2≠z/\t2≠TO/\t2≠i1/\t2≠i2
structure Qor (h:Zl) (z TI TO i1 i2 t1 t2:Addr) (f:Value) (k:Nat):Prop where
 zp:QsK h z TI TO f
 ti:IsPair h TI (.ref i1) (.ref i2)
 to:∃a b,IsPair h TO a b
 i1:h.IsTupleIter i1 t1 k
 i2:h.IsTupleIter i2 t2 k
theorem Qni{z TI TO i1 i2 t1 t2:Addr}{k:Nat}{xs ys:Array Value}{x y:Value}{Q:Option Value->Shared->Prop}(D:Apart z TI TO i1 i2 t1 t2)(Z:Qor s.heap z TI TO i1 i2 t1 t2 .none k)
  (hl1:s.heap.IsTuple t1 xs)(hl2:s.heap.IsTuple t2 ys)(hx:xs[k]? = some x)(hy:ys[k]? = some y)
  (hQ:∀h',Qor h' z TI TO i1 i2 t1 t2 (rawInt s.heap.objs.size) (k+1)->IsPair h' s.heap.objs.size x y->(∀c o,c≠z->c≠TO->c≠i1->c≠i2->s.heap.get? c=some o->h'.get? c=some o)->Q (some (.ref s.heap.objs.size)) { s with heap:=h' }) :
  wpAny (model prog w) A (pyNext (.ref z)) Q E s:=by
 obtain⟨hz,hTI,⟨a,b,hTO⟩,h1,h2⟩:=Z;have hT:s.TypeIs (.ref z) "zip" := ⟨_,hz,rfl⟩;unfold pyNext;refine Qa (QcM (Zz (name:=QaW "__next__") hT Qdg (ZV Qdg hT QxM ?_ (Qu8 _))));show wpAny _ _ (field (.ref z) 2 >>= _) _ _ _;refine Qa (JZ hz rfl (x:=.bool false) rfl ?_);show wpAny _ _ (field (.ref z) 3 >>= _) _ _ _;refine Qa (JZ hz rfl (x:=.ref TI) rfl (Qa (YE hTI rfl ?_)));show wpAny _ _ (ZK (.ref z) >>= _) _ _ _;refine Qa ?_
 unfold ZK;refine Qa (JZ hz rfl (x:=.none) rfl (Qk ?_));simp only[if_true];refine Qa (Yj (Qa (JZ hz rfl (x:=.ref TO) rfl (Qa (YN hz (by simp) λg1 z1 s1=>?_)))))
 replace z1:QsK g1 z TI TO .ellipsis:=z1
 refine Qa ?_
 simp only[Qfr,QuR,Qg5,Qu6];refine Qa (Qa (Qf4 ?_));show wpAny _ _ (JO (.ref i1) >>= _) _ _ _;refine Qa (Qeo (h1.extBut s1.extBut D.a3) (hl1.extBut s1.extBut D.b2.1) hx λg2 p2 s2=>Qk ?_);have o2:IsPair g2 TO a b:=s2.extBut _ _ D.a8 (s1.extBut _ _ D.a2 hTO);refine Qa (YE o2 rfl (Qa (Qet o2 λg3 o3 s3=>Qa (QuZ (Qk ?_)))))
 replace o3:IsPair g3 TO x b:=o3
 refine Qa (Qa (Qf4 ?_));show wpAny _ _ (JO (.ref i2) >>= _) _ _ _;refine Qa (Qeo (((h2.extBut s1.extBut D.a4).extBut s2.extBut D.b1.symm).extBut s3.extBut D.a9.symm)
  (((hl2.extBut s1.extBut D.b3.1).extBut s2.extBut D.b3.2.2.1).extBut s3.extBut D.b3.2.1) hy λg4 p4 s4=>Qk ?_)
 have o4:IsPair g4 TO x b:=s4.extBut _ _ D.a9 o3;refine Qa (YE o4 rfl (Qa (Qet o4 λg5 o5 s5=>Qa (QuZ (Qk (Qk ?_))))))
 replace o5:IsPair g5 TO x y:=o5
 refine Qa (YE o5 rfl (Qa (wpAny_newTuple ?_)));have sz:g5.objs.size=s.heap.objs.size:=by rw[s5.1,s4.1,s3.1,s2.1,s1.1]
 have kp:∀c o,c≠z->c≠TO->c≠i1->c≠i2->s.heap.get? c=some o->g5.get? c=some o:=λc o c1 c2 c3 c4 e=>
  s5.extBut _ _ c2 (s4.extBut _ _ c4 (s3.extBut _ _ c2 (s2.extBut _ _ c3 (s1.extBut _ _ c1 e))))
 have z5:QsK g5 z TI TO .ellipsis:=s5.extBut _ _ D.a2.symm (s4.extBut _ _ D.a4.symm (s3.extBut _ _ D.a2.symm (s2.extBut _ _ D.a3.symm z1)));have q1:g5.IsTupleIter i1 t1 (k+1):=((p2.extBut s3.extBut D.a8.symm).extBut s4.extBut D.b1).extBut s5.extBut D.a8.symm;have q2:g5.IsTupleIter i2 t2 (k+1):=p4.extBut s5.extBut D.a9.symm;show wpAny _ _ (Qbt (.ref z) (.ref g5.objs.size) >>= _) _ _ _;refine Qa ?_
 unfold Qbt;have z6:QsK (g5.push { cls:=.type "tuple",data:=.seq #[x,y] }) z TI TO .ellipsis:=Qe _ z5;refine Qa (YN z6 (by simp) λg7 z7 s7=>?_)
 replace z7:QsK g7 z TI TO (rawInt g5.objs.size):=z7
 refine YN z7 (by simp) λg8 z8 s8=>?_
 replace z8:QsK g8 z TI TO (rawInt g5.objs.size):=z8
 have up:∀c o,c≠z->g5.get? c=some o->g8.get? c=some o:=λc o c1 e=>s8.extBut _ _ c1 (s7.extBut _ _ c1 (Qe _ e))
 have ne:g5.objs.size≠z:=QcP (Qv z5);have t8:IsPair g8 g5.objs.size x y:=s8.extBut _ _ ne (s7.extBut _ _ ne (QK _ rfl));rw[sz] at z8 t8;refine Qk ⟨_,rfl,Qk ?_⟩;show Q (some (.ref g5.objs.size)) _;rw[sz];exact hQ g8 ⟨z8,up _ _ D.a1 (kp _ _ D.a1 D.a5 D.a6 D.a7 hTI),⟨x,y,up _ _ D.a2 o5⟩,q1.at λo e=>up _ o D.a3 e,q2.at λo e=>up _ o D.a4 e⟩ t8 λc o c1 c2 c3 c4 e=>up c o c1 (kp c o c1 c2 c3 c4 e)
theorem Qp7{z TI TO i1 i2 t1 t2:Addr}{k:Nat}{xs ys:Array Value}{Q:Option Value->Shared->Prop}(hh:A.handled=none)(D:Apart z TI TO i1 i2 t1 t2)(Z:Qor s.heap z TI TO i1 i2 t1 t2 .none k)
  (hl1:s.heap.IsTuple t1 xs)(hl2:s.heap.IsTuple t2 ys)(hend:xs[k]? = none∨ys[k]? = none)
  (hQ:∀h',(∀c o,c≠z->c≠TO->c≠i1->c≠i2->s.heap.get? c=some o->h'.get? c=some o)->Q none { s with heap:=h' }):wpAny (model prog w) A (pyNext (.ref z)) Q E s:=by
 obtain⟨hz,hTI,⟨a,b,hTO⟩,h1,h2⟩:=Z;have hT:s.TypeIs (.ref z) "zip" := ⟨_,hz,rfl⟩;have fin:∀(h':Zl)(e:Addr),(∀c o,c≠z->c≠TO->c≠i1->c≠i2->s.heap.get? c=some o->h'.get? c=some o)->(∃o,h'.get? e=some o/\o.cls=.type "StopIteration") ->
   wpAny (model prog w) A (isInstance (.ref e) (.type "StopIteration") >>= λx=>if x=true then pure none else throw (.ref e)) Q E { s with heap:=h' }:=λh' e hk he=>by
  obtain⟨o,ho,hc⟩:=he;refine Qa (wpAny_isInstance (T := "StopIteration") (b:=true) ⟨o,ho,hc⟩ isSubtype_stop ?_);exact Qk (hQ _ hk)
 unfold pyNext;refine Qa (QcM (Zz (name:=QaW "__next__") hT Qdg (ZV Qdg hT QxM ?_ (Qu8 _))));show wpAny _ _ (field (.ref z) 2 >>= _) _ _ _;refine Qa (JZ hz rfl (x:=.bool false) rfl ?_);show wpAny _ _ (field (.ref z) 3 >>= _) _ _ _;refine Qa (JZ hz rfl (x:=.ref TI) rfl (Qa (YE hTI rfl ?_)));show wpAny _ _ (ZK (.ref z) >>= _) _ _ _;refine Qa ?_
 unfold ZK;refine Qa (JZ hz rfl (x:=.none) rfl (Qk ?_));simp only[if_true];refine Qa (Yj (Qa (JZ hz rfl (x:=.ref TO) rfl (Qa (YN hz (by simp) λg1 z1 s1=>?_)))))
 replace z1:QsK g1 z TI TO .ellipsis:=z1
 refine Qa ?_
 simp only[Qfr,QuR,Qg5,Qu6];refine Qa (Qa (Qf4 ?_));show wpAny _ _ (JO (.ref i1) >>= _) _ _ _;cases hx:xs[k]? with
 |none=>
  refine Qa (QiR hh (h1.extBut s1.extBut D.a3) (hl1.extBut s1.extBut D.b2.1) hx λg2 e s2 he=>?_);obtain⟨oe,hoe,hce⟩:=he;have z2:QsK g2 z TI TO .ellipsis:=s2 _ _ D.a3.symm z1;have hez:e≠z:=λq=>by subst q;rw[z2] at hoe;cases hoe;simp at hce
  refine YN z2 (by simp) λg3 _ s3=>?_
  exact fin g3 e (λc o c1 _ c3 _ q=>s3.extBut _ _ c1 (s2 _ _ c3 (s1.extBut _ _ c1 q))) ⟨oe,s3.extBut _ _ hez hoe,hce⟩
 |some x=>
  have hy:ys[k]? = none:=by
   rcases hend with q | q
   ·rw[hx] at q;cases q
   ·exact q
  refine Qa (Qeo (h1.extBut s1.extBut D.a3) (hl1.extBut s1.extBut D.b2.1) hx λg2 p2 s2=>Qk ?_);have o2:IsPair g2 TO a b:=s2.extBut _ _ D.a8 (s1.extBut _ _ D.a2 hTO);refine Qa (YE o2 rfl (Qa (Qet o2 λg3 o3 s3=>Qa (QuZ (Qk ?_)))));refine Qa (Qa (Qf4 ?_));show wpAny _ _ (JO (.ref i2) >>= _) _ _ _;refine Qa (QiR hh (((h2.extBut s1.extBut D.a4).extBut s2.extBut D.b1.symm).extBut s3.extBut D.a9.symm)
   (((hl2.extBut s1.extBut D.b3.1).extBut s2.extBut D.b3.2.2.1).extBut s3.extBut D.b3.2.1) hy λg4 e s4 he=>?_)
  obtain⟨oe,hoe,hce⟩:=he;have z4:QsK g4 z TI TO .ellipsis:=s4 _ _ D.a4.symm (s3.extBut _ _ D.a2.symm (s2.extBut _ _ D.a3.symm z1));have hez:e≠z:=λq=>by subst q;rw[z4] at hoe;cases hoe;simp at hce
  refine YN z4 (by simp) λg5 _ s5=>?_
  exact fin g5 e (λc o c1 c2 c3 c4 q=>s5.extBut _ _ c1 (s4 _ _ c4 (s3.extBut _ _ c2 (s2.extBut _ _ c3 (s1.extBut _ _ c1 q))))) ⟨oe,s5.extBut _ _ hez hoe,hce⟩
end
abbrev zh1 (h:Zl) (t1:Addr):Zl:=h.push { cls:=.type "tuple_iterator",data:=.fields #[.ref t1,.int 0 0] }
abbrev zh2 (h:Zl) (t1 t2:Addr):Zl:=(zh1 h t1).push { cls:=.type "tuple_iterator",data:=.fields #[.ref t2,.int 0 0] }
abbrev zh3 (h:Zl) (t1 t2:Addr):Zl:=(zh2 h t1 t2).push { cls:=.type "tuple",data:=.seq #[.ref h.objs.size,.ref (zh1 h t1).objs.size] }
abbrev zh4 (h:Zl) (t1 t2:Addr):Zl:=(zh3 h t1 t2).push { cls:=.type "tuple",data:=.seq #[.none,.none] }
abbrev zh5 (h:Zl) (t1 t2:Addr):Zl:=(zh4 h t1 t2).push { cls:=.type "zip",data:=.fields #[.none,.bool false,.bool false,.ref (zh2 h t1 t2).objs.size,.ref (zh3 h t1 t2).objs.size] }
theorem QAy(t1 t2:Addr)(xs ys:Array Value) :
  Meets (QcT.«zip.__new__» ⟨[.type "zip",.ref t1,.ref t2],[]⟩) (λ_ R s=>s.heap.IsTuple t1 xs/\s.heap.IsTuple t2 ys/\R (.ok (.ret (.ref (zh4 s.heap t1 t2).objs.size))) { s with heap:=zh5 s.heap t1 t2 }):=
 .of_wp λprog w A R s h=>by
  obtain⟨hp,g,d,tk,os⟩:=s;obtain⟨hl1,hl2,h⟩:=h;have hsub:=sub_zip;have k1:QlB (Qlt ⟨hp,g,d,tk,os⟩) t1 xs:=hl1;have k2:QlB (Qlt ⟨hp.push { cls:=.type "tuple_iterator",data:=.fields #[.ref t1,.int 0 0] },g,d,tk,os⟩) t2 ys:=hl2.at λo e=>Qe _ e
  wp_walk using YO k1,YO k2
  exact⟨_,rfl,h⟩
section
variable{prog:QP}{w:JH}{A:Js}{E:Value->Shared->Prop}{s:Shared}
theorem QrF{t1 t2:Addr}{xs ys:Array Value}{Q:Value->Shared->Prop}(hl1:s.heap.IsTuple t1 xs)(hl2:s.heap.IsTuple t2 ys)
  (h:∀h',Qor h' (s.heap.objs.size+4) (s.heap.objs.size+2) (s.heap.objs.size+3) s.heap.objs.size (s.heap.objs.size+1) t1 t2 .none 0->(∀c o,s.heap.get? c=some o->h'.get? c=some o)->Q (.ref (s.heap.objs.size+4)) { s with heap:=h' }) :
  wpAny (model prog w) A (call (.type "zip") [.ref t1,.ref t2]) Q E s:=by
 refine callType_new F.called_zip (by decide) (F.typeCall_zip_2 _ _) (F.newCall_zip_2 _ _) (λobj=>F.args_object_init_3 obj _ _) F.entry_zip_new (QAy t1 t2 xs ys) ⟨hl1,hl2,?_⟩;have z1:(zh1 s.heap t1).objs.size=s.heap.objs.size+1:=Y9 ..;have z2:(zh2 s.heap t1 t2).objs.size=s.heap.objs.size+2:=by rw[Y9,z1]
 have z3:(zh3 s.heap t1 t2).objs.size=s.heap.objs.size+3:=by rw[Y9,z2]
 have z4:(zh4 s.heap t1 t2).objs.size=s.heap.objs.size+4:=by rw[Y9,z3]
 have g5:(zh5 s.heap t1 t2).get? (zh4 s.heap t1 t2).objs.size=some _:=QK _ rfl;have g4:(zh5 s.heap t1 t2).get? (zh3 s.heap t1 t2).objs.size=some _:=Qe _ (QK _ rfl);have g3:(zh5 s.heap t1 t2).get? (zh2 s.heap t1 t2).objs.size=some _:=Qe _ (Qe _ (QK _ rfl));have g2:(zh5 s.heap t1 t2).get? (zh1 s.heap t1).objs.size=some _:=Qe _ (Qe _ (Qe _ (QK _ rfl)));have g1:(zh5 s.heap t1 t2).get? s.heap.objs.size=some _:=Qe _ (Qe _ (Qe _ (Qe _ (QK _ rfl))));show _/\_;rw[z2,z3,z4] at g5;rw[z1,z2] at g3;rw[z3] at g4;rw[z1] at g2;rw[z4];exact⟨⟨_,g5,rfl⟩,h _ ⟨g5,g3,⟨_,_,g4⟩,⟨_,g1,rfl,rfl⟩,⟨_,g2,rfl,rfl⟩⟩ λc o x=>Qe _ (Qe _ (Qe _ (Qe _ (Qe _ x))))⟩
end
end Rz
namespace L2
section
variable{X:Cx}{pins:List (Addr×Obj)}{σ:St}{H:Hp}{s:Shared}{h':Zl}
theorem Inv.turnedNew{t':Nat}{ch:List Addr}{a:Addr}{o:HO}(I:Inv X pins σ H s)(hch:∀b∈ch,FpOk X pins H b)(k:∀b u,b∉ch->s.heap.get? b=some u->h'.get? b=some u)(hp:s.heap.objs.size<=a)
  (new:ObjOk X.prog X.w (upd H a o) h' a o):Inv X pins σ (upd H a o) { s with heap:=h',toks:=t' }:=by
 have hn:H a=none:=I.hok.fresh hp;have nch:∀b u,H b=some u->b∉ch:=λb u e z=>by rw[(hch b z).1] at e;cases e
 refine I.step (g':=s.gens) (d':=s.drawn) (ch:=ch) (λb hb=>?_) (λb u _ _ hc e _=>k b u hc e) (λb u _ _ hc e _=>⟨u.slots,k b u hc e⟩) (λb u hc e n=>?_) (λb u hc e=>⟨u,k b u hc e⟩)
  (λb xs e=>by rw[J8 (Z1 e hn)];exact e) (λb u v e=>by rw[J8 (Z1 e hn)];exact e) (λb ps e=>⟨#[],by rw[J8 (Z1 e hn),e];simp⟩) (λm hm=>?_) (λb u e=>?_) I.bare
 ·obtain⟨f0,f1,f2,f3,f4,f5⟩:=hch b hb;exact⟨f3,f1,f4,f5⟩
 ·rw[J8 (QY (Q1 (Qv e) hp))];exact n
 ·obtain⟨u,es,ep,ho,r⟩:=hm;exact⟨u,es,ep,k _ u (λz=>(hch _ z).2.1 rfl) ho,r⟩
 ·by_cases hb:b=a
  ·subst hb;rw[JK] at e;cases e;exact new
  ·rw[J8 hb] at e;refine(I.hok b u e).stay (λc v hc q=>k c v ?_ q) (λc q=>by rw[J8 (Z1 q hn)];exact q) λc xs q=>by rw[J8 (Z1 q hn)];exact q
   rcases hc with z | z
   ·rw[z];exact nch b u e
   ·exact nch c _ z
theorem Inv.turnedAll{t':Nat}{ch:List Addr}(I:Inv X pins σ H s)(hch:∀b∈ch,FpOk X pins H b)(k:∀b u,b∉ch->s.heap.get? b=some u->h'.get? b=some u):Inv X pins σ H { s with heap:=h',toks:=t' }:=by
 have nch:∀b u,H b=some u->b∉ch:=λb u e z=>by rw[(hch b z).1] at e;cases e
 refine I.step (g':=s.gens) (d':=s.drawn) (ch:=ch) (λb hb=>?_) (λb u _ _ hc e _=>k b u hc e) (λb u _ _ hc e _=>⟨u.slots,k b u hc e⟩) (λb u hc e n=>n) (λb u hc e=>⟨u,k b u hc e⟩)
  (λb xs e=>e) (λb u v e=>e) (λb ps e=>⟨#[],by rw[e];simp⟩) (λm hm=>?_) (λb u e=>?_) I.bare
 ·obtain⟨f0,f1,f2,f3,f4,f5⟩:=hch b hb;exact⟨f3,f1,f4,f5⟩
 ·obtain⟨u,es,ep,ho,r⟩:=hm;exact⟨u,es,ep,k _ u (λz=>(hch _ z).2.1 rfl) ho,r⟩
 ·refine(I.hok b u e).stay (λc v hc q=>k c v ?_ q) (λc q=>q) λc xs q=>q
  rcases hc with z | z
  ·rw[z];exact nch b u e
  ·exact nch c _ z
end
def Itz(t1 t2:Addr):It:=
 ⟨λi H=>∃xs ys x y,H t1=some (.tup xs)/\H t2=some (.tup ys)/\xs[i]? = some x/\ys[i]? = some y,
  λi H v H'=>∃p x y,H p=none/\(∀xs,H t1=some (.tup xs)->xs[i]? = some x)/\(∀ys,H t2=some (.tup ys)->ys[i]? = some y)/\v=.ref p/\H'=upd H p (.tup [x,y]),
  λi H=>∃xs ys,H t1=some (.tup xs)/\H t2=some (.tup ys)/\(xs.length<=i∨ys.length<=i)⟩
theorem QoS{P:QP}{w:JH}{K:PySem.W.Frag}{elts:List Q5}{x1}{tpos:Pos}{z TI TO i1 i2 t1 t2:Addr}(D:Rz.Apart z TI TO i1 i2 t1 t2) :
  Turn P w K (.Tuple elts x1 tpos) (Itz t1 t2) [z,TI,TO,i1,i2] z (λi h=>Rz.Qor h z TI TO i1 i2 t1 t2 .none i) where
 mem:=by simp
 obj:=λi h st b hb=>by
  obtain⟨a1,a2,⟨_,_,a3⟩,⟨o4,a4,_,d4⟩,⟨o5,a5,_,d5⟩⟩:=st;simp only[Qz,Jb,or_false] at hb;rcases hb with rfl | rfl | rfl | rfl | rfl
  ·exact⟨_,a1,λv q=>nomatch q⟩
  ·exact⟨_,a2,λv q=>nomatch q⟩
  ·exact⟨_,a3,λv q=>nomatch q⟩
  ·exact⟨_,a4,λv q=>by rw[d4] at q;cases q⟩
  ·exact⟨_,a5,λv q=>by rw[d5] at q;cases q⟩
 keep:=λi h h' st k=>by
  obtain⟨a1,a2,⟨a,b,a3⟩,a4,a5⟩:=st;exact⟨k z (by simp) _ a1,k TI (by simp) _ a2,⟨a,b,k TO (by simp) _ a3⟩,a4.at λo e=>k i1 (by simp) o e,a5.at λo e=>k i2 (by simp) o e⟩
 item:=by
  intro X hP hw hK hc i pins s σ H E I hf st hg;subst hP hw hK;obtain⟨xs,ys,x,y,h1,h2,hx,hy⟩:=hg;obtain⟨its1,r1,p1,_⟩:=I.tuple (SqT.of h1);obtain⟨its2,r2,p2,_⟩:=I.tuple (SqT.of h2);obtain⟨u1,hu1,ru1⟩:=r1.get hx;obtain⟨u2,hu2,ru2⟩:=r2.get hy;refine Rz.Qni D st (show s.heap.IsTuple t1 its1.toArray from p1) (show s.heap.IsTuple t2 its2.toArray from p2) (by simpa using hu1) (by simpa using hu2) λh' st' tp kp=>?_
  have hlt:∀b∈[z,TI,TO,i1,i2],b≠s.heap.objs.size:=λb hb=>by
   obtain⟨a1,a2,⟨_,_,a3⟩,⟨o4,a4,_,d4⟩,⟨o5,a5,_,d5⟩⟩:=st;simp only[Qz,Jb,or_false] at hb;rcases hb with rfl | rfl | rfl | rfl | rfl
   ·exact QY (Qv a1)
   ·exact QY (Qv a2)
   ·exact QY (Qv a3)
   ·exact QY (Qv a4)
   ·exact QY (Qv a5)
  have fr:H s.heap.objs.size=none:=I.hok.fresh (Ql _);refine⟨_,rfl,QlE st'.zp λh2' z2 s2=>?_⟩;have I1:Inv X pins σ (upd H s.heap.objs.size (.tup [x,y])) { s with heap:=h2',toks:=s.toks }:=by
   refine I.turnedNew (ch:=[z,TI,TO,i1,i2]) hf (λb u hb e=>?_) (Ql _) ⟨by show 2<=sizeLine;decide,[u1,u2],.cons ru1 (.cons ru2 .nil),?_⟩
   ·simp only[Qz,Jb,or_false,not_or] at hb;exact s2.extBut _ _ hb.1 (kp b u hb.1 hb.2.2.1 hb.2.2.2.1 hb.2.2.2.2 e)
   ·exact⟨_,s2.extBut _ _ (hlt z (by simp)).symm tp,rfl,0,rfl⟩
  refine⟨.ref s.heap.objs.size,_,I1,rfl,⟨_,x,y,fr,λxs' e=>?_,λys' e=>?_,rfl,rfl⟩,?_,λb hb=>?_⟩
  ·rw[h1] at e;cases e;exact hx
  ·rw[h2] at e;cases e;exact hy
  ·obtain⟨a1,a2,⟨a,b,a3⟩,a4,a5⟩:=st';exact⟨z2,s2.extBut _ _ D.a1 a2,⟨a,b,s2.extBut _ _ D.a2 a3⟩,a4.extBut s2.extBut D.a3,a5.extBut s2.extBut D.a4⟩
  ·rw[J8 (hlt b hb)];exact(hf b hb).1
 done:=by
  intro X hP hw hK hc i pins s σ H E I hf st hg;subst hP hw hK;obtain⟨xs,ys,h1,h2,he⟩:=hg;obtain⟨its1,r1,p1,_⟩:=I.tuple (SqT.of h1);obtain⟨its2,r2,p2,_⟩:=I.tuple (SqT.of h2);have l1:=r1.length;have l2:=r2.length;refine Rz.Qp7 (I.ok.hd hc) D st (show s.heap.IsTuple t1 its1.toArray from p1) (show s.heap.IsTuple t2 its2.toArray from p2) ?_ λh' kp=>⟨rfl,I.turnedAll (t':=s.toks) (ch:=[z,TI,TO,i1,i2]) hf λb u hb e=>?_⟩
  ·rcases he with q | q
   ·exact .inl (by simp;omega)
   ·exact .inr (by simp;omega)
  ·simp only[Qz,Jb,or_false,not_or] at hb;exact kp b u hb.1 hb.2.2.1 hb.2.2.2.1 hb.2.2.2.2 e
 self:=λ_ _ _ _ _ st h=>Qda st.zp h
section
variable{X:Cx}
theorem apart_new(n t1 t2:Nat)(h1:t1<n)(h2:t2<n):Rz.Apart (n+4) (n+2) (n+3) n (n+1) t1 t2 where
 a1:=by show ¬(n+2=n+4);omega
 a2:=by show ¬(n+3=n+4);omega
 a3:=by show ¬(n=n+4);omega
 a4:=by show ¬(n+1=n+4);omega
 a5:=by show ¬(n+2=n+3);omega
 a6:=by show ¬(n+2=n);omega
 a7:=by show ¬(n+2=n+1);omega
 a8:=by show ¬(n+3=n);omega
 a9:=by show ¬(n+3=n+1);omega
 b1:=by show ¬(n=n+1);omega
 b2:=⟨by show ¬(t1=n+4);omega,by show ¬(t1=n+3);omega,by show ¬(t1=n);omega,by show ¬(t1=n+1);omega⟩
 b3:=⟨by show ¬(t2=n+4);omega,by show ¬(t2=n+3);omega,by show ¬(t2=n);omega,by show ¬(t2=n+1);omega⟩
def QAG(ta:TA):TI:=λσ H R=>ta σ H λvs H1=>∃t1 t2 xs ys,vs=[.ref t1,.ref t2]/\H1 t1=some (.tup xs)/\H1 t2=some (.tup ys)/\R (Itz t1 t2) H1
theorem Qoi:bootBuiltins "zip" = some (.type "zip"):=by decide +kernel
theorem Qsa{a b:Q5}{elts:List Q5}{x1}{tpos:Pos}{ta:TA}{p pos:Pos}(hg:Gl X "zip")(hm:X.mg "zip" = none)(ha:PA X [a,b] ta)(hs:starEach [a,b] X.env=[(false,eval a X.env),(false,eval b X.env)]:=by rfl)(hs2:starEach [b] X.env=[(false,eval b X.env)]:=by rfl) :
  PI X (.Tuple elts x1 tpos) (.Call (.Name "zip" p) [a,b] [] pos) (QAG ta):=by
 intro pins s σ H R I h;refine Call_ (Qcq I hg hm Qoi (JJ (thn (ha pos pins s σ H _ I h) λus s1 ⟨vs,H1,I1,r1,q1⟩=>?_) (by rw[hs,hs2]) (by rw[hs2];rfl)));obtain⟨t1,t2,xs,ys,e,h1,h2,q⟩:=q1;subst e;obtain⟨u,v,rfl,ru,rv⟩:=vals2 r1;cases(show u=JT t1 from ru);cases(show v=JT t2 from rv);obtain⟨its1,w1,p1,_⟩:=I1.tuple (SqT.of h1);obtain⟨its2,w2,p2,_⟩:=I1.tuple (SqT.of h2);have n1:t1<s1.heap.objs.size:=I1.hok.lt h1;have n2:t2<s1.heap.objs.size:=I1.hok.lt h2;refine Rz.QrF (show s1.heap.IsTuple t1 its1.toArray from p1) (show s1.heap.IsTuple t2 its2.toArray from p2) λh' st kp=>?_
 refine Qda (s:={ s1 with heap:=h' }) st.zp ?_
 have D:=apart_new s1.heap.objs.size t1 t2 n1 n2;refine⟨s1.heap.objs.size+4,_,_,_,H1,rfl,I1.kept (t':=s1.toks) kp,QoS D,st,λb hb=>?_,q⟩;have hb':s1.heap.objs.size<=b:=by
  simp only[Qz,Jb,or_false] at hb;rcases hb with rfl | rfl | rfl | rfl | rfl<;>omega
 exact I1.fpOk hb' (I1.hok.fresh hb')
end
end L2
namespace Rk
open L2
def Qzv:Option HO->Option (List V)
 |some (.tup xs)=>some xs
 |_=>none
def Qgg(H:Hp):V->Option (List V)
 |.ref a=>Qzv (H a)
 |_=>none
theorem Qjt(H:Hp)(a:Addr):Qgg H (.ref a)=Qzv (H a):=rfl
def isT(H:Hp)(x:V):Bool:=(Qgg H x).isSome
def isI:V->Bool
 |.int _=>true
 |_=>false
def isB:V->Bool
 |.bl _=>true
 |_=>false
def Kn(p:Addr)(H:Hp):V->Prop
 |.non=>True
 |.bl _=>True
 |.int _=>True
 |.str _=>True
 |.ref a=>a≠p/\((∃xs,H a=some (.tup xs))∨(∃xs,H a=some (.lst xs))∨∃kvs,H a=some (.dK kvs))
 |_=>False
def KnD(p:Addr):Nat->Hp->V->Prop
 |0,H,x=>Kn p H x
 |n+1,H,x=>Kn p H x/\∀xs,Qgg H x=some xs->∀y∈xs,KnD p n H y
def KX(p:Addr)(H H':Hp):Prop:=∀b o,b≠p->H b=some o->H' b=some o
theorem KX.of{p:Addr}{H H':Hp}(h:Same H H'):KX p H H':=λb o _ e=>h b o e
theorem KX.new{p q:Addr}{H:Hp}{o:HO}(h:H q=none):KX p H (L2.upd H q o):=KX.of (Jy h)
theorem KnD.kn{p:Addr}{H:Hp}{x:V}:∀{n:Nat},KnD p n H x->Kn p H x
 |0,h=>h
 |_+1,h=>h.1
theorem KnD.low{p:Addr}{H:Hp}:∀{n:Nat}{x:V},KnD p (n+1) H x->KnD p n H x
 |0,x,h=>h.1
 |n+1,x,h=>⟨h.1,λxs e y hy=>KnD.low (h.2 xs e y hy)⟩
theorem KnD.tup{p:Addr}{H:Hp}{n:Nat}{a:Addr}{xs:List V}(hp:a≠p)(e:H a=some (.tup xs))(h:∀y∈xs,KnD p n H y):KnD p (n+1) H (.ref a):=
 ⟨⟨hp,.inl ⟨xs,e⟩⟩,λys z y hy=>h y (by
  have z':some xs=some ys:=by rw[<- z,Qjt,e];rfl
  cases z';exact hy)⟩
theorem KnD.int{p:Addr}{H:Hp}(i:Int):∀(n:Nat),KnD p n H (.int i)
 |0=>trivial
 |n+1=>⟨trivial,λ_ e=>nomatch e⟩
theorem Qhr{H:Hp}{a:Addr}{xs:List V}(e:H a=some (.tup xs)):Qgg H (.ref a)=some xs:=by rw[Qjt,e];rfl
theorem Qrm{K:PySem.W.Frag}{p:Addr}{H:Hp}:∀{x:V},Kn p H x->∃t,TyOf K H x t/\PySem.W.kitOne K t (.type "int")=some (isI x||isB x)
 |.non,h=>⟨_,.non,rfl⟩
 |.bl _,h=>⟨_,.bl _,rfl⟩
 |.int _,h=>⟨_,.int _,rfl⟩
 |.str _,h=>⟨_,.str _,rfl⟩
 |.ref a,⟨_,h⟩=>by
  rcases h with⟨xs,e⟩ | ⟨xs,e⟩ | ⟨xs,e⟩
  ·exact⟨_,.tup e,rfl⟩
  ·exact⟨_,.lst e,rfl⟩
  ·exact⟨_,.dK e,rfl⟩
 |.byt _,h=>h.elim
 |.flt _,h=>h.elim
 |.ty _,h=>h.elim
theorem QnC{K:PySem.W.Frag}{p:Addr}{H:Hp}:∀{x:V},Kn p H x->∃t,TyOf K H x t/\PySem.W.kitOne K t (.type "bool")=some (isB x)
 |.non,h=>⟨_,.non,rfl⟩
 |.bl _,h=>⟨_,.bl _,rfl⟩
 |.int _,h=>⟨_,.int _,rfl⟩
 |.str _,h=>⟨_,.str _,rfl⟩
 |.ref a,⟨_,h⟩=>by
  rcases h with⟨xs,e⟩ | ⟨xs,e⟩ | ⟨xs,e⟩
  ·exact⟨_,.tup e,rfl⟩
  ·exact⟨_,.lst e,rfl⟩
  ·exact⟨_,.dK e,rfl⟩
 |.byt _,h=>h.elim
 |.flt _,h=>h.elim
 |.ty _,h=>h.elim
def Qsn(H:Hp)(x:V):List Int:=((Qgg H x).getD []).map λy=>match y with
 |.int i=>i
 |_=>0
def IntsT(H:Hp)(x:V)(ns:List Int):Prop:=∃a,x=.ref a/\H a=some (.tup (ns.map V.int))
theorem IntsT.eq{H:Hp}{x:V}{ns:List Int}(h:IntsT H x ns):Qsn H x=ns:=by
 obtain⟨a,rfl,e⟩:=h;unfold Qsn;rw[Qhr e];show(ns.map V.int).map _=ns;rw[Jt];exact List.map_id _
theorem J4:bootBuiltins "isinstance" = some (.builtin "isinstance"):=by decide +kernel
theorem Qkp:bootBuiltins "int" = some (.type "int"):=by decide +kernel
theorem QcB:bootBuiltins "bool" = some (.type "bool"):=by decide +kernel
theorem Qbj:bootBuiltins "tuple" = some (.type "tuple"):=by decide +kernel
theorem Qe7:bootBuiltins "list" = some (.type "list"):=by decide +kernel
theorem Qxr:bootBuiltins "str" = some (.type "str"):=by decide +kernel
theorem Qe8:bootBuiltins "all" = some (.builtin "all"):=by decide +kernel
theorem YC:bootBuiltins "len" = some (.builtin "len"):=by decide +kernel
theorem Qxs:bootBuiltins "max" = some (.builtin "max"):=by decide +kernel
theorem Qog:bootBuiltins "min" = some (.builtin "min"):=by decide +kernel
end Rk
namespace L2
theorem Qi0{J:It}{body:V->Hp->(Hp->Prop)->Prop}{Qn:Hp->Prop}{H:Hp}(n:Nat)(Pv:Nat->Hp->Prop)(h0:Pv 0 H)
  (hs:∀i H2,i<n->Pv i H2->J.go i H2/\∀x H3,J.yld i H2 x H3->∀k:Hp->Prop,(∀H6,Pv (i+1) H6->k H6)->body x H3 k)(hd:∀H2,Pv n H2->J.stop n H2/\Qn H2):QoV J body Qn H:=by
 refine⟨λi m H=>m=n - i/\i<=n/\Pv i H,⟨n,by simp,QC _,h0⟩,?_⟩;rintro i m H2 ⟨rfl,hi,p⟩;by_cases hlt:i<n
 ·obtain⟨go,st⟩:=hs i H2 hlt p;exact .inr ⟨go,λx H3 y=>st x H3 y _ λH6 p6=>⟨n - (i+1),by omega,rfl,hlt,p6⟩⟩
 ·have e:i=n:=by omega
  subst e;exact .inl (hd H2 p)
theorem Qf1{J:It}{σ:St}{g:TG}{te:TE}{p:Addr}{H1:Hp}{Qn:Hp->Prop}(n:Nat)(hn:n<sizeLine)(F:Nat->Bool)(hp:H1 p=none)
  (hs:∀i H2,i<n->Same H1 H2->J.go i H2/\∀x H3,J.yld i H2 x H3->∀k:VK,(∀H6,Same H2 H6->k (.bl (F i)) H6)->g x σ H3 λσ4 H4=>Wk σ σ4/\te σ4 H4 k)
  (hst:∀H2,Same H1 H2->J.stop n H2)(hq:∀H2,Same H1 H2->H2 p=some (.lst (((JX n).map F).map V.bl))->Qn H2) :
  QoV J (bOf σ g QiC (QxW p te)) Qn (upd H1 p (.lst [])):=by
 refine Qi0 n (λi H2=>Same H1 H2/\H2 p=some (.lst (((JX i).map F).map V.bl))) ⟨Jy hp,JK⟩ (λi H2 hi ⟨s2,e2⟩=>?_) λH2 ⟨s2,e2⟩=>⟨hst H2 s2,hq H2 s2 e2⟩
 obtain⟨go,st⟩:=hs i H2 hi s2;refine⟨go,λx H3 y k hk=>?_⟩;refine st x H3 y (λv H6=>∃ys,H6 p=some (.lst ys)/\ys.length<sizeLine/\k (upd H6 p (.lst (ys++[v])))) λH6 s6=>?_
 have e6:=s6 p _ e2;refine⟨_,e6,?_,hk _ ⟨λb o e=>?_,?_⟩⟩
 ·rw[Qh,Qh,JN];omega
 ·have hb:b≠p:=Z1 e hp;rw[J8 hb];exact s6 b o (s2 b o e)
 ·rw[JK,Qg3,Jj,Jj];rfl
end L2
namespace Rk
open L2
def QcY(K:PySem.W.Frag):Sp:=λvs H Q _=>∃a ns k,vs=[.ref a,.int k]/\SqL K H a ((ns:List Int).map V.int)/\ns.length<2^20/\0<=k/\∀c,Q (.int c) H
def Qvu:Sp:=λvs H Q _=>∃c,vs=[.int c]/\∀p n,H p=none->Q (.ref p) (upd H p (.lst [.int n]))
def Cs(p:Addr)(H:Hp):List V->List (Int×Int)->Prop:=YR λx ij=>∃d,d≠p/\x=.ref d/\H d=some (.tup [.int ij.1,.int ij.2])
theorem Cs.mem{p:Addr}{H:Hp}:∀{ps:List V}{L:List (Int×Int)},Cs p H ps L->∀x∈ps,∃ij∈L,∃d,d≠p/\x=.ref d/\H d=some (.tup [.int ij.1,.int ij.2])
 |_,_,.nil,x,h=>nomatch h
 |_,_,.cons r t,x,h=>by
  rcases Qz.mp h with e | e
  ·subst e;exact⟨_,Zt,r⟩
  ·obtain⟨ij,m,q⟩:=Cs.mem t x e;exact⟨ij,Jw _ m,q⟩
def QxB(a b:Int×Int):Prop:=a.1<b.1∨(a.1=b.1/\a.2<b.2)
structure Good (h w:Int) (L:List (Int×Int)):Prop where
 asc:L.Pairwise QxB
 ins:∀x∈L,0<=x.1/\x.1<h/\0<=x.2/\x.2<w
 len:L.length<=36
theorem Qkb(x:Int){m:Int}(h:0<m):0<=x % m/\x % m<m:=⟨Int.emod_nonneg _ (by omega),Int.emod_lt_of_pos _ h⟩
def notStar:Q5->Bool
 |.Starred _ _=>false
 |_=>true
theorem ZZ{e:Q5}{es:List Q5}{env:Env}(h:notStar e=true):starEach (e::es) env=(false,eval e env)::starEach es env:=by
 cases e<;>first | rfl | cases h
section
variable{X:Cx}
theorem Qcy{e:Q5}{es:List Q5}{te:TE}{t:TA}(ha:PE X e te)(hr:PA X es t)(hs:notStar e=true:=by rfl):PA X (e::es) (Qdk te t):=JF ha hr (ZZ hs)
end
def Sm(H:Hp)(x:V):Prop:=∀ps,Qgg H x=some ps->ps.length<sizeLine
def Part(p:Addr)(H:Hp)(x:V):Prop:=KnD p 2 H x/\Sm H x
def Thing(p:Addr)(H:Hp)(x:V):Prop:=KnD p 3 H x/\Sm H x/\∀xs,Qgg H x=some xs->∀y∈xs,Sm H y
theorem Qvf{H:Hp}{a:Addr}{xs ys:List V}(e:H a=some (.tup xs))(z:Qgg H (.ref a)=some ys):ys=xs:=by
 rw[Qhr e] at z;cases z;rfl
theorem Part.tup{p:Addr}{H:Hp}{a:Addr}{xs:List V}(hp:a≠p)(e:H a=some (.tup xs))(hl:xs.length<sizeLine)(h:∀y∈xs,KnD p 1 H y):Part p H (.ref a):=
 ⟨KnD.tup hp e h,λps z=>by rw[Qvf e z];exact hl⟩
theorem Thing.part{p:Addr}{H:Hp}{x:V}(h:Thing p H x):Part p H x:=⟨h.1.low,h.2.1⟩
theorem Qw0{P:V->Prop}:∀y∈([]:List V),P y:=λ_ h=>nomatch h
theorem QnJ{P:V->Prop}{a:V}{l:List V}(h:P a)(k:∀y∈l,P y):∀y∈a::l,P y:=λy hy=>by
 rcases Qz.mp hy with e | e
 ·subst e;exact h
 ·exact k y e
theorem Cs.kn{p:Addr}{H:Hp}{ps:List V}{L:List (Int×Int)}(h:Cs p H ps L):∀x∈ps,KnD p 1 H x:=λx hx=>by
 obtain⟨ij,_,d,n,rfl,e⟩:=h.mem x hx;exact KnD.tup n e (QnJ (KnD.int _ 0) (QnJ (KnD.int _ 0) Qw0))
theorem Cs.part{p:Addr}{H:Hp}{c:Addr}{ps:List V}{L:List (Int×Int)}(n:c≠p)(e:H c=some (.tup ps))(hl:ps.length<sizeLine)(h:Cs p H ps L):Part p H (.ref c):=Part.tup n e hl h.kn
theorem Qb4{n:Nat}(h:n<=1000):n<sizeLine:=QbL h (by decide)
def Fine(p:Addr):Nat->Hp->V->Prop
 |0,H,x=>Kn p H x/\Sm H x
 |n+1,H,x=>Kn p H x/\Sm H x/\∀xs,Qgg H x=some xs->∀y∈xs,Fine p n H y
theorem Fine.kn{p:Addr}{H:Hp}{x:V}:∀{n:Nat},Fine p n H x->Kn p H x
 |0,h=>h.1
 |_+1,h=>h.1
theorem Fine.knd{p:Addr}{H:Hp}:∀{n:Nat}{x:V},Fine p n H x->KnD p n H x
 |0,_,h=>h.1
 |_+1,_,h=>⟨h.1,λxs e y hy=>(h.2.2 xs e y hy).knd⟩
theorem Fine.thing{p:Addr}{H:Hp}{x:V}(h:∀n,Fine p n H x):Thing p H x:=⟨(h 3).knd,(h 0).2,λxs e y hy=>((h 1).2.2 xs e y hy).2⟩
section
variable{X:Cx}
theorem QiN{e:List Q5}{t t':TA}(h:PA X e t)(k:∀σ H Q,t' σ H Q->t σ H Q):PA X e t':=λpos pins s σ H Q I q=>h pos pins s σ H Q I (k σ H Q q)
end
def Qys(t:TA):TE:=λσ H Q=>t σ H λxs H1=>xs.length<=1000/\∀a H2,Same H1 H2->H1 a=none->H2 a=some (.tup xs)->Q (.ref a) H2
def Qyw(t:TA):TE:=λσ H Q=>t σ H λxs H1=>xs.length<=1000/\∀a H2,Same H1 H2->H1 a=none->H2 a=some (.lst xs)->Q (.ref a) H2
section
variable{X:Cx}
theorem QmK{es:List Q5}{t:TA}{x1}{pos:Pos}(h:PA X es t):PE X (.Tuple es x1 pos) (Qys t):=by
 intro pins s σ H Q I hq;refine wpAny_Tuple_spliced (thn (h pos pins s σ H _ I hq) λus s1 ⟨xs,H1,I1,r,z,q⟩=>⟨by rw[<- r.length];exact YI (Qb4 z),?_⟩);have hf:H1 s1.heap.objs.size=none:=I1.hok.fresh (Ql _);refine⟨.ref s1.heap.objs.size,upd H1 s1.heap.objs.size (.tup xs),I1.laid (t':=s1.toks) (λb u e=>Qe _ e) (Ql _) ?_,rfl,q _ _ (Jy hf) hf JK⟩;exact⟨YI (Qb4 z),us,r,⟨_,QK _ rfl,rfl,_,rfl⟩⟩
theorem QbH{es:List Q5}{t:TA}{pos:Pos}(h:PA X es t):PE X (.List es pos) (Qyw t):=by
 intro pins s σ H Q I hq;refine QxC (thn (h pos pins s σ H _ I hq) λus s1 ⟨xs,H1,I1,r,z,q⟩=>⟨by rw[<- r.length];exact YI (Qb4 z),?_⟩);have hf:H1 s1.heap.objs.size=none:=I1.hok.fresh (Ql _);refine⟨.ref s1.heap.objs.size,upd H1 s1.heap.objs.size (.lst xs),I1.laid (t':=s1.toks) (λb u e=>Qe _ e) (Ql _) ?_,rfl,q _ _ (Jy hf) hf JK⟩;exact⟨YI (Qb4 z),us,0,r,QK _ rfl⟩
def QyE:R2:=λx y H Q=>∃l b xs zs,x=.ref l/\y=.ref b/\H l=some (.lst xs)/\H b=some (.lst zs)/\xs.length+zs.length<=1000/\∀a H2,Same H H2->H a=none->H2 a=some (.lst (xs++zs))->Q (.ref a) H2
theorem QeO:OpR X (binaryOp .Add) QyE:=λpins s σ H x y v u Q I rx ry ⟨l,b,xs,zs,e1,e2,h1,h2,hl,k⟩=>
 Qsg pins s σ H x y v u Q I rx ry ⟨l,b,xs,zs,e1,e2,h1,h2,YI (Qb4 hl),λa ha=>k a _ (Jy ha) ha JK⟩
end
def FineA(p:Addr)(H:Hp)(x:V):Prop:=∀n,Fine p n H x
theorem FineA.thing{p:Addr}{H:Hp}{x:V}(h:FineA p H x):Thing p H x:=Fine.thing h
theorem FineA.part{p:Addr}{H:Hp}{x:V}(h:FineA p H x):Part p H x:=(Fine.thing h).part
end Rk
namespace Rx
open PySem.Calls L2 PySem.W Builtin Builtin.ObjectAttr Builtin.Getset_descriptor
def ExAt(a C:Addr)(h:Zl):Prop:=∃o vs,h.get? a=some o/\o.cls=.ref C/\o.data=.fields vs
theorem ExAt.ty{M:QkB}{h:Zl}{a C:Addr}(x:ExAt a C h):Looks M h (typeOf (.ref a)) (.ref C):=by
 obtain⟨o,vs,e,c,_⟩:=x;exact c ▸ (Looks.ld e).andThen .now
structure ExC (K:PySem.W.Frag) (C:Addr):Prop where
 ga:findIn K (.ref C) "__getattribute__" = some (some (.builtin "BaseException.__getattribute__"))
 hk:findIn K (.ref C) "__getattr__" = some none
 bas:mroIn K C (.type "BaseException")=some true
 cls:(clsIn K C).isSome=true
 att:findIn K (.ref C) "__class__" = some (some (.builtin "object.__class__"))
 spc:specialIn K (.builtin "object.__class__") "__get__" = some (some (.builtin "getset_descriptor.__get__"))
 tks:takesIn K (.builtin "object.__class__")=some true
 mro:mroIn K C (.type "object")=some true
section
variable{prog:QP}{w:JH}{A:Js}{E:Value->Shared->Prop}{s:Shared}{K:PySem.W.Frag}{a C:Addr}
theorem Quu{M:QkB}{h:Zl}(X:K.In h)(c:ExC K C):Looks M h (find (.ref a) (.ref C) "__class__") (.bind (.builtin "getset_descriptor.__get__") (.builtin "object.__class__")):=by
 have l1:=QsD (M:=M) X c.att;have l2:=looks_specialIn (M:=M) X c.spc;have l3:=looks_takesIn (M:=M) X c.tks;have l4:Looks M h (dataDescriptor? (some (.builtin "object.__class__")) (some (.builtin "getset_descriptor.__get__"))) (some (.builtin "getset_descriptor.__get__",.builtin "object.__class__")):=l3.andThen .now;exact l1.andThen (l2.andThen (l4.andThen (Looks.tag .now)))
theorem Qw3{R:Result->Shared->Prop}{tp:Value}(X:K.In s.heap)(I:ExAt a C s.heap)(c:ExC K C)(h:R (.ok (.ret (.ref C))) s) :
  codeAny (model prog w) A (.call (.builtin "getset_descriptor.__get__") ⟨[.builtin "object.__class__",.ref a,tp],[]⟩) R s:=by
 obtain⟨h0,g0,d0,t0,o0⟩:=s;have la:=I.ty (M:=model prog w);have lb:=looks_mroIn (M:=model prog w) X c.mro;refine QuO KF.slot_gs.plain KF.entry_gs (KF.slot_gs.check _ _ _ _ _ _ _ _ KF.type_class (KF.args_gs _ _ _) ?_);unfold QcT.«getset_descriptor.__get__»;unfold descrGet;rw[dga_obj];refine Qa (Qk ?_);unfold descrGetter;unfold descrCheckInstance;unfold descrNameAndClass;unfold isInstance;simp only[KF.owner_class]
 repeat lk
 refine⟨Code.quiet_builtin _ (by decide +kernel),codeAny_builtin KF.entry_class ?_⟩;unfold QcT.«object.__class__»;unfold shownTypeOf
 repeat lk
 exact h
theorem Qrx{M:QkB}{nameV:Value}{Q:Unit->Shared->Prop}(X:K.In s.heap)(I:ExAt a C s.heap)(c:ExC K C)(hq:Q () s):wpAny M A (checkBuiltinCall "BaseException.__getattribute__" ⟨[.ref a,nameV],[]⟩) Q E s:=by
 have hk:builtinKind "BaseException.__getattribute__" = some .slot:=by decide +kernel
 have hsplit:splitId "BaseException.__getattribute__" = some ("BaseException", "__getattribute__"):=by decide +kernel
 have ha:=F.args_bexc_ga (.ref a) nameV;have la:=I.ty (M:=M);have lb:=looks_mroIn (M:=M) X c.bas;have li:Looks M s.heap (isInstance (.ref a) (.type "BaseException")) true:=la.andThen lb;simp only[checkBuiltinCall,hk,hsplit];refine Qa (li.at ?_)
 repeat (first | exact hq | wp_step)
theorem Qrw{Q:Option Value->Shared->Prop}(X:K.In s.heap)(I:ExAt a C s.heap)(c:ExC K C)(h:Q (some (.ref C)) { s with toks:=s.toks+1 }):wpAny (model prog w) A (getAttr? (.ref a) "__class__") Q E s:=by
 obtain⟨h0,g0,d0,t0,o0⟩:=s;have la:=I.ty (M:=model prog w);have lb:=QsD (M:=model prog w) X c.ga;have lc:=QsD (M:=model prog w) X c.hk;have ld:=Quu (M:=model prog w) (a:=a) X c;have f3:=QrW.ga.bind (.ref a);have hx2:(onTheHeap (JT C)&&Qap "BaseException.__getattribute__" == Qap "object.__getattribute__")=false:=by
  have e:(Qap "BaseException.__getattribute__" == Qap "object.__getattribute__")=false:=by decide +kernel
  rw[e];rfl
 unfold getAttr?;unfold getAttrBy?;unfold getAttrBy;refine Qa (wpAny_mkText (Qa (QcM (Z2 (Qa (la.at (Qa (lb.at ?_))))))));simp only[hx2,Yx,if_false];unfold getAttrByItsOwn;refine Qa (m:=hookBefore (.ref C)) ?_
 show wpAny _ _ (typeLookup (.ref C) "__getattr__") _ _ _;refine lc.at ?_
 refine Qa (QcM (Z2 ?_));show wpAny _ _ (boundAndCalled _ _ _) _ _ _;unfold boundAndCalled;rw[f3];refine Qa (Qk ?_);refine Qd9 (QuO QrW.ga.plain F.entry_bexc_ga (Qrx X I c ?_));unfold QcT.«object.__getattribute__»;refine Qa (Qk (Qa (Qk (Qa (la.at (Qa (ld.at ?_)))))));show wpAny _ _ (bindTo (.builtin "getset_descriptor.__get__") (.builtin "object.__class__") (.ref a) (.ref C)) _ _ _;unfold bindTo;refine Qa (Z2 (Qd9 (Qw3 (s:=⟨h0,g0,d0,t0+1,o0⟩) X I c ?_)));exact Qk (handed_on rfl (Qk h))
theorem Quk(c:ExC K C):KitX K (.ref a) (.ref C) (ExAt a C) where
 ty:=λ_ _ _ I=>I.ty
 it:=λ_ _ X _=>by
  have q:=c.cls;unfold clsIn at q;split at q
  ·rename_i ho
   intro A' Q' E' s' k z;unfold isType loadHead;exact Qa (wpAny_loadPart (k _ _ (X _ _ ho)) (Qk z))
  ·cases q
 ne:=λh tp dd its n sl X htp=>by
  have q:=c.cls;refine Bool.eq_false_iff.mpr λz=>?_
  cases Value.ref.inj (beq_iff_eq.mp z);unfold clsIn at q;split at q
  ·rename_i ho
   cases(X _ _ ho).symm.trans htp
  ·cases q
 ca:=λX I k=>Qrw X I c k
end
end Rx
namespace Rx
open PySem.Calls L2
abbrev mroV:List Value:=[.type "ValueError",.type "Exception",.type "BaseException",.type "object"]
def Qxz(h:Zl)(C:Addr):Prop:=∃bm N nm q bs hdct sn sub ab col dd k0 k1 k2 k3 k5 mN,
 h.get? C=some (excClassObj nm q C N bs bm hdct sn sub ab col dd k0 k1 k2 k3 k5 "ValueError.__new__")/\h.Ns N mN/\mN "__init__" = none/\OwnTail h mroV bm
theorem Qmq{K:PySem.W.Frag}{h:Zl}{C:Addr}(X:K.In h)(q:PySem.W.excIn K C mroV "ValueError.__new__" = true):Qxz h C:=by
 unfold PySem.W.excIn at q;split at q;next dd cd sl ho=>
  split at q;next C' bm k0 k1 k2 k3 n k5 hm hs=>
   obtain⟨q,e6⟩:=Qu.mp q;obtain⟨q,e5⟩:=Qu.mp q;obtain⟨q,e4⟩:=Qu.mp q;obtain⟨q,e3⟩:=Qu.mp q;obtain⟨e1,e2⟩:=Qu.mp q;cases beq_iff_eq.mp e1;cases beq_iff_eq.mp e2;rcases cd with⟨c1,c2,c3,c4,c5,c6,c7,c8,c9,ca,cb⟩
   rcases sl with⟨sl⟩
   have e7:cb=false:=by
    cases cb with
    |false=>rfl
    |true=>cases e3
   have hm:c3=.ref C::bm:=hm;have hs:sl=[k0,k1,k2,k3,some (.builtin "ValueError.__new__"),k5]:=hs;subst hm hs e7;have hn:h.Ns c4 (h.nsMap c4):=.of_isNs (PySem.W.isNs_of_in X e5);exact⟨_,_,_,_,_,_,_,_,_,_,_,_,_,_,_,_,_,X _ _ ho,hn,PySem.W.nsMap_none_of_in X e5 (beq_iff_eq.mp e6),PySem.W.tail_of_in X e4⟩
  next=>cases q
 next=>cases q
theorem obj_there{P:QP}{w:JH}{H:Hp}{h:Zl}{a:Addr}{o:HO}(x:ObjOk P w H h a o):∃u,h.get? a=some u:=by
 cases o with
 |lst xs=>obtain⟨_,_,_,_,e⟩:=x;exact⟨_,e⟩
 |tup xs=>obtain⟨_,_,_,p⟩:=x;obtain⟨_,e,_⟩:=p;exact⟨_,e⟩
 |dK kvs=>obtain⟨_,_,_,_,o,_,_,e,_⟩:=x;exact⟨_,e⟩
 |dT kvs=>obtain⟨_,_,_,_,o,_,_,e,_⟩:=x;exact⟨_,e⟩
 |set S n=>obtain⟨o,_,_,_,e,_⟩:=x;exact⟨_,e⟩
 |ins C dx fs=>obtain⟨_,_,_,e,_⟩:=x;exact⟨_,e⟩
 |own y=>exact x
 |xd fs=>obtain⟨_,⟨_,_,_,e,_⟩,_⟩:=x;exact⟨_,e⟩
 |rng lo hi=>obtain⟨_,_,_,e⟩:=x;exact⟨_,e⟩
 |frz ob u=>exact⟨_,x.1⟩
 |tbl ps=>exact⟨_,x⟩
 |met f y=>exact⟨_,x⟩
 |ext φ=>exact x.2.1
def Fly(P:QP)(w:JH)(outer:List Env)(H:Hp)(s:Shared)(C:Addr)(H':Hp)(e:Value)(s':Shared):Prop:=
 ∃(a t:Addr)(B:Zl),e=.ref a/\s'.os=s.os/\Qd2 s'.gens/\Qym B outer a (.ref C) (.ref t) s'.heap/\s.heap.get? a=none/\H' a=none /\
  ∀h2:Zl,B.StaysIn h2->s'.heap.UpToSlots h2->Un (frs outer) [] H H' s.heap h2/\HOk P w H' h2
def CXE(P:QP)(w:JH):CXT:=λouter H s E e s'=>∃C H',Fly P w outer H s C H' e s'/\E (.ref C) none H'
def QrZ(E:XK)(C:Addr)(te:TE):TS:=λ_ σ H=>te σ H λ_ H1=>E (.ref C) none H1
section
variable{X:Cx}{E:XK}{C:Addr}{x:Str}{e0:Q5}{te:TE}{np cpos pos:Pos}
theorem Qw1{pins:List (Addr×Obj)}{σ:L2.St}{H:Hp}{s:Shared}{h1:Zl}{a:Addr}{vs:List Value}{M:QkB}{EE:Value->Shared->Prop}(I:Inv X pins σ H s)(hstk:X.stack=X.env::X.outer)(hfr:X.env.frame=some X.env.locals)(hex:X.ex=[])
  (hx:Heap.MadeExcOf s.heap h1 a (.ref C) vs) :
  wpAny M X.A (leaving X.env (.ref a)) (λ_ s2=>Fly X.prog X.w X.outer X.H₀ X.s₀ C H (.ref a) s2) EE { s with heap:=h1 }:=by
 have fr:X.A.frames=some (X.env::X.outer):=by rw[<- hstk];exact I.ok.frames
 have ff:s.heap.FunFrames X.base (X.env::X.outer):=by rw[<- hstk];exact I.stack
 have hin:∀env∈X.env::X.outer,∀b,env.frame=some b->b∈frs (X.env::X.outer):=λenv he b hb=>Yw.mpr ⟨env,he,hb⟩
 refine wpAny_leaves_madeW (base:=PySem.W.hideAll s.heap (frs (X.env::X.outer))) (h:=s.heap) (L:=X.env.locals) fr hfr (λb o q=>PySem.W.of_hideAll _ q) (PySem.W.funFrames_hide ff hin) hx λh' t x1 x2 x3 x4=>?_
 have nex:∀b:Addr,b∉X.ex:=λb=>by rw[hex];simp
 have free0:X.s₀.heap.get? a=none:=by
  cases q:X.s₀.heap.get? a with
  |none=>rfl
  |some o=>
   obtain⟨o',e⟩:=I.base.there a o q (nex a);rw[hx.new] at e;cases e
 have freeH:H a=none:=by
  cases q:H a with
  |none=>rfl
  |some o=>
   obtain⟨u,e⟩:=obj_there (I.hok a o q);rw[hx.new] at e;cases e
 have stf:∀b∈frs (X.env::X.outer),H b=none:=λb hb=>I.stkFree b (by rw[hstk];exact hb)
 refine⟨a,t,_,rfl,I.os,I.bare,x1,free0,freeH,λh2 st up=>?_⟩;have up2:s.heap.UpToSlots h2:=((QxL hx.keeps).trans x4).trans up;have kp:∀b o,s.heap.get? b=some o->b∉frs (X.env::X.outer)->h2.get? b=some o:=λb o e n=>st b o (PySem.W.hideAll_get _ e n)
 have own:∀b o,X.s₀.heap.get? b=some o->b≠X.env.locals:=λb o e z=>by
  have h1:=Qv e;have h2:=I.ok.above;rw[z] at h1;exact absurd (Q1 h1 h2) (Yk _)
 have nfr:∀b o,X.s₀.heap.get? b=some o->b∉frs X.outer->b∉frs (X.env::X.outer):=λb o e n hb=>by
  unfold frs at hb n;rw[Qak,hfr] at hb;rcases Qz.mp hb with z | z
  ·exact own b o e z
  ·exact n z
 have hdat:∀b∈frs X.outer,∀o,s.heap.get? b=some o->∀vs,o.data≠.fields vs:=λb hb o e=>by
  obtain⟨_,o',ho',hd⟩:=I.funs.mem hb;rw[e] at ho';cases ho';exact hd
 refine⟨⟨λb o e n hb _=>kp b o (I.base.keep b o e n hb (nex b)) (nfr b o e hb),λb o e n hb _=>?_,λb o e n _=>I.base.free b o e n (nex b),λb o e _=>?_,I.base.tups,I.base.frzs,I.base.tbls⟩,λb o e=>?_⟩
 ·obtain⟨sl,e1⟩:=I.base.slot b o e n hb (nex b);obtain⟨sl2,e2⟩:=up2 b _ e1 (hdat b hb _ e1);exact⟨sl2,e2⟩
 ·obtain⟨o',e1⟩:=I.base.there b o e (nex b);by_cases hb:b∈frs X.outer
  ·obtain⟨sl2,e2⟩:=up2 b _ e1 (hdat b hb _ e1);exact⟨_,e2⟩
  ·exact⟨o',kp b o' e1 (nfr b o e hb)⟩
 ·refine(I.hok b o e).stay (λc u hc q=>kp c u q λhm=>?_) (λ_ q=>q) λ_ _ q=>q
  have z:=stf c hm;rcases hc with r | r
  ·rw[r,e] at z;cases z
  ·rw[r] at z;cases z
theorem Qpo(hxe:∀e s1,wpAny (model X.prog X.w) X.A (leaving X.env e) (λ_ s2=>CXE X.prog X.w X.outer X.H₀ X.s₀ E e s2) (λe' s2=>CXE X.prog X.w X.outer X.H₀ X.s₀ E e' s2) s1->X.xe e s1)
  (hstk:X.stack=X.env::X.outer)(hfr:X.env.frame=some X.env.locals)(hex:X.ex=[])(hc:X.calm=true)(hg:Gl X x)(hm:X.mg x=some (.ref C))(q:PySem.W.excIn X.K C mroV "ValueError.__new__" = true)
  (ha:PE X e0 te)(he:starEach [e0] X.env=[(false,eval e0 X.env)]:=by rfl)(hd:(x == ("__debug__" : Str))=false:=by decide) :
  PS X (.Raise (some (.Call (.Name x np) [e0] [] cpos)) none pos) (QrZ E C te):=by
 intro pins s σ H D I h;obtain⟨bm,N,nm,qn,bs,hdct,sn,sub,ab,col,dd,k0,k1,k2,k3,k5,mN,hC,hN,hni,T⟩:=Qmq I.ok.mod.kin q;refine wpAny_Raise_call_subT (k5:=k5) (k3:=k3) (k2:=k2) (k1:=k1) (k0:=k0) (dd:=dd) (col:=col) (ab:=ab) (sub:=sub) (sn:=sn) (hdct:=hdct) (bs:=bs) (N:=N) (q:=qn) (nm:=nm) (C:=C) PySem.F.excBase_ValueError (T.hasType PySem.F.excBase_ValueError.hasBase) (I.ok.hd hc) (by rw[he];rfl) hni (Qdz I hg hm ?_ hd);refine⟨rfl,?_⟩;rw[he];refine QlC (QoB (thn (ha pins s σ H _ I h) λu s1 ⟨v,H1,I1,r1,q1⟩=>QoP ⟨rfl,by show 1<=sizeLine;decide,I1.bk _ _ hC,hN.keeps I1.bk,T.keeps I1.bk,λh' e hx=>?_⟩));exact hxe _ _ (thn (Qw1 I1 hstk hfr hex hx) λ_ s2 z=>⟨C,H1,z,q1⟩)
end
def exO(a C:Addr):HO:=.ext (ExAt a C)
structure ByC (K:PySem.W.Frag) (C R:Addr):Prop where
 ty:PySem.W.typeIn K (.ref R)=some (.type "type")
 cls:(PySem.W.clsIn K R).isSome=true
 base:PySem.W.mroIn K R (.type "BaseException")=some true
 sub:PySem.W.mroIn K C (.ref R)=some true
theorem QkR{K:PySem.W.Frag}{M:QkB}{h:Zl}{R:Addr}(X:K.In h)(c:(PySem.W.clsIn K R).isSome=true):PySem.W.Looks M h (isType (.ref R)) true:=by
 unfold PySem.W.clsIn at c;split at c
 ·rename_i ho
  intro A' Q' E' s' k z;unfold isType loadHead;exact Qa (wpAny_loadPart (k _ _ (X _ _ ho)) (Qk z))
 ·cases c
theorem Qk7{M:QkB}{A:Js}{E:Value->Shared->Prop}{K:PySem.W.Frag}{a C R:Addr}{s:Shared}{Q:Bool->Shared->Prop}(X:K.In s.heap)(I:ExAt a C s.heap)(c:ByC K C R)(h:Q true s) :
  wpAny M A (excMatches (.ref a) (.ref R)) Q E s:=by
 obtain⟨h0,g0,d0,t0,o0⟩:=s;have l1:=PySem.W.looks_typeIn (M:=M) X c.ty;have l2:=QkR (M:=M) X c.cls;have l3:=PySem.W.looks_mroIn (M:=M) X c.base;have l4:=PySem.W.looks_mroIn (M:=M) X c.sub;have l5:=I.ty (M:=M);have l6:PySem.W.Looks M h0 (isSubtype (.type "type") (.type "tuple")) false:=PySem.W.Looks.of_pure tc_notTuple;unfold excMatches isExcClass isInstance
 repeat (first | lk | exact h)
abbrev mkd (X:Cx) (e:Value):Cx:={ X with A:=X.A.mark (some e),calm:=false,xe:=λ_ _=>False }
section
variable{X:Cx}{pins:List (Addr×Obj)}{σ:L2.St}{H:Hp}{s:Shared}
theorem QnB(I:Inv X pins σ H s)(e:Value):Inv (mkd X e) pins σ H s:=
 ⟨⟨I.ok.mod,I.ok.kind,I.ok.glob,I.ok.blt,I.ok.above,I.ok.inj,I.ok.has,I.ok.cab,(λh=>nomatch h),I.ok.frames,I.ok.stk,I.ok.exf,I.ok.bs,I.ok.bsz,I.ok.noex,I.ok.exfs,I.ok.funs,I.ok.frf⟩,I.os,I.bare,I.base,I.loc,I.cell,I.free,I.freeC,I.pin,I.hok,I.len⟩
theorem Qrk{e:Value}(ok:X.Ok)(I:Inv (mkd X e) pins σ H s):Inv X pins σ H s:=⟨ok,I.os,I.bare,I.base,I.loc,I.cell,I.free,I.freeC,I.pin,I.hok,I.len⟩
theorem QnA{a C:Addr}(I:Inv X pins σ H s)(hf:H a=none)(h0:X.s₀.heap.get? a=none)(hp:∀p∈X.pn++pins,p.1≠a)(x:ExAt a C s.heap):Inv X pins σ (upd H a (exO a C)) s:=by
 obtain⟨o,vs,ho,hcl,hd⟩:=id x;have ne:∀b u,H b=some u->b≠a:=λb u e z=>by rw[z,hf] at e;cases e
 refine⟨I.ok,I.os,I.bare,⟨I.base.keep,I.base.slot,λb u e n hx=>?_,I.base.there,λb xs e=>?_,λb u xs e=>?_,λb ps e=>?_⟩,I.loc,I.cell,?_,λy c e=>?_,λp hp'=>?_,λb u e=>?_,I.len⟩
 ·rw[J8 (λz=>by rw[z,h0] at e;cases e)];exact I.base.free b u e n hx
 ·have q:=I.base.tups b xs e;rw[J8 (ne b _ q)];exact q
 ·have q:=I.base.frzs b u xs e;rw[J8 (ne b _ q)];exact q
 ·obtain⟨m,q⟩:=I.base.tbls b ps e;exact⟨m,by rw[J8 (ne b _ q)];exact q⟩
 ·obtain⟨m,⟨oL,es,ep,hoL,hdL,_⟩,_⟩:=I.loc;rw[J8 (λz=>by rw[z,ho] at hoL;cases hoL;rw[hd] at hdL;cases hdL)];exact I.free
 ·obtain⟨v,oc,hoc,hdc⟩:=I.cell y c e;rw[J8 (λz=>by rw[z,ho] at hoc;cases hoc;rw[hd] at hdc;cases hdc)];exact I.freeC y c e
 ·obtain⟨e,n,r⟩:=I.pin p hp';exact⟨e,by rw[J8 (hp p hp')];exact n,r⟩
 ·by_cases hb:b=a
  ·subst hb;rw[JK] at e;cases e;exact⟨x,⟨o,ho⟩,λh1 h2 y k=>by
    obtain⟨o',vs',e',c',d'⟩:=y;exact⟨o',vs',k _ e',c',d'⟩⟩
  ·rw[J8 hb] at e;exact(I.hok b u e).stay (λ_ _ _ q=>q) (λc q=>by rw[J8 (ne c _ q)];exact q) λc xs q=>by rw[J8 (ne c _ q)];exact q
theorem Qrl{i:Nat}{n:Str}{m:Str->Option Value}{v:Option Value}{h':Zl}{tk:Nat}(I:Inv X pins σ H s)(hN:X.N.Nodup)(hi:X.N[i]? = some n)
  (hm:∀(j:Nat)(x:Str)(u:V),X.N[j]? = some x->σ[j]? = some (some u)->Vis X.env.scope x->∃y,RelV u y/\Look X.env s.heap m x y)
  (hn:h'.Ns X.env.locals (λx=>if x=n then v else m x))(hs:QbE X.env.locals s.heap h'):Inv X pins (σ.set i none) H { s with heap:=h',toks:=tk }:=by
 have neL:∀b o,X.s₀.heap.get? b=some o->b≠X.env.locals:=λb o e=>QY (Q1 (Qv e) I.ok.above)
 have cne:=I.cne;refine⟨I.ok,I.os,I.bare,⟨λb o e z hb hx=>(hs.2 b (neL b o e)).trans (I.base.keep b o e z hb hx),λb o e z hb hx=>?_,I.base.free,λb o e hx=>?_,I.base.tups,I.base.frzs,I.base.tbls⟩,⟨_,hn,λj y u e1 e2 e3=>?_⟩,λy c e=>?_,I.free,I.freeC,λp hp=>?_,λb o e=>?_,?_⟩
 ·obtain⟨sl,e1⟩:=I.base.slot b o e z hb hx;exact⟨sl,(hs.2 b (neL b o e)).trans e1⟩
 ·obtain⟨o',e1⟩:=I.base.there b o e hx;exact⟨o',(hs.2 b (neL b o e)).trans e1⟩
 ·by_cases hj:j=i
  ·subst hj;rw[Qfe] at e2;split at e2
   ·split at e2<;>cases e2
   ·exact absurd rfl ‹¬_›
  ·rw[Qa9 (Qea hj)] at e2;obtain⟨u',r',q⟩:=hm j y u e1 e2 e3;refine⟨u',r',?_⟩;rcases q with⟨k,e⟩ | ⟨k,c,e,z⟩
   ·have:y≠n:=λe=>hj (QgH hN e1 (e ▸ hi))
    exact .inl ⟨k,by simp[this,e]⟩
   ·exact .inr ⟨k,c,e,z.sameBut hs (cne y c e)⟩
 ·obtain⟨w',z⟩:=I.cell y c e;exact⟨w',z.sameBut hs (cne y c e)⟩
 ·obtain⟨e,z,ne,nf,d⟩:=I.pin p hp;exact⟨(hs.2 p.1 ne).trans e,z,ne,nf,d⟩
 ·refine(I.hok b o e).stay (λc u hc q=>(hs.2 c ?_).trans q) (λ_ q=>q) λ_ _ q=>q
  rintro rfl;have z:=I.free;rcases hc with r | r
  ·rw[r,e] at z;cases z
  ·rw[r] at z;cases z
 ·rw[Z0];exact I.len
end
def XP(X:Cx)(pins:List (Addr×Obj))(Ex:L2.St->Addr->Hp->Prop)(e:Value)(s1:Shared):Prop:=
 ∃(σ:L2.St)(C:Addr)(H':Hp)(a t:Addr)(B:Zl),e=.ref a/\Qym B X.stack a (.ref C) (.ref t) s1.heap/\H' a=none/\X.s₀.heap.get? a=none/\(∀p∈X.pn++pins,p.1≠a) /\
  (∀(h2:Zl)(tk:Nat),B.StaysIn h2->s1.heap.UpToSlots h2->Inv X pins σ H' { s1 with heap:=h2,toks:=tk })/\Ex σ C H'
abbrev TX:=L2.St->Hp->VK->(Addr->Hp->Prop)->Prop
def PEX(X:Cx)(e:Q5)(t:TX):Prop:=∀(pins:List (Addr×Obj))(s:Shared)(σ:L2.St)(H:Hp)(Q:VK)(Ex:Addr->Hp->Prop),Inv X pins σ H s->t σ H Q Ex ->
 wpAny (model X.prog X.w) X.A (eval e X.env) (EP X pins σ Q) (XP X pins λσ1 C H1=>σ1=σ/\Ex C H1) s
def Qvp(sp:Sp)(t:TA):TX:=λσ H Q Ex=>t σ H λvs H1=>sp vs H1 Q λcv _ H2=>∃C,cv=.ref C/\Ex C H2
section
variable{X:Cx}{k:Nat}{f:Addr}{fd:QL}{ps:List Str}{sp:Sp}{x:Str}{p pos:Pos}{e:Q5}{es:List Q5}{t:TA}
theorem Qpt(F:FnOk X.prog X.w X.K X.mg X.base (CXE X.prog X.w) k f fd ps sp)(hr:Room k X.A)(hg:Gl X x)(hm:X.mg x=some (.ref f))(hk:PySem.W.keepIn X.K (.ref f)=true)(hb:Binds X.K fd ps [])(hex:X.ex=[])
  (ha:PA X.nox (e::es) t)(hdb:(x == ("__debug__" : Str))=false:=by decide)(he:starEach (e::es) X.env=(false,eval e X.env)::starEach es X.env:=by rfl)(hpl:(backTo pos (starEach es X.env)).any (·.1)=false:=by rfl) :
  PEX X (.Call (.Name x p) (e::es) [] pos) (Qvp sp t):=by
 intro pins s σ H Q Ex I h;refine YQ (Qdz I hg hm ?_ hdb);refine PySem.W.callWith_K (h₀:=X.base) I.ok.mod.kin hk (J6 (ha pos pins s σ H _ (I.wish _) h) (λus s1 ⟨vs,H1,J1,r,q⟩=>?_) λ_ _ z=>Jz z) he hpl;have I1:Inv X pins σ H1 s1:=J1.unwish;refine⟨I1.kIn,?_⟩;have hl:us.length=ps.length:=by rw[<- r.length];exact F.len _ _ _ _ q
 have hbb:Qd1 s1 fd ⟨us,[]⟩ (ps.zip us):=by
  have z:=hb s1 us I1.kIn (by rw[Je];exact hl);rw[Je] at z;exact z
 refine Qd9 (Qca (F.run X.A X.stack s1 H1 ⟨us,[]⟩ us vs Q _ hr I1.env0 hbb r q) λr s2 hq=>?_);cases r with
 |error e=>
  obtain⟨C0,H2,⟨a,t',B,rfl,os,bare,fl,fa,fH,land⟩,C,eC,ex⟩:=hq;cases eC;refine⟨σ,C0,H2,a,t',B,rfl,fl,fH,?_,λp hp z=>?_,λh2 tk st up=>?_,rfl,ex⟩
  ·cases z:X.s₀.heap.get? a with
   |none=>rfl
   |some o=>
    obtain⟨o',e'⟩:=I1.base.there a o z (by rw[hex];simp);rw[fa] at e';cases e'
  ·have e':=(I1.pin p hp).1;rw[z,fa] at e';cases e'
  ·obtain⟨un,hok⟩:=land h2 st up;exact I1.call' (s':={ s2 with heap:=h2,toks:=tk }) (ch:=[]) os un hok bare (λb z=>absurd z (by simp))
 |ok fl=>
  cases fl with
  |ret u=>exact I1.after hq
  |next=>exact Jz hq
  |brk=>exact Jz hq
  |cont=>exact Jz hq
end
section
variable{X:Cx}{R:Addr}{i:Nat}{n r:Str}{call hx:Q5}{tc:TX}{th:TE}{rp np hp hpos pos:Pos}
end
structure Qot (k:Nat) (A:Js):Prop where
 dp:A.depth+3*k+5<recursionLimit
 un:A.units+16*k+200<cLine
theorem Room.m{k:Nat}{A:Js}(r:Room k A)(e:Value):Qot k (A.mark (some e)):=⟨r.dp,r.un⟩
structure FnM (P:QP) (w:JH) (K:PySem.W.Frag) (mg:Str->Option Value) (base:Zl) (k:Nat) (f:Addr) (fd:QL) (ps:List Str) (sp:Sp):Prop where
 len:∀vs H Q E,sp vs H Q E->vs.length=ps.length
 run:∀(A:Js)(outer:List Env)(s:Shared)(H:Hp)(args:Args)(us:List Value)(vs:List V)(Q:VK)(E:XK),Qot k A->Env0 P w K mg base A outer s H->Qd1 s fd args (ps.zip us)->Vals vs us->sp vs H Q E ->
  codeAny (model P w) A (.call (.ref f) args) (CR CX0 outer P w H s Q E) s
def cxM(P:QP)(w:JH)(K:PySem.W.Frag)(mg:Str->Option Value)(base:Zl)(N:List Str)(qual:Str)(scope:Qbk)(f:Addr)(cd:Value)(A:Js)(outer:List Env)(s:Shared)(H:Hp)(E:XK):Cx:=
 { cxOf CX0 P w K mg base N qual scope f cd A outer s H E with calm:=false,xe:=λ_ _=>False }
section
variable{P:QP}{w:JH}{K:PySem.W.Frag}{mg:Str->Option Value}{base:Zl}
theorem Qlf{N ps:List Str}{qual:Str}{scope:Qbk}{f:Addr}{cd:Value}{A:Js}{outer:List Env}{s s1:Shared}{H:Hp}{E:XK}{us:List Value}{vs:List V}
  (S:Jx N ps scope)(e0:Env0 P w K mg base A outer s H)(hl:vs.length=ps.length)(r:Vals vs us)
  (x:InCallC s s.heap.objs.size (bindL (envOfC qual scope s.heap.objs.size f cd).kindOf (ps.zip us) λ_=>none) (cellsFrom (s.heap.objs.size+1) scope.names []) (bindC (envOfC qual scope s.heap.objs.size f cd).kindOf (ps.zip us) λ_=>none) s1) :
  L2.Inv (cxM P w K mg base N qual scope f cd A outer s H E) [] (start N vs) H s1:=by
 have e1:Env0 P w K mg base { A with handled:=none } outer s H:=⟨e0.frames,e0.mod,e0.bs,e0.bsz,e0.funs,e0.frf,e0.hok,e0.bare⟩;have I:=QhW (CX:=CX0) (E:=E) (A:={ A with handled:=none }) S rfl e1 hl r x;exact⟨⟨I.ok.mod,I.ok.kind,I.ok.glob,I.ok.blt,I.ok.above,I.ok.inj,I.ok.has,I.ok.cab,(λh=>nomatch h),I.ok.frames,I.ok.stk,I.ok.exf,I.ok.bs,I.ok.bsz,I.ok.noex,I.ok.exfs,I.ok.funs,I.ok.frf⟩,I.os,I.bare,I.base,I.loc,I.cell,I.free,I.freeC,I.pin,I.hok,I.len⟩
theorem okM{x qual:Str}{st:Z6}{f:Addr}{fd:QL}{N ps:List Str}{k:Nat}{sp:Sp}(F:Fun K x qual st f fd)(S:Jx N ps (Qs st))(len:∀vs H Q E,sp vs H Q E->vs.length=ps.length)
  (hbody:∀(cdv:Value)(A:Js)(outer:List Env)(s:Shared)(H:Hp)(vs:List V)(Q:VK)(E:XK),Qot k (A.deeper (envOfC qual (Qs st) s.heap.objs.size f cdv))->sp vs H Q E ->
   ∃t,PSs (cxM P w K mg base N qual (Qs st) f cdv A outer s H E) (Jv st) t/\t { nx:=λ_ H'=>Q .non H',rt:=Q } (start N vs) H):FnM P w K mg base (k+1) f fd ps sp:=by
 obtain⟨oc,od,kV,doc,pm,an,cdv,ct,osl,rfl,lk,hcd⟩:=F.ex;refine⟨len,λA outer s H args us vs Q E hr e0 hb r hsp=>?_⟩;have hl:=len _ _ _ _ hsp;have KX:K.In s.heap:=e0.mod.kin.keeps λb o e=>(e0.bs b o e).1
 have lim:s.heap.NoLimit:=e0.mod.nolimit.keeps λb o e=>(e0.bs b o e).1
 have hkind:∀y∈ps.zip us,(Qs st).names.lookup y.1=some .local∨((Qs st).names.lookup y.1=some .cell/\((cellsFrom (s.heap.objs.size+1) (Qs st).names []).lookup y.1).isSome=true):=λ⟨n,v⟩ hy=>by
  rcases S.par n (QcE hy).1 with q | q
  ·exact .inl q
  ·exact .inr ⟨q,PySem.W.cellsFrom_some _ _ _ (.inl q)⟩
 have hdp:A.depth<recursionLimit:=by have:=hr.dp;omega
 refine QsF hdp (KX _ _ lk) rfl S.co S.gen rfl (PySem.W.codeRec_of KX hcd) (hb _ _ _ _ ?_);refine Qlr S.kind hkind λenv he s1 x=>?_
 subst he;refine⟨lim.keeps x.toInCall.keep,codeAny_func ?_⟩;have hr2:Qot k (A.deeper (envOfC qual (Qs st) s.heap.objs.size f cdv)):=⟨by have:=hr.dp;show A.depth+1+3*k+5<_;omega,by have:=hr.un;show A.units+3+16*k+200<_;omega⟩;obtain⟨t,ht,hq⟩:=hbody cdv A outer s H vs Q E hr2 hsp;have I:=Qlf (E:=E) S e0 hl r x;refine J6 (ht [] s1 (start N vs) H _ I hq) (λfl s' hs=>?_) λe s' hs=>Jz hs
 have fin:∀{σ':L2.St}{H':Hp}{v:V}{u:Value},L2.Inv (cxM P w K mg base N qual (Qs st) f cdv A outer s H E) [] σ' H' s'->RelV v u->Q v H'->CE outer P w H s Q u s':=
  λ{σ' H' v u} J rv q=>⟨v,H',J.os,J.bare,J.base,J.hok,rv,q⟩
 cases fl with
 |ret u=>
  obtain⟨v,σ',H',J,rv,q⟩:=hs;exact fin J rv q
 |next=>
  obtain⟨σ',H',J,q⟩:=hs;exact fin (v:=V.non) (u:=Zs) J rfl q
 |brk=>
  obtain⟨_,_,_,q⟩:=hs;exact Jz q
 |cont=>
  obtain⟨_,_,_,q⟩:=hs;exact Jz q
end
section
variable{X:Cx}{k:Nat}{f:Addr}{fd:QL}{ps:List Str}{sp:Sp}{x:Str}{p pos:Pos}{e:Q5}{es:List Q5}{t:TA}
theorem Qpy(F:FnM X.prog X.w X.K X.mg X.base k f fd ps sp)(hr:Qot k X.A)(hg:Gl X x)(hm:X.mg x=some (.ref f))(hk:PySem.W.keepIn X.K (.ref f)=true)(hb:Binds X.K fd ps [])
  (ha:PA X (e::es) t)(hdb:(x == ("__debug__" : Str))=false:=by decide)(he:starEach (e::es) X.env=(false,eval e X.env)::starEach es X.env:=by rfl)(hpl:(backTo pos (starEach es X.env)).any (·.1)=false:=by rfl) :
  PE X (.Call (.Name x p) (e::es) [] pos) (λσ H Q=>t σ H λvs H1=>sp vs H1 Q E0):=by
 intro pins s σ H Q I h;refine YQ (Qdz I hg hm ?_ hdb);refine PySem.W.callWith_K (h₀:=X.base) I.ok.mod.kin hk (thn (ha pos pins s σ H _ I h) λus s1 ⟨vs,H1,I1,r,q⟩=>⟨I1.kIn,?_⟩) he hpl;have hl:us.length=ps.length:=by rw[<- r.length];exact F.len _ _ _ _ q
 have hbb:Qd1 s1 fd ⟨us,[]⟩ (ps.zip us):=by
  have z:=hb s1 us I1.kIn (by rw[Je];exact hl);rw[Je] at z;exact z
 refine Qd9 (Qca (F.run X.A X.stack s1 H1 ⟨us,[]⟩ us vs Q _ hr I1.env0 hbb r q) λr s2 hq=>?_);cases r with
 |error e=>exact Jz hq
 |ok fl=>
  cases fl with
  |ret u=>exact I1.after hq
  |next=>exact Jz hq
  |brk=>exact Jz hq
  |cont=>exact Jz hq
end
section
variable{X:Cx}
theorem Qh7:CallR X (.builtin "isinstance") (λxs H Q=>∃a C y c b,xs=[.ref a,y]/\H a=some (exO a C)/\ExC X.K C/\(∀u,RelV y u->u=c)/\PySem.W.kitOne X.K (.ref C) c=some b/\Q (.bl b) H):=by
 intro pins s σ H xs us Q I r h;obtain⟨a,C,y,c,b,rfl,ha,hc,hy,e,q⟩:=h;obtain⟨u,v,rfl,ru,rv⟩:=vals2 r;cases(show u=JT a from ru);cases hy v rv;exact PySem.W.kia_one (Quk hc) I.kIn (I.hok a _ ha).1 e (λz=>nomatch z) λtk=>⟨.bl b,H,I.tok tk,rfl,q⟩
theorem bools_eq{bs:List Bool}{us:List Value}(r:Vals (bs.map V.bl) us):us=bs.map ZW:=by
 induction bs generalizing us with
 |nil=>cases r;rfl
 |cons b bs ih=>
  cases r with
  |cons r t=>
   cases(show _=ZW b from r);rw[ih t];rfl
def QdE:Value->Bool
 |.bool b=>b
 |_=>false
theorem Qli(bs:List Bool):(bs.map ZW).countP QdE=bs.countP id:=by
 rw[List.countP_map];exact List.countP_congr λb _=>Iff.rfl
def Qs9:V->List V->Hp->VK->Prop:=λx vs H Q=>∃(l:Addr)(bs:List Bool),x=.ref l/\vs=[.bl true]/\H l=some (.lst (bs.map V.bl))/\Q (.int (bs.countP id:Nat)) H
theorem Qre:MtR X "list.count" Qs9:=by
 intro pins s σ H x vs v us Q I rx rv h;obtain⟨l,bs,rfl,rfl,hH,q⟩:=h;cases rx;obtain⟨u,rfl,ru⟩:=rv.one;cases(show u=ZW true from ru);obtain⟨z,its,n,r,hl,e⟩:=I.lstM hH;have hi:=bools_eq r;subst hi;refine Qa8 F.slot_list_count ⟨_,e,rfl⟩ F.entry_list_count (F.args_list_count_2 _ _) (SeqAt.list_countAt l (bs.map ZW).toArray n none #[] (.bool true) QdE) ⟨e,λy hy=>?_,?_⟩
 ·obtain⟨b,_,rfl⟩:=Qy.mp (Yn.mp hy);have:=Qhg (A:=X.A.in1) (s:=s) b true;rw[show(b == true)=b by cases b<;>rfl] at this;exact this
 ·have e2:((bs.map ZW).toArray.toList.countP QdE:Nat)=bs.countP id:=Qli bs;rw[e2];exact⟨.int (bs.countP id:Nat),H,I.tok _,⟨_,rfl⟩,q⟩
def Qs7:V->List V->Hp->VK->Prop:=λx vs H Q=>∃(l:Addr)(bs:List Bool)(j:Nat),x=.ref l/\vs=[.bl true]/\H l=some (.lst (bs.map V.bl))/\bs[j]? = some true/\(∀m,m<j->bs[m]? = some false)/\Q (.int (j:Nat)) H
theorem mt_index:MtR X "list.index" Qs7:=by
 intro pins s σ H x vs v us Q I rx rv h;obtain⟨l,bs,j,rfl,rfl,hH,hj,hm,q⟩:=h;cases rx;obtain⟨u,rfl,ru⟩:=rv.one;cases(show u=ZW true from ru);obtain⟨z,its,n,r,hl,e⟩:=I.lstM hH;have hi:=bools_eq r;subst hi;have hlt:=(Qx.mp hj).1;have hsz:(bs.map ZW).toArray.size=bs.length:=by simp
 rw[Qh] at z;have hbig:bs.length<2^60:=QbL z (by decide);refine Qa8 Qu7 ⟨_,e,rfl⟩ QuT (QsL _ _) (Qow l (bs.map ZW).toArray n none #[] (.bool true) QdE j (by rw[hsz];exact hlt) (by omega) ?_ ?_) ⟨e,λy hy=>?_,?_⟩
 ·have:=(Qx.mp hj).2;simp[QdE,this]
 ·intro m hm1 hm2;have:=(Qx.mp (hm m hm2)).2;simp[QdE,this]
 ·obtain⟨b,_,rfl⟩:=Qy.mp (Yn.mp hy);have:=Qhg (A:=X.A.in1) (s:=s) b true;rw[show(b == true)=b by cases b<;>rfl] at this;exact this
 ·exact⟨.int (j:Nat),H,I.tok _,⟨_,rfl⟩,q⟩
end
end Rx
namespace Rd
open L2
mutual
inductive Dat (H:Hp):V->Qb->Prop
 |non:Dat H .non .none
 |bl (b:Bool):Dat H (.bl b) (.bool b)
 |int (i:Int):Dat H (.int i) (.int i)
 |str (x:Str):YV (.str x)=true->Dat H (.str x) (.str x)
 |tup {a:Addr} {xs:List V} {ds:List Qb}:H a=some (.tup xs)->Dats H xs ds->Dat H (.ref a) (.tuple ds)
 |lst {a:Addr} {xs:List V} {ds:List Qb}:H a=some (.lst xs)->Dats H xs ds->Dat H (.ref a) (.list ds)
inductive Dats (H:Hp):List V->List Qb->Prop
 |nil:Dats H [] []
 |cons {x:V} {xs:List V} {d:Qb} {ds:List Qb}:Dat H x d->Dats H xs ds->Dats H (x::xs) (d::ds)
end
mutual
theorem Z8{P:QP}{w:JH}{H:Hp}{h:Zl}(ok:HOk P w H h):∀(d:Qb)(x:V)(v:Value),Dat H x d->RelV x v->(∃as,Qbs h v d as)/\d.canLay0=true
 |.none,_,v,.non,r=>by cases r;exact⟨⟨_,.none⟩,rfl⟩
 |.bool b,_,v,.bl _,r=>by cases r;exact⟨⟨_,.bool b⟩,rfl⟩
 |.int i,_,v,.int _,r=>by obtain⟨t,rfl⟩:=r;exact⟨⟨_,.int i t⟩,rfl⟩
 |.str z,_,v,.str _ c,r=>by obtain⟨t,rfl⟩:=r;exact⟨⟨_,.str z t⟩,c⟩
 |.tuple ds,_,v,.tup (a:=a) (xs:=xs) e q,r=>by
  cases r;obtain⟨_,its,rv,o,ho,hc,n,hd⟩:=ok a _ e;obtain⟨⟨as,ra⟩,cl⟩:=YA ok ds xs its q rv;exact⟨⟨as,.tuple ho hc hd ra⟩,cl⟩
 |.list ds,_,v,.lst (a:=a) (xs:=xs) e q,r=>by
  cases r;obtain⟨_,its,n,rv,ho⟩:=ok a _ e;obtain⟨⟨as,ra⟩,cl⟩:=YA ok ds xs its q rv;exact⟨⟨a::as,.list ho rfl rfl ra⟩,cl⟩
 |.dict _,_,_,q,_=>nomatch q
theorem YA{P:QP}{w:JH}{H:Hp}{h:Zl}(ok:HOk P w H h):∀(ds:List Qb)(xs:List V)(vs:List Value),Dats H xs ds->Vals xs vs->(∃as,Yg h vs ds as)/\Q4 ds=true
 |[],_,vs,.nil,r=>by cases r;exact⟨⟨_,.nil⟩,rfl⟩
 |d::ds,_,vs,.cons (x:=x) (xs:=xs) q qs,r=>by
  cases r with
  |cons r rs=>
   obtain⟨⟨a1,r1⟩,c1⟩:=Z8 ok d x _ q r;obtain⟨⟨a2,r2⟩,c2⟩:=YA ok ds xs _ qs rs;exact⟨⟨_,.cons r1 r2⟩,by simp[Q4,c1,c2]⟩
end
mutual
theorem Qkf{H H':Hp}(s:Same H H'):∀(d:Qb)(x:V),Dat H x d->Dat H' x d
 |.none,_,.non=>.non
 |.bool _,_,.bl _=>.bl _
 |.int _,_,.int _=>.int _
 |.str _,_,.str _ c=>.str _ c
 |.tuple ds,_,.tup (xs:=xs) e q=>.tup (s _ _ e) (Qc3 s ds xs q)
 |.list ds,_,.lst (xs:=xs) e q=>.lst (s _ _ e) (Qc3 s ds xs q)
 |.dict _,_,q=>nomatch q
theorem Qc3{H H':Hp}(s:Same H H'):∀(ds:List Qb)(xs:List V),Dats H xs ds->Dats H' xs ds
 |[],_,.nil=>.nil
 |d::ds,_,.cons (x:=x) (xs:=xs) q qs=>.cons (Qkf s d x q) (Qc3 s ds xs qs)
end
theorem Dat.same{H H':Hp}{x:V}{d:Qb}(q:Dat H x d)(s:Same H H'):Dat H' x d:=Qkf s d x q
theorem Dats.same{H H':Hp}{xs:List V}{ds:List Qb}(q:Dats H xs ds)(s:Same H H'):Dats H' xs ds:=Qc3 s ds xs q
theorem Dats.length{H:Hp}:∀{xs:List V}{ds:List Qb},Dats H xs ds->xs.length=ds.length
 |_,_,.nil=>rfl
 |_,_,.cons _ q=>by rw[QU,QU,q.length]
theorem Dats.get{H:Hp}:∀{xs:List V}{ds:List Qb},Dats H xs ds->∀(i:Nat)(x:V),xs[i]? = some x->∃d,ds[i]? = some d/\Dat H x d
 |_,_,.nil,i,x,e=>by simp at e
 |_,_,.cons q qs,0,x,e=>by simp at e;subst e;exact⟨_,rfl,q⟩
 |_,_,.cons q qs,i+1,x,e=>qs.get i x (by simpa using e)
section
variable{X:Cx}
def QAr(X:Cx):R2:=λx y H Q=>∃dx dy,Dat H x dx/\Dat H y dy/\X.A.units+min dx.depth dy.depth<cLine/\Q (.bl (Q6 dx dy)) H
theorem Qm0:OpR X (compareOp .Eq) (QAr X):=by
 intro pins s σ H x y v u Q I rx ry h;obtain⟨dx,dy,qx,qy,hu,q⟩:=h;obtain⟨⟨as,ra⟩,ca⟩:=Z8 I.hok dx x v qx rx;obtain⟨⟨bs,rb⟩,cb⟩:=Z8 I.hok dy y u qy ry;exact SeqAt.compareEq_reads ra rb ca cb hu ⟨.bl _,H,I,rfl,q⟩
open Classical in
noncomputable def eqH (h:Zl) (d:Qb) (y:Value):Bool:=decide (∃e as,Qbs h y e as/\e.canLay0=true/\Q6 e d=true)
open Classical in
theorem Qzb{h:Zl}{d:Qb}{y:Value}(q:∃e as,Qbs h y e as/\e.canLay0=true/\Q6 e d=true):eqH h d y=true:=by
 unfold eqH;exact decide_eq_true q
open Classical in
theorem Qzc{h:Zl}{d:Qb}{y:Value}(q:¬ ∃e as,Qbs h y e as/\e.canLay0=true/\Q6 e d=true):eqH h d y=false:=by
 unfold eqH;exact decide_eq_false q
theorem QnQ{h:Zl}{d e:Qb}{y:Value}{as:List Addr}(r:Qbs h y e as)(c:e.canLay0=true):eqH h d y=Q6 e d:=by
 cases q:Q6 e d with
 |true=>exact Qzb ⟨e,as,r,c,q⟩
 |false=>
  refine Qzc λ⟨e',as',r',c',q'⟩=>?_
  rw[<- Qa6 e e' y as as' c r r',q] at q';cases q'
theorem Qfa{h:Zl}{d:Qb}:∀{vs:List Value}{ds:List Qb}{as:List Addr},Yg h vs ds as->Q4 ds=true->vs.any (eqH h d)=ds.any λe=>Q6 e d
 |_,_,_,.nil,_=>rfl
 |_,_,_,.cons r rs,c=>by
  simp only[Q4,Jr] at c;rw[QxK,QxK,QnQ r c.1,Qfa rs c.2]
theorem Qdy{A:Js}{s:Shared}{d:Qb}{v:Value}{bs:List Addr}(rv:Qbs s.heap v d bs)(cv:d.canLay0=true):∀{vs:List Value}{ds:List Qb}{as:List Addr},Yg s.heap vs ds as->Q4 ds=true->A.units+d.depth<cLine ->
  ∀u∈vs,SeqAt.EqAt A s u v (eqH s.heap d u)
 |_,_,_,.nil,_,_=>λu hu=>nomatch hu
 |_,_,_,.cons (d:=e) r rs,c,hu=>λu hm=>by
  simp only[Q4,Jr] at c;rcases Qz.mp hm with z | z
  ·subst z;rw[QnQ r c.1];exact Qfg e d A s _ v _ bs r rv c.1 cv (QbL (Nat.add_le_add_left (QuQ _ _) _) hu)
  ·exact Qdy rv cv rs c.2 hu u z
def QzG(X:Cx)(neg:Bool):R2:=λx y H Q=>∃c ps ds d,y=.ref c/\H c=some (.tup ps)/\Dats H ps ds/\Dat H x d/\X.A.in1.units+d.depth<cLine/\Q (.bl (if neg then !(ds.any λe=>Q6 e d) else ds.any λe=>Q6 e d)) H
theorem Qwr:OpR X (compareOp .In) (QzG X false):=by
 intro pins s σ H x y v u Q I rx ry h;obtain⟨c,ps,ds,d,rfl,hc,qs,qx,hu,q⟩:=h;cases ry;obtain⟨⟨as,ra⟩,ca⟩:=Z8 I.hok d x v qx rx;obtain⟨_,its,rv,tp⟩:=I.hok c _ hc;obtain⟨⟨bs,rb⟩,cb⟩:=YA I.hok ds ps its qs rv;refine SeqAt.in_tupleAt (eqH s.heap d) tp (λw hw=>Qdy ra ca rb cb hu w (Yn.mp hw)) ⟨.bl _,H,I,rfl,?_⟩;rw[show its.toArray.any (eqH s.heap d)=its.any (eqH s.heap d) by simp,Qfa rb cb];exact q
theorem QmX:OpR X (compareOp .NotIn) (QzG X true):=by
 intro pins s σ H x y v u Q I rx ry h;obtain⟨c,ps,ds,d,rfl,hc,qs,qx,hu,q⟩:=h;cases ry;obtain⟨⟨as,ra⟩,ca⟩:=Z8 I.hok d x v qx rx;obtain⟨_,its,rv,tp⟩:=I.hok c _ hc;obtain⟨⟨bs,rb⟩,cb⟩:=YA I.hok ds ps its qs rv;refine SeqAt.notIn_tupleAt (eqH s.heap d) tp (λw hw=>Qdy ra ca rb cb hu w (Yn.mp hw)) ⟨.bl _,H,I,rfl,?_⟩;rw[show its.toArray.any (eqH s.heap d)=its.any (eqH s.heap d) by simp,Qfa rb cb];exact q
end
theorem Qjr:∀{ts:List String}{us:List Value},Vals (ts.map V.ty) us->us=ts.map Yl
 |[],_,.nil=>rfl
 |t::ts,_,.cons r q=>by
  cases(show _=Yl t from r);rw[Qjr q];rfl
section
variable{X:Cx}
theorem Qlm:CallR X (.builtin "isinstance") (λxs H Q=>∃(x:V)(t:Value)(tp:Addr)(ts:List String)(b:Bool)(d:Qb),xs=[x,.ref tp]/\H tp=some (.tup (ts.map V.ty))/\Rd.Dat H x d/\TyOf X.K H x t/\PySem.W.kitAny X.K t (ts.map Yl)=some b/\Q (.bl b) H):=by
 intro pins s σ H xs us Q I r h;obtain⟨x,t,tp,ts,b,d,rfl,htp,dat,ty,e,q⟩:=h;obtain⟨u,v,rfl,ru,rv⟩:=vals2 r;cases(show v=JT tp from rv);obtain⟨_,its,rt,⟨oc,od,oda,osl⟩,ho,hc,n,hd⟩:=I.hok tp _ htp;cases Qjr rt
 dsimp only at hc hd
 subst hc hd;have fin:∀tk,EP X pins σ Q (.bool b) { s with toks:=tk }:=λtk=>⟨.bl b,H,I.tok tk,rfl,q⟩
 cases dat with
 |non=>cases(show u=Zs from ru);cases ty;exact PySem.W.kia_tup PySem.W.kitx_none I.kIn QaH ho e (λz=>nomatch z) fin
 |bl y=>cases(show u=ZW y from ru);cases ty;exact PySem.W.kia_tup PySem.W.kitx_bool I.kIn QaH ho e (λz=>nomatch z) fin
 |int i=>obtain⟨t,z⟩:=(show ∃t,u=Qkw i t from ru);cases z;cases ty;exact PySem.W.kia_tup PySem.W.kitx_int I.kIn QaH ho e (λz=>nomatch z) fin
 |str y _=>obtain⟨t,z⟩:=(show ∃t,u=Qkv y t from ru);cases z;cases ty;exact PySem.W.kia_tup PySem.W.kitx_str I.kIn QaH ho e (λz=>nomatch z) fin
 |@tup a xs ds ea _=>
  cases(show u=JT a from ru);obtain⟨_,_,_,p⟩:=(show ObjOk X.prog X.w H s.heap a (.tup xs) from I.hok a _ ea);obtain⟨o,h1,h2,_⟩:=p;have et:t=.type "tuple" := by
   cases ty<;>first | rfl | (rename_i e';rw[ea] at e';cases e') | skip
  subst et;exact PySem.W.kia_tup PySem.W.kitx_tuple I.kIn ⟨o,h1,h2⟩ ho e (λz=>nomatch z) fin
 |@lst a xs ds ea _=>
  cases(show u=JT a from ru);obtain⟨_,_,n',_,h1⟩:=(show ObjOk X.prog X.w H s.heap a (.lst xs) from I.hok a _ ea);have et:t=.type "list" := by
   cases ty<;>first | rfl | (rename_i e';rw[ea] at e';cases e') | skip
  subst et;exact PySem.W.kia_tup PySem.W.kitx_list I.kIn ⟨_,h1,rfl⟩ ho e (λz=>nomatch z) fin
end
end Rd
namespace L2
def Ite(l:Addr):It:=
 ⟨λi H=>∃xs x,H l=some (.lst xs)/\xs[i]? = some x,
  λi H v H'=>∃p x,H p=none/\(∀xs,H l=some (.lst xs)->xs[i]? = some x)/\v=.ref p/\H'=upd H p (.tup [.int (i:Nat),x]),
  λi H=>∃xs,H l=some (.lst xs)/\xs.length<=i⟩
theorem QlV{P:QP}{w:JH}{K:PySem.W.Frag}{elts:List Q5}{x1}{tpos:Pos}{e it l:Addr}(hne:e≠it) :
  Turn P w K (.Tuple elts x1 tpos) (Ite l) [e,it] e (λi h=>(∃old,IsEnum h e it (i:Nat) old)/\h.IsListIter it l i) where
 mem:=by simp
 obj:=λi h st b hb=>by
  obtain⟨⟨old,a1⟩,⟨o2,a2,_,d2⟩⟩:=st;simp only[Qz,Jb,or_false] at hb;rcases hb with rfl | rfl
  ·exact⟨_,a1,λv q=>nomatch q⟩
  ·exact⟨_,a2,λv q=>by rw[d2] at q;cases q⟩
 keep:=λi h h' st k=>by
  obtain⟨⟨old,a1⟩,⟨o2,a2,c2⟩⟩:=st;exact⟨⟨old,k e (by simp) _ a1⟩,o2,k it (by simp) _ a2,c2⟩
 item:=by
  intro X hP hw hK hc i pins s σ H E I hf st hg;subst hP hw hK;obtain⟨xs,x,h1,hx⟩:=hg;obtain⟨⟨old,a1⟩,a2⟩:=st;obtain⟨its,r1,p1,_⟩:=I.list (SqL.of h1);obtain⟨u,hu,ru⟩:=r1.get hx;refine wpAny_pyNext_enum_item a1 a2 p1.isList (x:=u) (by simpa using hu) hne λh' o' l' tp sz kp=>?_
  have fr:H s.heap.objs.size=none:=I.hok.fresh (Ql _);have n1:e≠s.heap.objs.size:=QY (Qv a1);have n2:it≠s.heap.objs.size:=by
   obtain⟨o2,a2,_⟩:=a2;exact QY (Qv a2)
  refine⟨_,rfl,Qls o' λh2 e2 s2=>?_⟩;have I1:Inv X pins σ (upd H s.heap.objs.size (.tup [.int (i:Nat),x])) { s with heap:=h2,toks:=s.toks+1 }:=by
   refine I.turnedNew (ch:=[e,it]) hf (λb v hb q=>?_) (Ql _) ⟨by show 2<=sizeLine;decide,[.int (i:Nat) s.toks,u],.cons ⟨_,rfl⟩ (.cons ru .nil),?_⟩
   ·simp only[Qz,Jb,or_false,not_or] at hb;exact s2.extBut _ _ hb.1 (kp b v hb.1 hb.2 q)
   ·exact⟨_,s2.extBut _ _ n1.symm tp,rfl,0,rfl⟩
  refine⟨.ref s.heap.objs.size,_,I1,rfl,⟨_,x,fr,λxs' q=>?_,rfl,rfl⟩,⟨⟨u,e2⟩,?_⟩,λb hb=>?_⟩
  ·rw[h1] at q;cases q;exact hx
  ·exact l'.extBut s2.extBut hne.symm
  ·simp only[Qz,Jb,or_false] at hb;rcases hb with rfl | rfl
   ·rw[J8 n1];exact(hf _ (by simp)).1
   ·rw[J8 n2];exact(hf _ (by simp)).1
 done:=by
  intro X hP hw hK hc i pins s σ H E I hf st hg;subst hP hw hK;obtain⟨xs,h1,he⟩:=hg;obtain⟨⟨old,a1⟩,a2⟩:=st;obtain⟨its,r1,p1,_⟩:=I.list (SqL.of h1);have l1:=r1.length;refine wpAny_pyNext_enum_end (I.ok.hd hc) a1 a2 p1.isList (by simp;omega) λh' kp=>⟨rfl,I.turnedAll (t':=s.toks) (ch:=[e,it]) hf λb v hb q=>?_⟩
  simp only[Qz,Jb,or_false,not_or] at hb;exact kp b v hb.2 q
 self:=λ_ _ _ _ _ st h=>by
  obtain⟨⟨old,a1⟩,_⟩:=st;exact Qcr a1 h
def Qy7(ta:TA):TI:=λσ H R=>ta σ H λvs H1=>∃l xs,vs=[.ref l]/\H1 l=some (.lst xs)/\R (Ite l) H1
theorem Qh9:bootBuiltins "enumerate" = some (.type "enumerate"):=by decide +kernel
section
variable{X:Cx}
theorem Qtq{a:Q5}{elts:List Q5}{x1}{tpos:Pos}{ta:TA}{p pos:Pos}(hg:Gl X "enumerate")(hm:X.mg "enumerate" = none)(ha:PA X [a] ta)(hs:starEach [a] X.env=[(false,eval a X.env)]:=by rfl) :
  PI X (.Tuple elts x1 tpos) (.Call (.Name "enumerate" p) [a] [] pos) (Qy7 ta):=by
 intro pins s σ H R I h;refine Call_ (Qcq I hg hm Qh9 (JJ (thn (ha pos pins s σ H _ I h) λus s1 ⟨vs,H1,I1,r1,q1⟩=>?_) hs rfl));obtain⟨l,xs,e,h1,q⟩:=q1;subst e;obtain⟨u,rfl,ru⟩:=vals1 r1;cases(show u=JT l from ru);obtain⟨its,w1,p1,_⟩:=I1.list (SqL.of h1);refine call_enumerate_list p1.isList λh' e1 i1 sz kp=>?_
 refine Qcr (s:={ s1 with heap:=h' }) e1 ?_
 refine⟨s1.heap.objs.size+1,_,_,_,H1,rfl,I1.kept (t':=s1.toks) kp,QlV (by show ¬(s1.heap.objs.size+1=s1.heap.objs.size);omega),⟨⟨_,e1⟩,i1⟩,λb hb=>?_,q⟩;have hb':s1.heap.objs.size<=b:=by
  simp only[Qz,Jb,or_false] at hb;rcases hb with rfl | rfl<;>omega
 exact I1.fpOk hb' (I1.hok.fresh hb')
end
section
variable{prog:QP}{w:JH}{A:Js}{R:Result->Shared->Prop}{s:Shared}
end
end L2
namespace Rk
open L2 Rd
def pairD(ij:Int×Int):Qb:=.tuple [.int ij.1,.int ij.2]
theorem Qf0(b:Int×Int):Jp (pairD b)=1:=by
 unfold pairD;simp[Jp,Jc]
end Rk
namespace Rr
section
variable{prog:QP}{w:JH}{A:Js}{E:Value->Shared->Prop}{s:Shared}
end
end Rr
namespace L2
def Qvn(ta:TA):TE:=λσ H Q=>ta σ H λvs H1=>∃j,vs=[.int j]/\∀r H2,Same H1 H2->H1 r=none->H2 r=some (.rng 0 j)->Q (.ref r) H2
section
variable{X:Cx}
theorem Qpv{a:Q5}{ta:TA}{p pos:Pos}(hg:Gl X "range")(hm:X.mg "range" = none)(ha:PA X [a] ta)(hs:starEach [a] X.env=[(false,eval a X.env)]:=by rfl):PE X (.Call (.Name "range" p) [a] [] pos) (Qvn ta):=by
 intro pins s σ H Q I h;refine YQ (Qcq I hg hm boot_range ?_);refine JJ (thn (ha pos pins s σ H _ I h) λus s1 ⟨vs,H1,I1,r1,q1⟩=>?_) hs rfl;obtain⟨j,e,q⟩:=q1;subst e;obtain⟨u,rfl,ru⟩:=vals1 r1;obtain⟨t,rfl⟩:=ru;refine call_range_1 ?_
 have hf:H1 s1.heap.objs.size=none:=I1.hok.fresh (Ql _);refine⟨.ref s1.heap.objs.size,upd H1 s1.heap.objs.size (.rng 0 j),I1.laid (t':=s1.toks+1+1) (λb u e=>Qe _ e) (Ql _) ⟨_,_,_,QK _ rfl⟩,rfl,q _ _ (Jy hf) hf JK⟩
end
end L2
namespace Rs
open PySem.W
def sp{α:Type}(n:Nat)(c:Nat->Nat->Bool):KasT α->(α->Prop)->Prop
 |.ret a,Q=>Q a
 |.ask i j f,Q=>i<n/\j<n/\sp n c (f (c i j)) Q
section
variable{n:Nat}{K:Nat->Int}
structure Good (n:Nat) (p:Array Nat):Prop where
 perm:p.toList.Perm (JX n)
theorem Good.size{p:Array Nat}(g:Good n p):p.size=n:=by
 have:=g.perm.length_eq;rw[JN,Qo] at this;exact this
def at_(p:Array Nat)(i:Nat):Nat:=p.getD i 0
theorem Qon{p:Array Nat}{i:Nat}(h:i<p.size):p[i]? = some (at_ p i):=by
 unfold at_;rw[Qgc,QbF h];rfl
theorem Good.lt{p:Array Nat}(g:Good n p)(h0:0<n)(i:Nat):at_ p i<n:=by
 by_cases h:i<p.size
 ·have e:=Qon h;have m:at_ p i∈p.toList:=by
   have:=QkG e;exact QcV.mpr this
  exact Z9.mp (g.perm.mem_iff.mp m)
 ·unfold at_;rw[Qgc,Array.getElem?_eq_none (by omega)];exact h0
theorem Good.inj{p:Array Nat}(g:Good n p){i j:Nat}(hi:i<n)(hj:j<n)(e:at_ p i=at_ p j):i=j:=by
 have nd:p.toList.Nodup:=g.perm.nodup_iff.mpr List.nodup_range;have hs:=g.size;have hi':i<p.toList.length:=by rw[Qo];omega
 have hj':j<p.toList.length:=by rw[Qo];omega
 have ei:p.toList[i]=at_ p i:=by
  have:=Qon (p:=p) (i:=i) (by omega);rw[QbF (by omega)] at this;rw[QlD];exact Qw this
 have ej:p.toList[j]=at_ p j:=by
  have:=Qon (p:=p) (i:=j) (by omega);rw[QbF (by omega)] at this;rw[QlD];exact Qw this
 have pw:=ZI.mp nd;rcases Nat.lt_trichotomy i j with h | h | h
 ·exact absurd (ei.trans (e.trans ej.symm)) (pw i j hi' hj' h)
 ·exact h
 ·exact absurd (ej.trans (e.symm.trans ei.symm)) (pw j i hj' hi' h)
def kk(K:Nat->Int)(p:Array Nat)(i:Nat):Int:=K (at_ p i)
end
end Rs
namespace Rs
open PySem.W PySem.Calls
section
variable{prog:QP}{w:JH}{A:Js}{E:Value->Shared->Prop}{s:Shared}
def Kept(a:Addr)(h h':Zl):Prop:=∀b x,b≠a->h.get? b=some x->h'.get? b=some x
theorem Qgf{h:Zl}{a:Addr}(f:Obj->Obj):Kept a h (h.update a f):=λb x hb e=>(Heap.get?_update_ne _ _ _ _ hb).trans e
theorem QhG{h:Zl}{a:Addr}(o:Obj):Kept a h (h.push o):=λb x _ e=>Qe _ e
theorem Kept.trans{a:Addr}{h h1 h2:Zl}(k:Kept a h h1)(k':Kept a h1 h2):Kept a h h2:=λb x hb e=>k' b x hb (k b x hb e)
end
structure QxA (h:Zl) (v:Value) (ij:Int×Int):Prop where
 it:∃(a:Addr)(o:Obj)(n:Nat)(t u:Tok),v=.ref a/\h.get? a=some o/\o.cls=.type "tuple" /\ o.data=.seq #[.int ij.1 t,.int ij.2 u] n
inductive PairsV (h:Zl):List Value->List (Int×Int)->Prop
 |nil:PairsV h [] []
 |cons {v:Value} {vs:List Value} {ij:Int×Int} {L:List (Int×Int)}:QxA h v ij->PairsV h vs L->PairsV h (v::vs) (ij::L)
theorem PairsV.at_{h:Zl}:∀{vs:List Value}{L:List (Int×Int)},PairsV h vs L->∀i,i<vs.length->QxA h (vs.getD i Zs) (L.getD i (0,0))
 |_,_,.nil,i,hi=>by simp at hi
 |_,_,.cons q r,0,hi=>q
 |_,_,.cons q r,i+1,hi=>by
  have:=r.at_ i (by simpa using hi)
  simpa using this
section
variable{prog:QP}{w:JH}{A:Js}{E:Value->Shared->Prop}{s:Shared}
end
end Rs
namespace L2
open _root_.Rd _root_.Rk _root_.Rs
section
variable{X:Cx}
end
end L2
namespace Re
open AutoSeq1 (wpAny_loadPart')
theorem Qst{prog:QP}{w:JH}{A:Js}{it t:Addr}{items:Array Value}(hh:A.handled=none)(hti:t≠it) :
  Draws prog w A it [it,t] items.size (λi x=>items[i]? = some x) (λi h=>h.IsTupleIter it t i/\h.IsTuple t items) where
 live:=λi h st=>by
  obtain⟨⟨o,ho,_⟩,_⟩:=st;exact⟨o,ho⟩
 frame:=λi h h' st k=>by
  obtain⟨⟨o,ho,c⟩,⟨o2,h2,c2⟩⟩:=st;exact⟨⟨o,k it (by simp) _ ho,c⟩,⟨o2,k t (by simp) _ h2,c2⟩⟩
 item:=λi s Q E hi st hQ=>by
  refine Rz.Qeo st.1 st.2 (x:=items[i]) (by simp[hi]) λh' hit' hs'=>?_
  refine hQ _ h' s.toks (by simp[hi]) ⟨hit',?_⟩ hs';obtain⟨o2,h2,c2⟩:=st.2;exact⟨o2,(hs'.2 t hti).trans h2,c2⟩
 done:=λs Q E st hE=>Rz.QiR hh st.1 st.2 (by simp) hE
theorem Qk6(l:Addr)(items:Array Value)(n:Nat)(dct:Option Addr)(sl:Array (Option Value)) :
  Meets (QcT.«enumerate.__new__» ⟨[.type "enumerate",.ref l],[]⟩) (λ_ R s=>s.heap.get? l=some { cls:=.type "tuple",dict:=dct,data:=.seq items n,slots:=sl } /\
   R (.ok (.ret (.ref (s.heap.push { cls:=.type "tuple_iterator",data:=.fields #[.ref l,.int 0 0] }).objs.size)))
    { s with heap:=(s.heap.push { cls:=.type "tuple_iterator",data:=.fields #[.ref l,.int 0 0] }).push { cls:=.type "enumerate",data:=.fields #[.none,.bool false,.ref s.heap.objs.size,rawInt 0,.none,.none] } }):=
 .of_wp λprog w A R s h=>by
  obtain⟨hp,g,d,tk,os⟩:=s;obtain⟨hl,h⟩:=h;have hsub:=sub_enumerate;have hL:QlB (Qlt ⟨hp,g,d,tk,os⟩) l items:=⟨_,hl,rfl,n,rfl⟩
  wp_walk using QaO hl
  refine wpAny_stack_any λst=>Qk ?_
  split
  ·rename_i c _ _ _ _ _
   cases(c == Yl "enumerate")
   ·wp_walk using QaO hl,YO hL
    exact⟨_,rfl,h⟩
   ·wp_walk using QaO hl,YO hL
    exact⟨_,rfl,h⟩
  ·wp_walk using QaO hl,YO hL
   exact⟨_,rfl,h⟩
theorem Qln{prog:QP}{w:JH}{A:Js}{E:Value->Shared->Prop}{s:Shared}{l:Addr}{items:Array Value}{Q:Value->Shared->Prop}(hL:s.heap.IsTuple l items)
  (h:∀h',IsEnum h' (s.heap.objs.size+1) s.heap.objs.size 0 .none->h'.IsTupleIter s.heap.objs.size l 0->(∀b o,s.heap.get? b=some o->h'.get? b=some o)->Q (.ref (s.heap.objs.size+1)) { s with heap:=h' }) :
  wpAny (model prog w) A (call (.type "enumerate") [.ref l]) Q E s:=by
 obtain⟨⟨c,dct,dt,sl⟩,hl,hc,n,hd⟩:=hL
 replace hc:c=.type "tuple" := hc
 replace hd:dt=.seq items n:=hd
 subst hc hd;refine callType_new F.called_enumerate (by decide) (F.typeCall_enumerate_1 _) (F.newCall_enumerate_1 _) (λobj=>F.args_object_init_2 obj _) F.entry_enumerate_new (Qk6 l items n dct sl) ⟨hl,?_⟩;have hz:(s.heap.push { cls:=.type "tuple_iterator",data:=.fields #[.ref l,.int 0 0] }).objs.size=s.heap.objs.size+1:=Y9 ..;show _/\_;rw[hz];have he:=QK (s.heap.push { cls:=.type "tuple_iterator",data:=.fields #[.ref l,.int 0 0] }) (o:={ cls:=.type "enumerate",data:=.fields #[.none,.bool false,.ref s.heap.objs.size,rawInt 0,.none,.none] }) rfl;rw[hz] at he;exact⟨⟨_,he,rfl⟩,h _ he ⟨_,Qe _ (QK _ rfl),rfl,rfl⟩ λb o x=>Qe _ (Qe _ x)⟩
end Re
namespace L2
def Iet(l:Addr):It:=
 ⟨λi H=>∃xs x,H l=some (.tup xs)/\xs[i]? = some x,
  λi H v H'=>∃p x,H p=none/\(∀xs,H l=some (.tup xs)->xs[i]? = some x)/\v=.ref p/\H'=upd H p (.tup [.int (i:Nat),x]),
  λi H=>∃xs,H l=some (.tup xs)/\xs.length=i⟩
theorem QkK{P:QP}{w:JH}{K:PySem.W.Frag}{elts:List Q5}{x1}{tpos:Pos}{e it l:Addr}(hne:e≠it) :
  Turn P w K (.Tuple elts x1 tpos) (Iet l) [e,it] e (λi h=>(∃old,IsEnum h e it (i:Nat) old)/\h.IsTupleIter it l i) where
 mem:=by simp
 obj:=λi h st b hb=>by
  obtain⟨⟨old,a1⟩,⟨o2,a2,_,d2⟩⟩:=st;simp only[Qz,Jb,or_false] at hb;rcases hb with rfl | rfl
  ·exact⟨_,a1,λv q=>nomatch q⟩
  ·exact⟨_,a2,λv q=>by rw[d2] at q;cases q⟩
 keep:=λi h h' st k=>by
  obtain⟨⟨old,a1⟩,⟨o2,a2,c2⟩⟩:=st;exact⟨⟨old,k e (by simp) _ a1⟩,o2,k it (by simp) _ a2,c2⟩
 item:=by
  intro X hP hw hK hc i pins s σ H E I hf st hg;subst hP hw hK;obtain⟨xs,x,h1,hx⟩:=hg;obtain⟨⟨old,a1⟩,a2⟩:=st;obtain⟨its,r1,p1,_⟩:=I.tuple (SqT.of h1);obtain⟨u,hu,ru⟩:=r1.get hx;have nel:e≠l:=λz=>by have q:=(hf e (by simp)).1;rw[z,h1] at q;cases q
  have nil:l≠it:=λz=>by have q:=(hf it (by simp)).1;rw[<- z,h1] at q;cases q
  have hi:i<its.toArray.size:=by
   have:=(Qx.mp hu).1
   simpa using this
  refine wpAny_pyNext_enum_itemD (Re.Qst (A:=X.A.in1) (t:=l) (I.ok.hd hc) nil) a1 ⟨a2,p1⟩ hi hne (by simp[hne,nel]) λy h' tk hy o' l' tp sz kp=>?_
  have ey:y=u:=by
   have e1:its.toArray[i]? = some u:=by simpa using hu
   rw[e1] at hy;exact(Qw hy).symm
  subst ey;obtain⟨l',tq⟩:=l';have fr:H s.heap.objs.size=none:=I.hok.fresh (Ql _);have n1:e≠s.heap.objs.size:=QY (Qv a1);have n2:it≠s.heap.objs.size:=by
   obtain⟨o2,a2,_⟩:=a2;exact QY (Qv a2)
  refine⟨_,rfl,Qls o' λh2 e2 s2=>?_⟩;have I1:Inv X pins σ (upd H s.heap.objs.size (.tup [.int (i:Nat),x])) { s with heap:=h2,toks:=tk+1 }:=by
   refine I.turnedNew (ch:=[e,it]) hf (λb v hb q=>?_) (Ql _) ⟨by show 2<=sizeLine;decide,[.int (i:Nat) tk,y],.cons ⟨_,rfl⟩ (.cons ru .nil),?_⟩
   ·simp only[Qz,Jb,or_false,not_or] at hb;exact s2.extBut _ _ hb.1 (kp b v hb.1 hb.2 q)
   ·exact⟨_,s2.extBut _ _ n1.symm tp,rfl,0,rfl⟩
  refine⟨.ref s.heap.objs.size,_,I1,rfl,⟨_,x,fr,λxs' q=>?_,rfl,rfl⟩,⟨⟨y,e2⟩,?_⟩,λb hb=>?_⟩
  ·rw[h1] at q;cases q;exact hx
  ·exact l'.extBut s2.extBut hne.symm
  ·simp only[Qz,Jb,or_false] at hb;rcases hb with rfl | rfl
   ·rw[J8 n1];exact(hf _ (by simp)).1
   ·rw[J8 n2];exact(hf _ (by simp)).1
 done:=by
  intro X hP hw hK hc i pins s σ H E I hf st hg;subst hP hw hK;obtain⟨xs,h1,he⟩:=hg;obtain⟨⟨old,a1⟩,a2⟩:=st;obtain⟨its,r1,p1,_⟩:=I.tuple (SqT.of h1);have l1:=r1.length;have nel:e≠l:=λz=>by have q:=(hf e (by simp)).1;rw[z,h1] at q;cases q
  have nil:l≠it:=λz=>by have q:=(hf it (by simp)).1;rw[<- z,h1] at q;cases q
  have e0:its.toArray.size=i:=by rw[Qp];omega
  have D:=Re.Qst (prog:=X.prog) (w:=X.w) (A:=X.A.in1) (t:=l) (items:=its.toArray) (I.ok.hd hc) nil;rw[e0] at D;refine wpAny_pyNext_enum_endD D a1 ⟨a2,p1⟩ λh' kp=>⟨rfl,I.turnedAll (t':=s.toks) (ch:=[e,it]) hf λb v hb q=>?_⟩
  simp only[Qz,Jb,or_false,not_or] at hb;exact kp b v hb.2 q
 self:=λ_ _ _ _ _ st h=>by
  obtain⟨⟨old,a1⟩,_⟩:=st;exact Qcr a1 h
def QwW(ta:TA):TI:=λσ H R=>ta σ H λvs H1=>∃l xs,vs=[.ref l]/\H1 l=some (.tup xs)/\R (Iet l) H1
section
variable{X:Cx}
theorem Qps{a:Q5}{elts:List Q5}{x1}{tpos:Pos}{ta:TA}{p pos:Pos}(hg:Gl X "enumerate")(hm:X.mg "enumerate" = none)(ha:PA X [a] ta)(hs:starEach [a] X.env=[(false,eval a X.env)]:=by rfl) :
  PI X (.Tuple elts x1 tpos) (.Call (.Name "enumerate" p) [a] [] pos) (QwW ta):=by
 intro pins s σ H R I h;refine Call_ (Qcq I hg hm Qh9 (JJ (thn (ha pos pins s σ H _ I h) λus s1 ⟨vs,H1,I1,r1,q1⟩=>?_) hs rfl));obtain⟨l,xs,e,h1,q⟩:=q1;subst e;obtain⟨u,rfl,ru⟩:=vals1 r1;cases(show u=JT l from ru);obtain⟨its,w1,p1,_⟩:=I1.tuple (SqT.of h1);refine Re.Qln p1 λh' e1 i1 kp=>?_
 refine Qcr (s:={ s1 with heap:=h' }) e1 ?_
 refine⟨s1.heap.objs.size+1,_,_,_,H1,rfl,I1.kept (t':=s1.toks) kp,QkK (by show ¬(s1.heap.objs.size+1=s1.heap.objs.size);omega),⟨⟨_,e1⟩,i1⟩,λb hb=>?_,q⟩;have hb':s1.heap.objs.size<=b:=by
  simp only[Qz,Jb,or_false] at hb;rcases hb with rfl | rfl<;>omega
 exact I1.fpOk hb' (I1.hok.fresh hb')
end
end L2
namespace Rk
open L2
end Rk
namespace L2
section
variable{X:Cx}{pins:List (Addr×Obj)}{σ:St}{H:Hp}
theorem Qfl{M:List Str}{scope:Qbk}{fp:List Addr}{σ':St}{H3:Hp}{s3 s':Shared}{D:Addr}{i:Nat}{y:Str}{py:Pos}{Mo:QkB}{A:Js}{E:Value->Shared->Prop}{Q:Value->Shared->Prop}
  (I3:Inv X pins σ H3 s3)(f3:∀b∈fp,FpOk X pins H3 b)(J:Inv (blk X M scope (QcL X.env scope.names []) fp s3 H3 s3.heap.objs.size) [] σ' H s')
  (hN:X.N.Nodup)(hi:X.N[i]? = some y)(hl:X.env.scope.names.lookup y=some .local)(hq:∀s2,Inv X pins (σ.set i (some (.ref D))) H s2->Q .none s2) :
  wpAny Mo A (assign (.Name y py) X.env (.ref D)) (λ_ s2=>∃m,s2.heap.Ns s3.heap.objs.size m/\∀h',QbE s3.heap.objs.size s2.heap h'->Q .none { s2 with heap:=h' }) E s':=by
 have J0:Inv X pins σ H s':=Qol I3 f3 J (Heap.SameBut.refl ..);obtain⟨m,hn,_⟩:=J.loc;have hC:H s3.heap.objs.size=none:=J.free;have lt:X.env.locals<s3.heap.objs.size:=I3.lt;refine Qx0 (Qhu J0 hN hi (QR hl) (show RelV (.ref D) (.ref D) from rfl) (λs2 J2 ⟨a,sb,ha⟩=>?_) (.inr hl));have ea:a=X.env.locals∨X.env.cells.lookup y=some a:=ha;have na:s3.heap.objs.size≠a:=by
  rcases ea with z | z
  ·rw[z];exact QcP lt
  ·obtain⟨v,o,ho,_⟩:=I3.cell y a z;exact QcP (Qv ho)
 refine⟨m,hn.sameBut sb na,λh' hs=>hq _ ?_⟩;refine J2.turned (t':=s2.toks) (it:=s3.heap.objs.size) (λb o hb e=>hs.extBut b o hb e) hC (QcP lt) (.inr I3.sz) (λx c e z=>?_) λp hp z=>?_
 ·obtain⟨v,o,ho,_⟩:=I3.cell x c e;exact absurd (z ▸ Qv ho) (Yk _)
 ·have e:=(I3.pin p hp).1;exact absurd (z ▸ Qv e) (Yk _)
end
theorem Qpp{X:Cx}{M:List Str}{cap:List (Option Nat)}{elt tg iter:Q5}{ifs:List Q5}{scope:Qbk}{pos:Pos}{wi:TI}{g:TG}{tc:TT}{te:TE}{i:Nat}{y:Str}{py spos:Pos}(hN:X.N.Nodup)(hiy:X.N[i]? = some y)(hly:X.env.scope.names.lookup y=some .local)(hc:X.calm=true)(ok:Qje X.N X.env.scope M scope cap=true)
  (hi:PI X tg iter wi)(hb:∀cl ex s3 H3 C,PG (blk X M scope cl ex s3 H3 C) tg g/\PTs (blk X M scope cl ex s3 H3 C) ifs tc/\PE (blk X M scope cl ex s3 H3 C) elt te)
  (hs:∀x,foldedSetIterable iter X.env x=pure x:=by intro _;rfl)(hsw:swapsWith (.ListComp elt [⟨tg,iter,ifs,0⟩] scope pos) (some (.Name y py)) spos.line X.env=pure true:=by rfl):PS X (.Assign [.Name y py] (.ListComp elt [⟨tg,iter,ifs,0⟩] scope pos) spos) (QsV (tComp cap wi g tc te) (Qfm i)):=by
 intro pins s σ H D I h;have c:=CapOk.of ok;rw[exec_Assign_Name_used _ _ _ _ hsw];refine Qa (QoE (Qa ?_));show wpAny _ X.A (do let _ <- comprehension (.ListComp elt [⟨tg,iter,ifs,0⟩] scope pos) scope X.env _ (newList []) false (eval iter X.env) (some (assign (.Name y py) X.env))) _ _ s;refine Qa (J6 (Qov (use:=some (assign (.Name y py) X.env)) (Q:=λ_ s'=>SP X pins D .next s') rfl hs (Qn5 (I.ok.cells c)) c.kind c.loc ?_) (λ_ s' hq=>Qk (Qk hq)) λ_ _ e=>e);refine thn (hi pins s σ H _ I h) λv s1 h1=>thn h1 λitv s2 h2=>?_
 obtain⟨it,fp,tn,J,H2,e,I2,T,st2,f2,hW⟩:=h2;subst e;refine JS (QuM c.cell (by intro y hy;simp at hy) (λh₁ hns₁ hsb₁=>?_) c.kind);have I3:Inv X pins σ (upd H2 s2.heap.objs.size (.lst [])) { s2 with heap:=s2.heap.push { cls:=.type "list",data:=.seq ([]:List Value).toArray } }:=I2.lnew (t':=s2.toks) (ys:=[]) .nil (QC _);have lt2:∀b∈fp,b<s2.heap.objs.size:=λb hb=>by obtain⟨o,e,_⟩:=T.obj _ _ st2 b hb;exact Qv e
 have f3:∀b∈fp,FpOk X pins (upd H2 s2.heap.objs.size (.lst [])) b:=λb hb=>(f2 b hb).upd (QY (lt2 b hb))
 generalize hs3:({ s2 with heap:=s2.heap.push { cls:=.type "list",data:=.seq ([]:List Value).toArray } }:Shared)=s3 at I3;have e3:s3.heap=s2.heap.push { cls:=.type "list",data:=.seq ([]:List Value).toArray }:=by rw[<- hs3]
 have z3:s3.heap.objs.size=s2.heap.objs.size+1:=by rw[e3,Y9]
 have hk:∀b o,s3.heap.get? b=some o->h₁.get? b=some o:=λb o e=>hsb₁.extBut b o (by
  have:=Qv e;rw[e3] at this;exact QY this) (Qe _ (e3 ▸ e))
 have hn₁:h₁.Ns s3.heap.objs.size λ_=>none:=by rw[e3];exact hns₁
 have B:=Qia (t4:=s3.toks+([]:List (Str×Value)).length) (fp:=fp) I3 c f3 (λb hb=>by rw[z3];exact QsI (lt2 b hb)) hn₁ hk;have st4:tn 0 h₁:=T.keep _ _ _ st2 λb hb o e=>hk b o (by rw[e3];exact Qe _ e)
 have fp4:∀b∈fp,FpOk (blk X M scope (QcL X.env scope.names []) fp s3 (upd H2 s2.heap.objs.size (.lst [])) s3.heap.objs.size) [] (upd H2 s2.heap.objs.size (.lst [])) b:=λb hb=>by
  refine⟨(f3 b hb).1,(B.ok.exf b hb).1,B.ok.exfs b hb,.inl hb,(B.ok.exf b hb).2,λp hp=>(nomatch hp)⟩
 obtain⟨hg,ht,he⟩:=hb (QcL X.env scope.names []) fp s3 (upd H2 s2.heap.objs.size (.lst [])) s3.heap.objs.size;have loop:codeAny (model X.prog X.w) X.A (.compLoop (.ListComp elt [⟨tg,iter,ifs,0⟩] scope pos) 0 (.ref it) (.ref s2.heap.objs.size) (compEnvC scope (QcL X.env scope.names []) s3.heap.objs.size X.env))
   (compPost (model X.prog X.w) X.A X.xe (some (assign (.Name y py) X.env)) (λ_ s'=>SP X pins D .next s') (.ref s2.heap.objs.size) s3.heap.objs.size) { s3 with heap:=h₁,toks:=s3.toks+([]:List (Str×Value)).length }:=by
  refine Qh1 (Y:=blk X M scope (QcL X.env scope.names []) fp s3 (upd H2 s2.heap.objs.size (.lst [])) s3.heap.objs.size) (gens:=[⟨tg,iter,ifs,0⟩]) (d:=0) hc T st4 fp4
   (λQ E s h=>Qjs Q E s h) (λx u r=>Qok rfl hg ht (λσ4=>Qkq rfl he) x u r) B (hW _ (I2.hok.fresh (Ql _))) λs' H' I' q=>?_
  exact Qfl (Q:=λ_ s'=>SP X pins D .next s') I3 f3 I' hN hiy hly λs2' J2=>⟨_,H',J2,q⟩
 exact QrQ loop (T.self _ 0 _ _ _ st4 loop)
end L2
namespace Rk
open L2 _root_.Rd
section
variable{X:Cx}
def QAq(X:Cx):R2:=λx y H Q=>∃dx dy,Dat H x dx/\Dat H y dy/\X.A.units+min dx.depth dy.depth<cLine/\Q (.bl (!Q6 dx dy)) H
theorem Qwo:OpR X (compareOp .NotEq) (QAq X):=by
 intro pins s σ H x y v u Q I rx ry h;obtain⟨dx,dy,qx,qy,hu,q⟩:=h;obtain⟨⟨as,ra⟩,ca⟩:=Z8 I.hok dx x v qx rx;obtain⟨⟨bs,rb⟩,cb⟩:=Z8 I.hok dy y u qy ry;exact SeqAt.compareNe_reads ra rb ca cb hu ⟨.bl _,H,I,rfl,q⟩
end
end Rk
namespace Rk
open L2
theorem Qzo:bootBuiltins "ValueError" = some (.type "ValueError"):=by decide +kernel
def Ql4:List Q5->Option (List Str)
 |[]=>some []
 |.Constant (.str x) _ _::es=>(Ql4 es).map (x::·)
 |_::_=>none
theorem QiM{X:Cx}:∀{es:List Q5}{ws:List Str},Ql4 es=some ws->PA X es (λ_ H Q=>Q (ws.map V.str) H)
 |[],ws,h=>by cases h;exact J3
 |e::es,ws,h=>by
  unfold Ql4 at h;split at h
  ·rename_i e2;cases e2
  ·rename_i e2
   cases e2;obtain⟨vs,hv,rfl⟩:=Zx.mp h;exact QiN (Qcy QmL (QiM hv)) λσ H Q q=>q
  ·cases h
def Qum(x:Str):List Q5->Option (List Str)
 |[]=>some []
 |.Call (.Name f _) [.Name y _,.Name n _] [] _::es=>if f = "isinstance" /\ y=x then(Qum x es).map (n::·) else none
 |_::_=>none
def QAk(K:PySem.W.Frag)(cs:List Addr):TA:=λσ H Q=>∃(a C:Addr)(bs:List Bool),σ[0]? = some (some (.ref a))/\H a=some (Rx.exO a C)/\Rx.ExC K C/\YR (λc b=>PySem.W.kitOne K (.ref C) (.ref c)=some b) cs bs/\Q (bs.map V.bl) H
theorem QfJ{X:Cx}{x:Str}(hN:X.N[0]? = some x)(hv:Vis X.env.scope x)(hd:(x == ("__debug__" : Str))=false)(hcd:(x == ("__classdict__" : Str))=false)(hg:Gl X "isinstance")(hm:X.mg "isinstance" = none) :
  ∀{es:List Q5}{ns:List Str}{cs:List Addr},Qum x es=some ns->(ns.all λn=>(X.env.kindOf n == some .globalImplicit) && !(n == ("__debug__" : Str)))=true->YR (λn c=>X.mg n=some (.ref c)) ns cs->PA X es (QAk X.K cs)
 |[],ns,cs,h,_,p=>by
  cases h;cases p;exact QiN J3 λσ H Q ⟨a,C,bs,_,_,_,pb,q⟩=>by cases pb;exact q
 |e::es,ns,cs,h,g,p=>by
  unfold Qum at h;split at h
  ·rename_i e2;cases e2
  ·rename_i f pf y py n pn pc es' e2
   cases e2;split at h
   ·rename_i hc
    obtain⟨rfl,rfl⟩:=hc;obtain⟨ns',hns,rfl⟩:=Zx.mp h;cases p with
    |@cons _ c _ cs' p1 p2=>
    rw[Qjo,Jr,Jr] at g;have g1:Gl X n:=beq_iff_eq.mp g.1.1;have g2:(n == ("__debug__" : Str))=false:=by
     have:=g.1.2;cases q:(n == ("__debug__" : Str)) with
     |false=>rfl
     |true=>rw[q] at this;cases this
    have one:PE X (.Call (.Name "isinstance" pf) [.Name y py,.Name n pn] [] pc) _:=ZB Rx.Qh7 hg hm J4 (Qcy (Qsc hN hv hd hcd) (Qcy (QmM (v:=.ref c) g1 p1 rfl g2) J3 rfl) rfl);refine QiN (Qcy one (QfJ hN hv hd hcd hg hm hns g.2 p2) rfl) λσ H Q ⟨a,C,bs,h0,ha,hc,pb,q⟩=>?_
    cases pb with
    |@cons _ b _ bs' q1 q2=>exact⟨_,h0,a,C,.ref c,.ref c,b,rfl,ha,hc,(λu r=>r),q1,a,C,bs',h0,ha,hc,q2,q⟩
   ·cases h
  ·cases h
def Qhp:List Str:=["text", "order", "lines", "few", "size", "many", "number", "stand", "cell", "square", "hits", "counts", "stairs", "alike", "parting", "place", "double", "deed", "row"]
def QjD(K:PySem.W.Frag)(cs:List Addr):Sp:=λvs H Q _=>∃(a C:Addr)(bs:List Bool)(j:Nat)(wd:Str),vs=[.ref a]/\H a=some (Rx.exO a C)/\Rx.ExC K C/\YR (λc b=>PySem.W.kitOne K (.ref C) (.ref c)=some b) cs bs/\PySem.W.kitOne K (.ref C) (.type "ValueError")=some true /\
 bs.countP id=1/\bs[j]? = some true/\(∀m,m<j->bs[m]? = some false)/\Qhp[j]? = some wd/\∀H',Same H H'->Q (.str wd) H'
theorem JQ{α β:Type}{F:α->β->Prop}{a:α}{l:List α}{bs:List β}(h:YR F (a::l) bs):∃b bs',bs=b::bs'/\F a b/\YR F l bs':=by
 cases h with
 |cons r t=>exact⟨_,_,rfl,r,t⟩
theorem QkW{α β:Type}{F:α->β->Prop}{bs:List β}(h:YR F [] bs):bs=[]:=by
 cases h;rfl
end Rk
namespace Rx
open PySem.Calls L2
section
variable{X:Cx}{E:XK}
theorem QtS(hxe:∀e s1,wpAny (model X.prog X.w) X.A (leaving X.env e) (λ_ s2=>CXE X.prog X.w X.outer X.H₀ X.s₀ E e s2) (λe' s2=>CXE X.prog X.w X.outer X.H₀ X.s₀ E e' s2) s1->X.xe e s1)
  (hstk:X.stack=X.env::X.outer)(hfr:X.env.frame=some X.env.locals)(hex:X.ex=[]):Qc7 (CXE X.prog X.w) X E:=by
 intro pins σ H s e s' I h;obtain⟨C,H',⟨a,t,B,rfl,os,bare,fl,fa,fH,land⟩,q⟩:=h;refine hxe _ _ ?_
 have fl2:=fl;rw[hstk] at fl2;have fr:X.A.frames=some (X.env::X.outer):=by rw[<- hstk];exact I.ok.frames
 refine wpAny_leaves_onW fr hfr fl2 λh' fl' up=>⟨C,H',⟨a,t,B,rfl,os.trans I.os,bare,fl',?_,fH,λh2 st up2=>?_⟩,q⟩
 ·cases z:X.s₀.heap.get? a with
  |none=>rfl
  |some o=>
   obtain⟨o',e'⟩:=I.base.there a o z (by rw[hex];simp);rw[fa] at e';cases e'
 ·obtain⟨un,hok⟩:=land h2 st (up.trans up2);have J:=I.call' (s':={ s' with heap:=h2 }) (ch:=[]) os un hok bare (λb z=>absurd z (by simp));have hb:=J.base;rw[hex] at hb;exact⟨hb,hok⟩
end
def QAa(X:Cx)(f:Addr)(sp:Sp):Prop:=∃k fd ps,FnOk X.prog X.w X.K X.mg X.base (CXE X.prog X.w) k f fd ps sp/\Room k X.A/\PySem.W.keepIn X.K (.ref f)=true/\Binds X.K fd ps []
def QsT(M:Addr->Sp->Prop)(tf:TE)(t:TA):TX:=λσ H Q Ex=>tf σ H λv H0=>∃f sp,v=.ref f/\M f sp/\t σ H0 λvs H1=>sp vs H1 Q λcv _ H2=>∃C,cv=.ref C/\Ex C H2
section
variable{X:Cx}{tf:TE}{fe:Q5}{pos:Pos}{e:Q5}{es:List Q5}{t:TA}{M:Addr->Sp->Prop}
theorem QmJ(hM:∀f sp,M f sp->QAa X f sp)(hf:PE X.nox fe tf)(hex:X.ex=[])
  (ha:PA X.nox (e::es) t)(hfe:eval (.Call fe (e::es) [] pos) X.env=(do callWith pos (<- eval fe X.env) [] (backTo pos (starEach (e::es) X.env)) (backToKw pos (keywordEach [] X.env))):=by rfl)
  (he:starEach (e::es) X.env=(false,eval e X.env)::starEach es X.env:=by rfl)(hpl:(backTo pos (starEach es X.env)).any (·.1)=false:=by rfl) :
  PEX X (.Call fe (e::es) [] pos) (QsT M tf t):=by
 intro pins s σ H Q Ex I h;rw[hfe];refine Qa (J6 (hf pins s σ H _ (I.wish _) h) (λv s0 ⟨x,H0,J0,r0,q0⟩=>?_) λ_ _ z=>Jz z);obtain⟨f,sp,rfl,mf,q0⟩:=q0;obtain⟨k,fd,ps,F,hr,hk,hb⟩:=hM f sp mf;cases(show v=JT f from r0);have I0:Inv X pins σ H0 s0:=J0.unwish;refine PySem.W.callWith_K (h₀:=X.base) I.ok.mod.kin hk (J6 (ha pos pins s0 σ H0 _ (I0.wish _) q0) (λus s1 ⟨vs,H1,J1,r,q⟩=>?_) λ_ _ z=>Jz z) he hpl;have I1:Inv X pins σ H1 s1:=J1.unwish;refine⟨I1.kIn,?_⟩;have hl:us.length=ps.length:=by rw[<- r.length];exact F.len _ _ _ _ q
 have hbb:Qd1 s1 fd ⟨us,[]⟩ (ps.zip us):=by
  have z:=hb s1 us I1.kIn (by rw[Je];exact hl);rw[Je] at z;exact z
 refine Qd9 (Qca (F.run X.A X.stack s1 H1 ⟨us,[]⟩ us vs Q _ hr I1.env0 hbb r q) λr s2 hq=>?_);cases r with
 |error e=>
  obtain⟨C0,H2,⟨a,t',B,rfl,os,bare,fl,fa,fH,land⟩,C,eC,ex⟩:=hq;cases eC;refine⟨σ,C0,H2,a,t',B,rfl,fl,fH,?_,λp hp z=>?_,λh2 tk st up=>?_,rfl,ex⟩
  ·cases z:X.s₀.heap.get? a with
   |none=>rfl
   |some o=>
    obtain⟨o',e'⟩:=I1.base.there a o z (by rw[hex];simp);rw[fa] at e';cases e'
  ·have e':=(I1.pin p hp).1;rw[z,fa] at e';cases e'
  ·obtain⟨un,hok⟩:=land h2 st up;exact I1.call' (s':={ s2 with heap:=h2,toks:=tk }) (ch:=[]) os un hok bare (λb z=>absurd z (by simp))
 |ok fl=>
  cases fl with
  |ret u=>exact I1.after hq
  |next=>exact Jz hq
  |brk=>exact Jz hq
  |cont=>exact Jz hq
end
end Rx
namespace Rk
open L2 _root_.Rd
structure GlbA (mg:Str->Option Value):Prop where
 isinstance:mg "isinstance" = none
 int:mg "int" = none
 bool:mg "bool" = none
 str:mg "str" = none
 tuple:mg "tuple" = none
 list:mg "list" = none
 all:mg "all" = none
 len:mg "len" = none
 zip:mg "zip" = none
 enumerate:mg "enumerate" = none
 range:mg "range" = none
 max:mg "max" = none
 min:mg "min" = none
 sorted:mg "sorted" = none
 sum:mg "sum" = none
 set:mg "set" = none
 any:mg "any" = none
 reversed:mg "reversed" = none
 divmod:mg "divmod" = none
structure KOk (K:PySem.W.Frag) (cs:List Addr) (R C:Addr) (wd:Str):Prop where
 by_:Rx.ByC K C R
 ex:∃(bs:List Bool)(j:Nat),Rx.ExC K C/\YR (λc b=>PySem.W.kitOne K (.ref C) (.ref c)=some b) cs bs/\PySem.W.kitOne K (.ref C) (.type "ValueError")=some true/\bs.countP id=1/\bs[j]? = some true/\(∀m,m<j->bs[m]? = some false)/\Qhp[j]? = some wd
def QyC(u:Nat)(neg:Bool):R2:=λx y H Q=>∃c ps ds d,y=.ref c/\H c=some (.tup ps)/\Dats H ps ds/\Dat H x d/\u+d.depth<cLine/\Q (.bl (if neg then !(ds.any λe=>Q6 e d) else ds.any λe=>Q6 e d)) H
theorem Qwq{X:Cx}:OpR X (compareOp .In) (QyC X.A.in1.units false):=Qwr
end Rk
namespace Rx
open PySem.Calls L2
section
variable{P:QP}{w:JH}{K:PySem.W.Frag}{mg:Str->Option Value}{base:Zl}
theorem okE{x qual:Str}{st:Z6}{f:Addr}{fd:QL}{N ps:List Str}{k:Nat}{sp:Sp}(F:Fun K x qual st f fd)(S:Jx N ps (Qs st))(len:∀vs H Q E,sp vs H Q E->vs.length=ps.length)
  (hbody:∀(cdv:Value)(A:Js)(outer:List Env)(s:Shared)(H:Hp)(vs:List V)(Q:VK)(E:XK),Room k (A.deeper (envOfC qual (Qs st) s.heap.objs.size f cdv))->sp vs H Q E ->
   ∃t,PSs (cxOf (CXE P w) P w K mg base N qual (Qs st) f cdv A outer s H E) (Jv st) t/\t { nx:=λ_ H'=>Q .non H',rt:=Q } (start N vs) H):FnOk P w K mg base (CXE P w) (k+1) f fd ps sp:=by
 obtain⟨oc,od,kV,doc,pm,an,cdv,ct,osl,rfl,lk,hcd⟩:=F.ex;exact QwY lk hcd S len λA outer s H vs Q E hr hsp=>hbody cdv A outer s H vs Q E hr hsp
end
end Rx
namespace Rk
open L2 _root_.Rd
section
variable{X:Cx}{is js:List Nat}
end
theorem handled{K:PySem.W.Frag}{cs:List Addr}{R C:Addr}{wd:Str}(o:KOk K cs R C wd){H1:Hp}{Q:VK}{σ:L2.St}{i:Nat}(hi:i < σ.length)(k:∀H',Same H1 H'->Q (.str wd) H') :
  Rx.ByC K C R/\∀a,H1 a=none->(Qdk (Qhs i) QoU) (σ.set i (some (.ref a))) (upd H1 a (Rx.exO a C)) λvs H2=>QjD K cs vs H2 Q E0:=by
 refine⟨o.by_,λa ha=>?_⟩;obtain⟨bs,j,hx,pb,eV,hc,hj,hm,hw⟩:=o.ex;exact⟨_,QaF hi,a,C,bs,j,wd,rfl,JK,hx,pb,eV,hc,hj,hm,hw,λH2 s2=>k H2 ((Jy ha).trans s2)⟩
end Rk
namespace L2
theorem Y2{h:Zl}{a:Addr}{its:Array Value}(p:PlainL h a its):h.IsList a its:=by
 obtain⟨o,n,h1,h2,_,h3⟩:=p;exact⟨o,h1,h2,n,h3⟩
structure Qig (h:Zl) (z TI TO i1 i2 t1 t2:Addr) (f:Value) (k:Nat):Prop where
 zp:QsK h z TI TO f
 ti:IsPair h TI (.ref i1) (.ref i2)
 to:∃a b,IsPair h TO a b
 i1:h.IsListIter i1 t1 k
 i2:h.IsListIter i2 t2 k
section
variable{prog:QP}{w:JH}{A:Js}{E:Value->Shared->Prop}{s:Shared}
theorem QlO{z TI TO i1 i2 t1 t2:Addr}{k:Nat}{xs ys:Array Value}{x y:Value}{Q:Option Value->Shared->Prop}(D:QxD z TI TO i1 i2 t1 t2)(Z:Qig s.heap z TI TO i1 i2 t1 t2 .none k)
  (hl1:s.heap.IsList t1 xs)(hl2:s.heap.IsList t2 ys)(hx:xs[k]? = some x)(hy:ys[k]? = some y)
  (hQ:∀h',Qig h' z TI TO i1 i2 t1 t2 (rawInt s.heap.objs.size) (k+1)->IsPair h' s.heap.objs.size x y->(∀c o,c≠z->c≠TO->c≠i1->c≠i2->s.heap.get? c=some o->h'.get? c=some o)->Q (some (.ref s.heap.objs.size)) { s with heap:=h' }) :
  wpAny (model prog w) A (pyNext (.ref z)) Q E s:=by
 obtain⟨hz,hTI,⟨a,b,hTO⟩,h1,h2⟩:=Z;exact wpAny_pyNext_zip_item D hz hTI hTO h1 h2 hl1 hl2 hx hy λh' a1 a2 a3 a4 a5 a6 a7=>hQ h' ⟨a1,a7 _ _ D.TIz D.TITO D.TIi1 D.TIi2 hTI,⟨x,y,a2⟩,a3,a4⟩ a5 a7
theorem QoQ{z TI TO i1 i2 t1 t2:Addr}{k:Nat}{xs ys:Array Value}{Q:Option Value->Shared->Prop}(hh:A.handled=none)(D:QxD z TI TO i1 i2 t1 t2)(Z:Qig s.heap z TI TO i1 i2 t1 t2 .none k)
  (hl1:s.heap.IsList t1 xs)(hl2:s.heap.IsList t2 ys)(hend:xs[k]? = none∨ys[k]? = none)
  (hQ:∀h',(∀c o,c≠z->c≠TO->c≠i1->c≠i2->s.heap.get? c=some o->h'.get? c=some o)->Q none { s with heap:=h' }):wpAny (model prog w) A (pyNext (.ref z)) Q E s:=by
 obtain⟨hz,hTI,⟨a,b,hTO⟩,h1,h2⟩:=Z;exact wpAny_pyNext_zip_end hh D hz hTI hTO h1 h2 hl1 hl2 hend hQ
theorem QlP{t1 t2:Addr}{xs ys:Array Value}{Q:Value->Shared->Prop}(hl1:s.heap.IsList t1 xs)(hl2:s.heap.IsList t2 ys)
  (h:∀h',Qig h' (s.heap.objs.size+4) (s.heap.objs.size+2) (s.heap.objs.size+3) s.heap.objs.size (s.heap.objs.size+1) t1 t2 .none 0->(∀c o,s.heap.get? c=some o->h'.get? c=some o)->Q (.ref (s.heap.objs.size+4)) { s with heap:=h' }) :
  wpAny (model prog w) A (call (.type "zip") [.ref t1,.ref t2]) Q E s:=
 call_zip_2 hl1 hl2 λh' a1 a2 a3 a4 a5 a6 a7=>h h' ⟨a1,a2,⟨_,_,a3⟩,a4,a5⟩ a7
end
def QAb(t1 t2:Addr):It:=
 ⟨λi H=>∃xs ys x y,H t1=some (.lst xs)/\H t2=some (.lst ys)/\xs[i]? = some x/\ys[i]? = some y,
  λi H v H'=>∃p x y,H p=none/\(∀xs,H t1=some (.lst xs)->xs[i]? = some x)/\(∀ys,H t2=some (.lst ys)->ys[i]? = some y)/\v=.ref p/\H'=upd H p (.tup [x,y]),
  λi H=>∃xs ys,H t1=some (.lst xs)/\H t2=some (.lst ys)/\(xs.length<=i∨ys.length<=i)⟩
theorem QlS{P:QP}{w:JH}{K:PySem.W.Frag}{elts:List Q5}{x1}{tpos:Pos}{z TI TO i1 i2 t1 t2:Addr}(D:QxD z TI TO i1 i2 t1 t2) :
  Turn P w K (.Tuple elts x1 tpos) (QAb t1 t2) [z,TI,TO,i1,i2] z (λi h=>Qig h z TI TO i1 i2 t1 t2 .none i) where
 mem:=by simp
 obj:=λi h st b hb=>by
  obtain⟨a1,a2,⟨_,_,a3⟩,⟨o4,a4,_,d4⟩,⟨o5,a5,_,d5⟩⟩:=st;simp only[Qz,Jb,or_false] at hb;rcases hb with rfl | rfl | rfl | rfl | rfl
  ·exact⟨_,a1,λv q=>nomatch q⟩
  ·exact⟨_,a2,λv q=>nomatch q⟩
  ·exact⟨_,a3,λv q=>nomatch q⟩
  ·exact⟨_,a4,λv q=>by rw[d4] at q;cases q⟩
  ·exact⟨_,a5,λv q=>by rw[d5] at q;cases q⟩
 keep:=λi h h' st k=>by
  obtain⟨a1,a2,⟨a,b,a3⟩,a4,a5⟩:=st;exact⟨k z (by simp) _ a1,k TI (by simp) _ a2,⟨a,b,k TO (by simp) _ a3⟩,a4.at λo e=>k i1 (by simp) o e,a5.at λo e=>k i2 (by simp) o e⟩
 item:=by
  intro X hP hw hK hc i pins s σ H E I hf st hg;subst hP hw hK;obtain⟨xs,ys,x,y,h1,h2,hx,hy⟩:=hg;obtain⟨its1,r1,p1,_⟩:=I.list (SqL.of h1);obtain⟨its2,r2,p2,_⟩:=I.list (SqL.of h2);obtain⟨u1,hu1,ru1⟩:=r1.get hx;obtain⟨u2,hu2,ru2⟩:=r2.get hy;refine QlO D st (Y2 p1) (Y2 p2) (by simpa using hu1) (by simpa using hu2) λh' st' tp kp=>?_
  have hlt:∀b∈[z,TI,TO,i1,i2],b≠s.heap.objs.size:=λb hb=>by
   obtain⟨a1,a2,⟨_,_,a3⟩,⟨o4,a4,_,d4⟩,⟨o5,a5,_,d5⟩⟩:=st;simp only[Qz,Jb,or_false] at hb;rcases hb with rfl | rfl | rfl | rfl | rfl
   ·exact QY (Qv a1)
   ·exact QY (Qv a2)
   ·exact QY (Qv a3)
   ·exact QY (Qv a4)
   ·exact QY (Qv a5)
  have fr:H s.heap.objs.size=none:=I.hok.fresh (Ql _);refine⟨_,rfl,QlE st'.zp λh2' z2 s2=>?_⟩;have I1:Inv X pins σ (upd H s.heap.objs.size (.tup [x,y])) { s with heap:=h2',toks:=s.toks }:=by
   refine I.turnedNew (ch:=[z,TI,TO,i1,i2]) hf (λb u hb e=>?_) (Ql _) ⟨by show 2<=sizeLine;decide,[u1,u2],.cons ru1 (.cons ru2 .nil),?_⟩
   ·simp only[Qz,Jb,or_false,not_or] at hb;exact s2.extBut _ _ hb.1 (kp b u hb.1 hb.2.2.1 hb.2.2.2.1 hb.2.2.2.2 e)
   ·exact⟨_,s2.extBut _ _ (hlt z (by simp)).symm tp,rfl,0,rfl⟩
  refine⟨.ref s.heap.objs.size,_,I1,rfl,⟨_,x,y,fr,λxs' e=>?_,λys' e=>?_,rfl,rfl⟩,?_,λb hb=>?_⟩
  ·rw[h1] at e;cases e;exact hx
  ·rw[h2] at e;cases e;exact hy
  ·obtain⟨a1,a2,⟨a,b,a3⟩,a4,a5⟩:=st';exact⟨z2,s2.extBut _ _ D.TIz a2,⟨a,b,s2.extBut _ _ D.TOz a3⟩,a4.extBut s2.extBut D.i1z,a5.extBut s2.extBut D.i2z⟩
  ·rw[J8 (hlt b hb)];exact(hf b hb).1
 done:=by
  intro X hP hw hK hc i pins s σ H E I hf st hg;subst hP hw hK;obtain⟨xs,ys,h1,h2,he⟩:=hg;obtain⟨its1,r1,p1,_⟩:=I.list (SqL.of h1);obtain⟨its2,r2,p2,_⟩:=I.list (SqL.of h2);have l1:=r1.length;have l2:=r2.length;refine QoQ (I.ok.hd hc) D st (Y2 p1) (Y2 p2) ?_ λh' kp=>⟨rfl,I.turnedAll (t':=s.toks) (ch:=[z,TI,TO,i1,i2]) hf λb u hb e=>?_⟩
  ·rcases he with q | q
   ·exact .inl (by simp;omega)
   ·exact .inr (by simp;omega)
  ·simp only[Qz,Jb,or_false,not_or] at hb;exact kp b u hb.1 hb.2.2.1 hb.2.2.2.1 hb.2.2.2.2 e
 self:=λ_ _ _ _ _ st h=>Qda st.zp h
section
variable{X:Cx}
theorem Qlp(n t1 t2:Nat)(h1:t1<n)(h2:t2<n):QxD (n+4) (n+2) (n+3) n (n+1) t1 t2 where
 TIz:=by show ¬(n+2=n+4);omega
 TOz:=by show ¬(n+3=n+4);omega
 i1z:=by show ¬(n=n+4);omega
 i2z:=by show ¬(n+1=n+4);omega
 TITO:=by show ¬(n+2=n+3);omega
 TIi1:=by show ¬(n+2=n);omega
 TIi2:=by show ¬(n+2=n+1);omega
 TOi1:=by show ¬(n+3=n);omega
 TOi2:=by show ¬(n+3=n+1);omega
 i12:=by show ¬(n=n+1);omega
 l1z:=by show ¬(t1=n+4);omega
 l1TO:=by show ¬(t1=n+3);omega
 l1i1:=by show ¬(t1=n);omega
 l1i2:=by show ¬(t1=n+1);omega
 l2z:=by show ¬(t2=n+4);omega
 l2TO:=by show ¬(t2=n+3);omega
 l2i1:=by show ¬(t2=n);omega
 l2i2:=by show ¬(t2=n+1);omega
def Qy4(ta:TA):TI:=λσ H R=>ta σ H λvs H1=>∃t1 t2 xs ys,vs=[.ref t1,.ref t2]/\H1 t1=some (.lst xs)/\H1 t2=some (.lst ys)/\R (QAb t1 t2) H1
theorem Qoh:bootBuiltins "zip" = some (.type "zip"):=by decide +kernel
theorem QmH{a b:Q5}{elts:List Q5}{x1}{tpos:Pos}{ta:TA}{p pos:Pos}(hg:Gl X "zip")(hm:X.mg "zip" = none)(ha:PA X [a,b] ta)(hs:starEach [a,b] X.env=[(false,eval a X.env),(false,eval b X.env)]:=by rfl)(hs2:starEach [b] X.env=[(false,eval b X.env)]:=by rfl) :
  PI X (.Tuple elts x1 tpos) (.Call (.Name "zip" p) [a,b] [] pos) (Qy4 ta):=by
 intro pins s σ H R I h;refine Call_ (Qcq I hg hm Qoh (JJ (thn (ha pos pins s σ H _ I h) λus s1 ⟨vs,H1,I1,r1,q1⟩=>?_) (by rw[hs,hs2]) (by rw[hs2];rfl)));obtain⟨t1,t2,xs,ys,e,h1,h2,q⟩:=q1;subst e;obtain⟨u,v,rfl,ru,rv⟩:=vals2 r1;cases(show u=JT t1 from ru);cases(show v=JT t2 from rv);obtain⟨its1,w1,p1,_⟩:=I1.list (SqL.of h1);obtain⟨its2,w2,p2,_⟩:=I1.list (SqL.of h2);have n1:t1<s1.heap.objs.size:=I1.hok.lt h1;have n2:t2<s1.heap.objs.size:=I1.hok.lt h2;refine QlP (Y2 p1) (Y2 p2) λh' st kp=>?_
 refine Qda (s:={ s1 with heap:=h' }) st.zp ?_
 have D:=Qlp s1.heap.objs.size t1 t2 n1 n2;refine⟨s1.heap.objs.size+4,_,_,_,H1,rfl,I1.kept (t':=s1.toks) kp,QlS D,st,λb hb=>?_,q⟩;have hb':s1.heap.objs.size<=b:=by
  simp only[Qz,Jb,or_false] at hb;rcases hb with rfl | rfl | rfl | rfl | rfl<;>omega
 exact I1.fpOk hb' (I1.hok.fresh hb')
end
def QvJ(K:PySem.W.Frag):List V->Hp->VK->Prop:=λxs H Q=>∃p ys,xs=[.ref p]/\(SqL K H p ys∨SqT K H p ys)/\Q (.int ys.length) H
theorem Qsz:bootBuiltins "sum" = some (.builtin "sum"):=by decide +kernel
theorem bt_set:bootBuiltins "set" = some (.type "set"):=by decide +kernel
theorem Qof:bootBuiltins "sorted" = some (.builtin "sorted"):=by decide +kernel
def QvE(K:PySem.W.Frag):List V->Hp->VK->Prop:=λxs H Q=>∃(p:Addr)(ns:List Int),xs=[.ref p]/\SqL K H p (ns.map V.int)/\Q (.int ns.sum) H
def CMulB(i j:Int):Prop:=∃k:Nat,k<=1000000/\i.natAbs<2^k/\j.natAbs<2^k
theorem Qom{i:Int}{k:Nat}(h:i.natAbs<2^k):Zv i<=k:=by
 unfold Zv;split
 ·exact QC _
 ·rename_i z
  have hz:i.natAbs≠0:=by
   intro q;apply z
   have:i=0:=by omega
   subst this;rfl
  have:=(Nat.log2_lt hz).mpr h;omega
theorem CMulB.ok{i j:Int}(h:CMulB i j):IntMulOk i j:=by
 obtain⟨k,hk,h1,h2⟩:=h;have a:=Qom h1;have b:=Qom h2;unfold IntMulOk;have c:Qgb (Zv i+Zv j:Nat)=false:=by
  unfold Qgb;rw[decide_eq_false];have:bitsLine=134217728:=by decide +kernel
  rw[this];omega
 intro z;rw[Jr] at z;have z2:=z.2;have e:((Zv i+Zv j:Nat):Int)=(Zv i:Int)+(Zv j:Int):=by omega
 rw[e] at c;rw[c] at z2;cases z2
section
variable{X:Cx}
theorem QtT:OpR X (binaryOp .Mult) (rI CMulB λi j=>.int (i*j)):=opI λ_ _ _ _ _ _ _ hc q=>mul_int q hc.ok
theorem Qrr:Qz7 X (QxQ X.K):=by
 intro pins s σ H o i ov iv Q I ro ri h;obtain⟨p,xs,k,z,rfl,rfl,hq,he,q⟩:=h;cases ro;obtain⟨t,rfl⟩:=ri;obtain⟨its,r,pl,hz⟩:=I.list hq;obtain⟨j,h1,h2,h3,h4,h5⟩:=Qji he;obtain⟨w,ew,rw'⟩:=r.get h2;have hl:=r.length;have hn:=QfR;have fin:EP X pins σ Q w s:=⟨z,H,I,rw',q⟩;by_cases h0:0<=k
 ·have hj:k.toNat=j:=by
   rw[Qks h0 h5] at h1;exact Qw h1
  exact wpAny_getItem_list pl.isList h0 (by omega) (by rw[hj];simpa using ew) fin
 ·have hj:(k+(its.toArray.size:Int)).toNat=j:=by
   rw[Qii (by omega) h4] at h1;rw[Qp,<- hl];exact Qw h1
  exact QrO pl.isList (by omega) (by rw[Qp]<;>omega) (by omega) (by rw[hj];simpa using ew) fin
theorem Qh4(hc:X.calm=true):CallR X (.builtin "sum") (QvE X.K):=by
 intro pins s σ H xs us Q I r h;obtain⟨p,ns,rfl,hp,q⟩:=h;obtain⟨u,rfl,ru⟩:=vals1 r;cases ru;obtain⟨its,rv,pl,hz⟩:=I.list hp;have hi:IntsAre its ns:=intsAre_of rv;obtain⟨ys,hx⟩:=hi.allInts.items;have hl':s.heap.IsList p (intItems ys):=hx ▸ pl.isList;refine sum_intListG (I.ok.hd hc) hl' λh' tk t' hk=>?_
 have e1:ns=ys.toList.map (·.1):=by
  rw[<- nums_intItems,<- hx];exact(show numsOf its.toArray.toList=ns from hi.numsOf).symm
 have e2:preSum (numAt ys) ys.size=ns.sum:=by
  rw[preSum_eq,Ys (by simp),e1]
 rw[e2];exact⟨.int _,H,I.kept hk,⟨_,rfl⟩,q⟩
def iOr(a b:TI):TI:=λσ H R=>a σ H R∨b σ H R
theorem QyP{tg e:Q5}{a b:TI}(h1:PI X tg e a)(h2:PI X tg e b):PI X tg e (iOr a b):=by
 intro pins s σ H R I h;rcases h with h | h
 ·exact h1 pins s σ H R I h
 ·exact h2 pins s σ H R I h
end
end L2
namespace Rk
open L2 _root_.Rd
def QzB(u:Nat):R2:=λx y H Q=>∃dx dy,Dat H x dx/\Dat H y dy/\u+min dx.depth dy.depth<cLine/\Q (.bl (!Q6 dx dy)) H
theorem Qwn{X:Cx}:OpR X (compareOp .NotEq) (QzB X.A.units):=Qwo
def QzI(u:Nat):R2:=λx y H Q=>∃dx dy,Dat H x dx/\Dat H y dy/\u+min dx.depth dy.depth<cLine/\Q (.bl (Q6 dx dy)) H
theorem Qws{X:Cx}:OpR X (compareOp .Eq) (QzI X.A.units):=Qm0
theorem QmW{X:Cx}:OpR X (compareOp .NotIn) (QyC X.A.in1.units true):=QmX
def QeV:Nat->Qb->Bool
 |_,.none=>true
 |_,.bool _=>true
 |_,.int _=>true
 |_,.str _=>true
 |n+1,.tuple ds=>decide (ds.length<=1000)&&ds.all (QeV n)
 |n+1,.list ds=>decide (ds.length<=1000)&&ds.all (QeV n)
 |_,_=>false
def QiF:Nat->Sp
 |0=>λ_ _ _ _=>False
 |n+1=>λvs H Q _=>∃x y d,vs=[x,y]/\Dat H x d/\Dat H y d/\QeV n d=true/\∀H',Same H H'->Q (.bl true) H'
theorem QvU{X:Cx}{st:Z6}{t:TS}(h:PS X.nox st t):PS X st t:=λpins s σ H D I hw=>
 J6 (h pins s σ H D (I.wish _) hw) (λ_ _ q=>SP.unwish q) λ_ _ x=>x.elim
end Rk
namespace Rx
open PySem.Calls L2
end Rx
namespace Rk
open L2 _root_.Rd
theorem Qul{n k:Nat}(h:k<n):ixN n (k:Nat)=some k:=by
 unfold ixN;rw[if_pos (by omega),if_pos (by omega)];simp
end Rk
namespace HT
section
open PySem.SeqAt
open PySem.AutoSeq1 (wpAny_loadPart')
open PySem.MeetsSeq PySem.MeetsSeq2 PySem.MeetsSeq3
end
section
variable{prog:QP}{w:JH}{A:Js}{E:Value->Shared->Prop}{s:Shared}
end
end HT
namespace L2
def QvF(K:PySem.W.Frag):V->Option Int->Option Int->Hp->VK->Prop:=λx lo hi H Q=>∃a xs,x=.ref a/\SqL K H a xs/\∀p H',Same H H'->H p=none->H' p=some (.lst (Qki xs lo hi))->Q (.ref p) H'
theorem Qo1{X:Cx}:SlR X (QvF X.K):=by
 intro pins s σ H x v vl vu lo hi sl Q I rx hs pl pu h;obtain⟨a,xs,e,hx,q⟩:=h;exact QsY pins s σ H x v vl vu lo hi sl Q I rx hs pl pu ⟨a,xs,e,hx,λp hp=>q p _ (Jy hp) hp JK⟩
theorem cut_last(xs:List V):(Qki xs (some (-1)) none).length<=1:=by
 unfold Qki;rw[Zi,Qad];have h2:xs.length - 1<=HT.sIx xs.length 0 (some (-1)):=by
  show xs.length - 1<=(if(-1:Int)<0 then((-1:Int)+(xs.length:Int)).toNat else min (-1:Int).toNat xs.length);rw[if_pos (by decide)];omega
 omega
end L2
namespace Rk
open L2 _root_.Rd
end Rk
namespace L2
section
variable{X:Cx}
def Qmr(K:PySem.W.Frag):List V->Hp->VK->Prop:=λxs H Q=>∃p ys,xs=[.ref p]/\((SqL K H p ys/\∀l H',Same H H'->H l=none->H' l=some (.tup ys)->Q (.ref l) H')∨(SqT K H p ys/\Q (.ref p) H))
theorem Qfo:CallR X (.type "tuple") (Qmr X.K):=by
 intro pins s σ H xs us Q I r h;obtain⟨p,ys,e,h⟩:=h;refine QgZ pins s σ H xs us Q I r ⟨p,ys,e,?_⟩;rcases h with⟨h1,h2⟩ | h
 ·exact .inl ⟨h1,λl hl=>h2 l _ (Jy hl) hl JK⟩
 ·exact .inr h
def Qmt(K:PySem.W.Frag):List V->Hp->VK->Prop:=λxs H Q=>∃p ys,xs=[.ref p]/\(SqL K H p ys∨SqT K H p ys)/\∀l H',Same H H'->H l=none->H' l=some (.lst ys)->Q (.ref l) H'
theorem Qc5:CallR X (.type "list") (Qmt X.K):=by
 intro pins s σ H xs us Q I r h;obtain⟨p,ys,e,h1,h2⟩:=h;exact Qh6 pins s σ H xs us Q I r ⟨p,ys,e,h1,λl hl=>h2 l _ (Jy hl) hl JK⟩
end
end L2
namespace Rk
open L2 _root_.Rd
end Rk
namespace L2
section
variable{X:Cx}
end
section
variable{X:Cx}
end
end L2
namespace Rk
open L2 _root_.Rd
end Rk
namespace Rx
open PySem.Calls L2
abbrev TSX:=L2.Ends->L2.St->Hp->(Addr->Hp->Prop)->Prop
def PSX(X:Cx)(st:Z6)(t:TSX):Prop:=∀(pins:List (Addr×Obj))(s:Shared)(σ:L2.St)(H:Hp)(D:L2.Ends)(Ex:Addr->Hp->Prop),Inv X pins σ H s->t D σ H Ex ->
 wpAny (model X.prog X.w) X.A (exec st X.env) (SP X pins D) (XP X pins λσ1 C H1=>σ1=σ/\Ex C H1) s
def PSXs(X:Cx)(sts:List Z6)(t:TSX):Prop:=∀(pins:List (Addr×Obj))(s:Shared)(σ:L2.St)(H:Hp)(D:L2.Ends)(Ex:Addr->Hp->Prop),Inv X pins σ H s->t D σ H Ex ->
 wpAny (model X.prog X.w) X.A (execs sts X.env) (SP X pins D) (XP X pins λσ1 C H1=>σ1=σ/\Ex C H1) s
section
variable{X:Cx}{e:Q5}{st:Z6}{pos:Pos}{te:TX}{t u:TSX}{tc:TT}{c:Q5}{a b:List Z6}
theorem QvT(hc:PT X.nox c tc)(ha:PSXs X a t)(hb:PSXs X b u):PSX X (.If c a b pos) (λD σ H Ex=>tc σ H λd H1=>if d=true then t D σ H1 Ex else u D σ H1 Ex):=by
 intro pins s σ H D Ex I h;refine wpAny_If (J6 (hc pins s σ H _ (I.wish _) h) (λd s1 ⟨H1,J1,q1⟩=>?_) λ_ _ z=>Jz z);have I1:Inv X pins σ H1 s1:=J1.unwish;cases d with
 |true=>exact ha pins s1 σ H1 D Ex I1 q1
 |false=>exact hb pins s1 σ H1 D Ex I1 q1
theorem Qpl(h1:PSX X st t):PSXs X [st] t:=by
 intro pins s σ H D Ex I h;refine Qbr (thn (h1 pins s σ H D Ex I h) λf s1 q=>?_);cases f with
 |next=>exact Y6 q
 |ret v=>exact q
 |brk=>exact q
 |cont=>exact q
end
def Qyt(K:PySem.W.Frag)(R:Addr)(i:Nat)(tb:TSX)(th:TE):TS:=λD σ H=>tb D σ H λC H1=>ByC K C R/\∀a,H1 a=none->th (σ.set i (some (.ref a))) (upd H1 a (exO a C)) D.rt
section
variable{X:Cx}{R:Addr}{i:Nat}{n r:Str}{body:List Z6}{hx:Q5}{tb:TSX}{th:TE}{np hp hpos pos:Pos}
theorem Qtk(hstk:X.stack=X.env::X.outer)(hfr:X.env.frame=some X.env.locals)(hc:PSXs X body tb)(hN:X.N.Nodup)(hi:X.N[i]? = some n)(hl:X.env.scope.names.lookup n=some .local)
  (hg:Gl X r)(hm:X.mg r=some (.ref R))(hh:∀e,PE (mkd X e) hx th)(hd:(r == ("__debug__" : Str))=false:=by decide) :
  PS X (.Try body [.ExceptHandler (some (.Name r np)) (some n) [.Return (some hx) hp] hpos] [] [] pos) (Qyt X.K R i tb th):=by
 intro pins s σ H D I h;refine wpAny_Try_except (J6 (hc pins s σ H D _ I h) (λf s1 q=>?_) λe s1 z=>?_)
 ·cases f with
  |next=>exact Y6 q
  |ret v=>exact q
  |brk=>exact q
  |cont=>exact q
 obtain⟨σ1,C,H1,a,t,B,rfl,fl,fH,f0,fp,land,eσ,bc,q⟩:=z;subst eσ;rw[hstk] at fl;have fr:X.A.frames=some (X.env::X.outer):=by rw[<- hstk];exact I.ok.frames
 refine wpAny_looks_onW fr hfr fl λh4 held4 up4=>?_
 refine wpAny_landsW held4 λh5 fl5 up5=>?_
 have I5:L2.Inv X pins σ1 H1 { s1 with heap:=h5 }:=land h5 s1.toks fl5.1 (up4.trans up5);have x5:ExAt a C h5:=by
  obtain⟨oe,vs,e1,e2,e3,_⟩:=fl5.first
  exact⟨oe,vs,e1,e2,e3⟩
 refine wpAny_handleBy_cons (codeAny_handlers_test (Qdz (X:=mkd X (.ref a)) (QnB I5 _) hg hm ?_ hd)) (by intro q;cases q);refine Qk7 (s:={ s1 with heap:=h5 }) I5.kIn x5 bc ?_
 refine codeAny_handlers_suite_as ?_
 refine lands_againW fl5 λh6 fl6 up6=>?_
 have I6:L2.Inv X pins σ1 H1 { s1 with heap:=h6 }:=land h6 s1.toks fl6.1 ((up4.trans up5).trans up6);have x6:ExAt a C h6:=by
  obtain⟨oe,vs,e1,e2,e3,_⟩:=fl6.first
  exact⟨oe,vs,e1,e2,e3⟩
 have I7:=QnA I6 fH f0 fp x6;refine Qeh I7 hN hi (QR hl) (show RelV (.ref a) (.ref a) from rfl) (λs8 I8=>?_) (.inr hl);refine Qbr (Qhd (J6 (hh (.ref a) pins s8 _ _ _ (QnB I8 _) (q a fH)) (λv s9 ⟨x,H9,I9,r9,q9⟩=>?_) λ_ _ z=>z.elim));have J9:L2.Inv X pins _ H9 s9:=Qrk I.ok I9;obtain⟨m,hn,hmm⟩:=id J9.loc;refine wpAny_nameGoes_keeps hl hn (by rw[I.ok.kind];rfl) λh' v' hn' hs'=>?_
 exact⟨x,_,H9,Qrl J9 hN hi hmm hn' hs',r9,q9⟩
end
end Rx
namespace L2
section
variable{X:Cx}
end
end L2
namespace Rk
open L2 _root_.Rd
end Rk
namespace Dl
open L2 _root_.Rd Rk
mutual
inductive DA (A:Addr->Prop) (H:Hp):V->Qb->Prop
 |non:DA A H .non .none
 |bl (b:Bool):DA A H (.bl b) (.bool b)
 |int (i:Int):DA A H (.int i) (.int i)
 |str (x:Str):YV (.str x)=true->DA A H (.str x) (.str x)
 |tup {a:Addr} {xs:List V} {ds:List Qb}:¬A a->H a=some (.tup xs)->DAs A H xs ds->DA A H (.ref a) (.tuple ds)
 |lst {a:Addr} {xs:List V} {ds:List Qb}:¬A a->H a=some (.lst xs)->DAs A H xs ds->DA A H (.ref a) (.list ds)
 |dct {a:Addr}:¬A a->H a=some (.dK [])->DA A H (.ref a) (.dict [])
inductive DAs (A:Addr->Prop) (H:Hp):List V->List Qb->Prop
 |nil:DAs A H [] []
 |cons {x:V} {xs:List V} {d:Qb} {ds:List Qb}:DA A H x d->DAs A H xs ds->DAs A H (x::xs) (d::ds)
end
mutual
theorem Qxd{A A':Addr->Prop}{H H':Hp}(k:∀a o,¬A a->H a=some o->H' a=some o)(m:∀a,A' a->A a∨H a=none):∀(d:Qb)(x:V),DA A H x d->DA A' H' x d
 |.none,_,.non=>.non
 |.bool _,_,.bl _=>.bl _
 |.int _,_,.int _=>.int _
 |.str _,_,.str _ c=>.str _ c
 |.tuple ds,_,.tup (xs:=xs) n e q=>.tup (λz=>(m _ z).elim n λz=>by rw[z] at e;cases e) (k _ _ n e) (Qkg k m ds xs q)
 |.list ds,_,.lst (xs:=xs) n e q=>.lst (λz=>(m _ z).elim n λz=>by rw[z] at e;cases e) (k _ _ n e) (Qkg k m ds xs q)
 |.dict _,_,.dct n e=>.dct (λz=>(m _ z).elim n λz=>by rw[z] at e;cases e) (k _ _ n e)
theorem Qkg{A A':Addr->Prop}{H H':Hp}(k:∀a o,¬A a->H a=some o->H' a=some o)(m:∀a,A' a->A a∨H a=none):∀(ds:List Qb)(xs:List V),DAs A H xs ds->DAs A' H' xs ds
 |[],_,.nil=>.nil
 |d::ds,_,.cons (x:=x) (xs:=xs) q qs=>.cons (Qxd k m d x q) (Qkg k m ds xs qs)
end
theorem DA.mv{A A':Addr->Prop}{H H':Hp}{x:V}{d:Qb}(q:DA A H x d)(k:∀a o,¬A a->H a=some o->H' a=some o)(m:∀a,A' a->A a∨H a=none):DA A' H' x d:=Qxd k m d x q
theorem DAs.mv{A A':Addr->Prop}{H H':Hp}{x:List V}{d:List Qb}(q:DAs A H x d)(k:∀a o,¬A a->H a=some o->H' a=some o)(m:∀a,A' a->A a∨H a=none):DAs A' H' x d:=Qkg k m d x q
theorem DA.same{A:Addr->Prop}{H H':Hp}{x:V}{d:Qb}(q:DA A H x d)(s:Same H H'):DA A H' x d:=q.mv (λa o _ e=>s a o e) λa z=>.inl z
theorem DAs.same{A:Addr->Prop}{H H':Hp}{x:List V}{d:List Qb}(q:DAs A H x d)(s:Same H H'):DAs A H' x d:=q.mv (λa o _ e=>s a o e) λa z=>.inl z
theorem DAs.length{A:Addr->Prop}{H:Hp}:∀{xs:List V}{ds:List Qb},DAs A H xs ds->xs.length=ds.length
 |_,_,.nil=>rfl
 |_,_,.cons _ q=>by rw[QU,QU,q.length]
theorem DAs.get{A:Addr->Prop}{H:Hp}:∀{xs:List V}{ds:List Qb},DAs A H xs ds->∀(i:Nat)(d:Qb),ds[i]? = some d->∃x,xs[i]? = some x/\DA A H x d
 |_,_,.nil,i,x,e=>by simp at e
 |_,_,.cons q qs,0,x,e=>by simp at e;subst e;exact⟨_,rfl,q⟩
 |_,_,.cons q qs,i+1,x,e=>qs.get i x (by simpa using e)
theorem DAs.getV{A:Addr->Prop}{H:Hp}:∀{xs:List V}{ds:List Qb},DAs A H xs ds->∀(i:Nat)(x:V),xs[i]? = some x->∃d,ds[i]? = some d/\DA A H x d
 |_,_,.nil,i,x,e=>by simp at e
 |_,_,.cons q qs,0,x,e=>by simp at e;subst e;exact⟨_,rfl,q⟩
 |_,_,.cons q qs,i+1,x,e=>qs.getV i x (by simpa using e)
theorem DAs.app{A:Addr->Prop}{H:Hp}:∀{xs ys:List V}{ds es:List Qb},DAs A H xs ds->DAs A H ys es->DAs A H (xs++ys) (ds++es)
 |_,_,_,_,.nil,q=>q
 |_,_,_,_,.cons a b,q=>.cons a (b.app q)
theorem DAs.take{A:Addr->Prop}{H:Hp}:∀{xs:List V}{ds:List Qb},DAs A H xs ds->∀n:Nat,DAs A H (xs.take n) (ds.take n)
 |_,_,.nil,n=>by rw[QxH,QxH];exact .nil
 |_,_,.cons a b,0=>.nil
 |_,_,.cons a b,n+1=>.cons a (b.take n)
theorem DAs.drop{A:Addr->Prop}{H:Hp}:∀{xs:List V}{ds:List Qb},DAs A H xs ds->∀n:Nat,DAs A H (xs.drop n) (ds.drop n)
 |_,_,.nil,n=>by rw[QxJ,QxJ];exact .nil
 |_,_,.cons a b,0=>.cons a b
 |_,_,.cons a b,n+1=>b.drop n
theorem DAs.set{A:Addr->Prop}{H:Hp}{x:V}{d:Qb}(q:DA A H x d):∀{xs:List V}{ds:List Qb},DAs A H xs ds->∀n:Nat,DAs A H (xs.set n x) (ds.set n d)
 |_,_,.nil,n=>.nil
 |_,_,.cons a b,0=>.cons q b
 |_,_,.cons a b,n+1=>.cons a (b.set q n)
theorem DAs.rev{A:Addr->Prop}{H:Hp}:∀{xs:List V}{ds:List Qb},DAs A H xs ds->DAs A H xs.reverse ds.reverse
 |_,_,.nil=>.nil
 |_,_,.cons a b=>by rw[QbT,QbT];exact b.rev.app (.cons a .nil)
mutual
def nd:Qb->Bool
 |.dict _=>false
 |.tuple ds=>nds ds
 |.list ds=>nds ds
 |_=>true
def nds:List Qb->Bool
 |[]=>true
 |d::ds=>nd d&&nds ds
end
mutual
theorem Qh0{A:Addr->Prop}{H:Hp}:∀(d:Qb)(x:V),nd d=true->DA A H x d->Dat H x d
 |.none,_,_,.non=>.non
 |.bool _,_,_,.bl _=>.bl _
 |.int _,_,_,.int _=>.int _
 |.str _,_,_,.str _ c=>.str _ c
 |.tuple ds,_,n,.tup (xs:=xs) _ e q=>.tup e (Qbh ds xs n q)
 |.list ds,_,n,.lst (xs:=xs) _ e q=>.lst e (Qbh ds xs n q)
theorem Qbh{A:Addr->Prop}{H:Hp}:∀(ds:List Qb)(xs:List V),nds ds=true->DAs A H xs ds->Dats H xs ds
 |[],_,_,.nil=>.nil
 |d::ds,_,n,.cons (x:=x) (xs:=xs) q qs=>by
  have n':=Qu.mp (show(nd d&&nds ds)=true from n);exact .cons (Qh0 d x n'.1 q) (Qbh ds xs n'.2 qs)
end
theorem QiS{ds:List Qb}:nds ds=true↔∀d∈ds,nd d=true:=by
 induction ds with
 |nil=>exact⟨(λ_ _ h=>nomatch h),λ_=>rfl⟩
 |cons d ds ih=>
  rw[show nds (d::ds)=(nd d&&nds ds) from rfl,Qu,ih];constructor
  ·rintro⟨a,b⟩ e he;rcases Qz.mp he with z | z
   ·rw[z];exact a
   ·exact b e z
  ·intro h;exact⟨h d (by simp),λe he=>h e (by simp[he])⟩
def DP(A P:Addr->Prop)(H:Hp)(v:V)(d:Qb):Prop:=DA A H v d∨∃l xs ds,v=.ref l/\d=.list ds/\¬P l/\H l=some (.lst xs)/\DAs A H xs ds
theorem DP.dat{A P:Addr->Prop}{H:Hp}{v:V}{d:Qb}(h:DP A P H v d)(n:nd d=true):Dat H v d:=by
 rcases h with h | ⟨l,xs,ds,rfl,rfl,_,e,q⟩
 ·exact Qh0 d v n h
 ·exact .lst e (Qbh ds xs n q)
theorem DP.list{A P:Addr->Prop}{H:Hp}{v:V}{ds:List Qb}(h:DP A P H v (.list ds)):∃l xs,v=.ref l/\H l=some (.lst xs)/\DAs A H xs ds:=by
 rcases h with h | ⟨l,xs,ds',rfl,e,_,h2,q⟩
 ·cases h with | lst n e q=>exact⟨_,_,rfl,e,q⟩
 ·cases e;exact⟨l,xs,rfl,h2,q⟩
theorem DP.tuple{A P:Addr->Prop}{H:Hp}{v:V}{ds:List Qb}(h:DP A P H v (.tuple ds)):∃l xs,v=.ref l/\H l=some (.tup xs)/\DAs A H xs ds:=by
 rcases h with h | ⟨l,xs,ds',rfl,e,_⟩
 ·cases h with | tup n e q=>exact⟨_,_,rfl,e,q⟩
 ·cases e
theorem DP.int{A P:Addr->Prop}{H:Hp}{v:V}{i:Int}(h:DP A P H v (.int i)):v=.int i:=by
 rcases h with h | ⟨l,xs,ds',rfl,e,_⟩
 ·cases h;rfl
 ·cases e
theorem DP.bool{A P:Addr->Prop}{H:Hp}{v:V}{i:Bool}(h:DP A P H v (.bool i)):v=.bl i:=by
 rcases h with h | ⟨l,xs,ds',rfl,e,_⟩
 ·cases h;rfl
 ·cases e
theorem DP.none{A P:Addr->Prop}{H:Hp}{v:V}(h:DP A P H v .none):v=.non:=by
 rcases h with h | ⟨l,xs,ds',rfl,e,_⟩
 ·cases h;rfl
 ·cases e
theorem DP.str{A P:Addr->Prop}{H:Hp}{v:V}{x:Str}(h:DP A P H v (.str x)):v=.str x/\YV (.str x)=true:=by
 rcases h with h | ⟨l,xs,ds',rfl,e,_⟩
 ·cases h with | str _ c=>exact⟨rfl,c⟩
 ·cases e
inductive Sl where
 |no | pot | scr
 |v (d:Qb)
 |own (ds:List Qb)
 |pk (ds:List Qb)
abbrev Sts:=List Sl
structure Fm where
 H0:Hp
 A0:Addr->Prop
 pt:Addr->Prop
def Qz8(σ:L2.St)(δ:Sts)(i:Nat)(a:Addr):Prop:=σ[i]? = some (some (.ref a))/\(δ[i]? = some .pot∨∃ds,δ[i]? = some (.own ds))
def Av(F:Fm)(σ:L2.St)(δ:Sts)(a:Addr):Prop:=F.A0 a∨∃i,Qz8 σ δ i a
def Qai(σ:L2.St)(δ:Sts)(a:Addr):Prop:=∃i:Nat,σ[i]? = some (some (.ref a))/\δ[i]? = some .pot
def Qz6(K:PySem.W.Frag)(F:Fm)(H:Hp)(A:Addr->Prop)(o:Option V):Sl->Prop
 |.no=>True
 |.v d=>∃v,o=some v/\DA A H v d
 |.own ds=>∃l xs,o=some (.ref l)/\H l=some (.lst xs)/\DAs A H xs ds/\F.H0 l=none
 |.pk ds=>∃l xs,o=some (.ref l)/\H l=some (.lst xs)/\DAs A H xs ds/\∃ys,F.H0 l=some (.lst ys)/\¬F.pt l
 |.pot=>∃p n,o=some (.ref p)/\H p=some (.lst [.int n])/\(F.pt p∨F.H0 p=none)
 |.scr=>∃a ns,o=some (.ref a)/\SqL K F.H0 a ((ns:List Int).map V.int)/\¬F.pt a/\ns.length<=63
structure Rel (K:PySem.W.Frag) (F:Fm) (σ:L2.St) (H:Hp) (δ:Sts):Prop where
 len:σ.length=δ.length
 dom:∀a,F.A0 a->∃xs,H a=some (.lst xs)
 dom0:∀a,F.A0 a->∃xs,F.H0 a=some (.lst xs)
 pt0:∀p,F.pt p->F.A0 p/\∃n,H p=some (.lst [.int n])
 kx:∀b o,¬F.pt b->F.H0 b=some o->H b=some o
 sl:∀(i:Nat) o x,σ[i]? = some o->δ[i]? = some x->Qz6 K F H (Av F σ δ) o x
 inj:∀(i j:Nat) a ds,δ[i]? = some (.own ds)->σ[i]? = some (some (.ref a))->Qz8 σ δ j a->i=j
def Kp(σ:L2.St)(δ:Sts)(H H':Hp):Prop:=(∀b o,¬Qai σ δ b->H b=some o->H' b=some o)/\∀b,Qai σ δ b->∃n,H' b=some (.lst [.int n])
def Stp(F:Fm)(σ:L2.St)(H:Hp)(δ:Sts)(σ':L2.St)(H':Hp)(δ':Sts):Prop:=(∀b o,¬Av F σ δ b->H b=some o->H' b=some o)/\∀b,Av F σ' δ' b->Av F σ δ b∨H b=none
def Ke(F:Fm)(H':Hp):Prop:=(∀b o,¬F.pt b->F.H0 b=some o->H' b=some o)/\∀p,F.pt p->∃n,H' p=some (.lst [.int n])
theorem Qaz{F:Fm}{σ:L2.St}{δ:Sts}{a:Addr}(h:Qai σ δ a):Av F σ δ a:=let ⟨i,h1,h2⟩:=h;.inr ⟨i,h1,.inl h2⟩
theorem Rel.ke{K:PySem.W.Frag}{F:Fm}{σ:L2.St}{H:Hp}{δ:Sts}(r:Rel K F σ H δ):Ke F H:=⟨r.kx,λp hp=>(r.pt0 p hp).2⟩
theorem Rel.isl{K:PySem.W.Frag}{F:Fm}{σ:L2.St}{H:Hp}{δ:Sts}(r:Rel K F σ H δ){a:Addr}(h:Av F σ δ a):∃xs,H a=some (.lst xs):=by
 rcases h with h | ⟨i,h1,h2⟩
 ·exact r.dom a h
 ·rcases h2 with h2 | ⟨ds,h2⟩
  ·obtain⟨p,n,e,h,_⟩:=r.sl i _ _ h1 h2;cases e;exact⟨_,h⟩
  ·obtain⟨l,xs,e,h,_⟩:=r.sl i _ _ h1 h2;cases e;exact⟨_,h⟩
theorem Kp.refl{K:PySem.W.Frag}{F:Fm}{σ:L2.St}{H:Hp}{δ:Sts}(r:Rel K F σ H δ):Kp σ δ H H:=⟨λ_ _ _ e=>e,λb ⟨i,h1,h2⟩=>by
 obtain⟨p,n,e,h,_⟩:=r.sl i _ _ h1 h2;cases e;exact⟨n,h⟩⟩
theorem Kp.trans{σ:L2.St}{δ:Sts}{H H1 H2:Hp}(a:Kp σ δ H H1)(b:Kp σ δ H1 H2):Kp σ δ H H2:=⟨λc o n e=>b.1 c o n (a.1 c o n e),b.2⟩
theorem Kp.same{K:PySem.W.Frag}{F:Fm}{σ:L2.St}{H H':Hp}{δ:Sts}(r:Rel K F σ H δ)(s:Same H H'):Kp σ δ H H':=⟨λb o _ e=>s b o e,λb hb=>let ⟨n,h⟩:=(Kp.refl r).2 b hb;⟨n,s _ _ h⟩⟩
theorem Kp.da{F:Fm}{σ:L2.St}{H H':Hp}{δ:Sts}{v:V}{d:Qb}(k:Kp σ δ H H')(h:DA (Av F σ δ) H v d):DA (Av F σ δ) H' v d:=h.mv (λa o n e=>k.1 a o (λz=>n (Qaz z)) e) λa z=>.inl z
theorem Kp.das{F:Fm}{σ:L2.St}{H H':Hp}{δ:Sts}{v:List V}{d:List Qb}(k:Kp σ δ H H')(h:DAs (Av F σ δ) H v d):DAs (Av F σ δ) H' v d:=h.mv (λa o n e=>k.1 a o (λz=>n (Qaz z)) e) λa z=>.inl z
theorem Kp.dp{F:Fm}{σ:L2.St}{H H':Hp}{δ:Sts}{v:V}{d:Qb}(k:Kp σ δ H H')(h:DP (Av F σ δ) (Qai σ δ) H v d):DP (Av F σ δ) (Qai σ δ) H' v d:=by
 rcases h with h | ⟨l,xs,ds,e1,e2,n,e,q⟩
 ·exact .inl (k.da h)
 ·exact .inr ⟨l,xs,ds,e1,e2,n,k.1 _ _ n e,k.das q⟩
theorem Rel.own_pot{K:PySem.W.Frag}{F:Fm}{σ:L2.St}{H:Hp}{δ:Sts}(r:Rel K F σ H δ){i:Nat}{ds:List Qb}{l:Addr}(h:δ[i]? = some (.own ds))(e:σ[i]? = some (some (.ref l))):¬Qai σ δ l:=by
 rintro⟨j,h1,h2⟩;have:=r.inj i j l _ h e ⟨h1,.inl h2⟩;subst this;rw[h] at h2;cases h2
theorem Rel.pt_pot{K:PySem.W.Frag}{F:Fm}{σ:L2.St}{H H':Hp}{δ:Sts}(r:Rel K F σ H δ)(k:Kp σ δ H H'){p:Addr}(hp:F.pt p):∃n,H' p=some (.lst [.int n]):=by
 by_cases z:Qai σ δ p
 ·exact k.2 p z
 ·obtain⟨n,e⟩:=(r.pt0 p hp).2;exact⟨n,k.1 _ _ z e⟩
theorem Rel.kp{K:PySem.W.Frag}{F:Fm}{σ:L2.St}{H H':Hp}{δ:Sts}(r:Rel K F σ H δ)(k:Kp σ δ H H'):Rel K F σ H' δ where
 len:=r.len
 dom:=λa ha=>by
  by_cases z:Qai σ δ a
  ·exact⟨_,(k.2 a z).choose_spec⟩
  ·obtain⟨xs,e⟩:=r.dom a ha;exact⟨xs,k.1 _ _ z e⟩
 dom0:=r.dom0
 pt0:=λp hp=>⟨(r.pt0 p hp).1,r.pt_pot k hp⟩
 kx:=λb o n e=>by
  by_cases z:Qai σ δ b
  ·obtain⟨i,h1,h2⟩:=z;obtain⟨p,m,e1,h,q⟩:=r.sl i _ _ h1 h2;cases e1;rcases q with q | q
   ·exact absurd q n
   ·rw[q] at e;cases e
  ·exact k.1 _ _ z (r.kx b o n e)
 sl:=λi o x h1 h2=>by
  have h:=r.sl i o x h1 h2;cases x with
  |no=>trivial
  |v d=>obtain⟨v,e,q⟩:=h;exact⟨v,e,k.da q⟩
  |own ds=>obtain⟨l,xs,rfl,e,q,f⟩:=h;exact⟨l,xs,rfl,k.1 _ _ (r.own_pot h2 h1) e,k.das q,f⟩
  |pk ds=>
   obtain⟨l,xs,rfl,e,q,ys,f,f2⟩:=h;refine⟨l,xs,rfl,k.1 _ _ ?_ e,k.das q,ys,f,f2⟩;rintro⟨j,j1,j2⟩;obtain⟨p,m,e1,_,w⟩:=r.sl j _ _ j1 j2;cases e1;rcases w with w | w
   ·exact f2 w
   ·rw[w] at f;cases f
  |pot=>
   obtain⟨p,n,rfl,e,q⟩:=h;obtain⟨m,e'⟩:=k.2 p ⟨i,h1,h2⟩;exact⟨p,m,rfl,e',q⟩
  |scr=>exact h
 inj:=r.inj
theorem Rel.same{K:PySem.W.Frag}{F:Fm}{σ:L2.St}{H H':Hp}{δ:Sts}(r:Rel K F σ H δ)(s:Same H H'):Rel K F σ H' δ:=r.kp (Kp.same r s)
theorem Stp.refl{F:Fm}{σ:L2.St}{H:Hp}{δ:Sts}:Stp F σ H δ σ H δ:=⟨λ_ _ _ e=>e,λ_ z=>.inl z⟩
theorem Stp.trans{F:Fm}{σ σ1 σ2:L2.St}{H H1 H2:Hp}{δ δ1 δ2:Sts}(a:Stp F σ H δ σ1 H1 δ1)(b:Stp F σ1 H1 δ1 σ2 H2 δ2):Stp F σ H δ σ2 H2 δ2:=by
 refine⟨λc o n e=>?_,λc z=>?_⟩
 ·refine b.1 c o (λz=>?_) (a.1 c o n e);rcases a.2 c z with q | q
  ·exact n q
  ·rw[q] at e;cases e
 ·rcases b.2 c z with q | q
  ·exact a.2 c q
  ·by_cases y:Av F σ δ c
   ·exact .inl y
   ·right
    cases e:H c with
    |none=>rfl
    |some o=>rw[a.1 c o y e] at q;cases q
theorem Stp.kp{F:Fm}{σ:L2.St}{H H':Hp}{δ:Sts}(k:Kp σ δ H H'):Stp F σ H δ σ H' δ:=⟨λb o n e=>k.1 b o (λz=>n (Qaz z)) e,λ_ z=>.inl z⟩
theorem Stp.da{F:Fm}{σ σ':L2.St}{H H':Hp}{δ δ':Sts}{v:V}{d:Qb}(k:Stp F σ H δ σ' H' δ')(h:DA (Av F σ δ) H v d):DA (Av F σ' δ') H' v d:=h.mv k.1 k.2
abbrev XP:=Addr->Prop
abbrev DE:=Sts->(Qb->Prop)->XP->Prop
abbrev DT:=Sts->(Bool->Prop)->XP->Prop
abbrev DAr:=Sts->(List Qb->Prop)->XP->Prop
abbrev DSl:=Sts->(List Sl->Prop)->XP->Prop
inductive Md where | D | P | F
def FrV(H H':Hp)(v:V):Prop:=∀l,v=.ref l->(∃xs,H' l=some (.lst xs))->H l=none
def Vok(m:Md)(F:Fm)(σ:L2.St)(δ:Sts)(H H':Hp)(v:V)(d:Qb):Prop:=
 match m with
 |.D=>DA (Av F σ δ) H' v d
 |.P=>DP (Av F σ δ) (Qai σ δ) H' v d
 |.F=>DA (Av F σ δ) H' v d/\FrV H H' v
def Out(F:Fm)(E:XK)(EX:XP):Prop:=∀C,EX C->∀H',Ke F H'->E (.ref C) none H'
def tX(m:Md)(K:PySem.W.Frag)(E:XK)(w:DE):TE:=λσ H Q=>∃(F:Fm)(δ:Sts)(R:Qb->Prop)(EX:XP),Rel K F σ H δ/\w δ R EX/\(∀d,R d->∀v H',Rel K F σ H' δ->Kp σ δ H H'->Vok m F σ δ H H' v d->Q v H')/\Out F E EX
def tT(K:PySem.W.Frag)(E:XK)(w:DT):TT:=λσ H Q=>∃(F:Fm)(δ:Sts)(R:Bool->Prop)(EX:XP),Rel K F σ H δ/\w δ R EX/\(∀b,R b->∀H',Rel K F σ H' δ->Kp σ δ H H'->Q b H')/\Out F E EX
def VD(m:Md)(A P:Addr->Prop)(H:Hp)(v:V)(d:Qb):Prop:=
 match m with
 |.P=>DP A P H v d
 |_=>DA A H v d
def tAr(n:Nat)(m:Md)(K:PySem.W.Frag)(E:XK)(w:DAr):TA:=λσ H Q=>∃(F:Fm)(δ:Sts)(R:List Qb->Prop)(EX:XP),Rel K F σ H δ/\w δ R EX/\(∀ds,R ds->ds.length=n->∀vs H',Rel K F σ H' δ->Kp σ δ H H'->YR (VD m (Av F σ δ) (Qai σ δ) H') vs ds->Q vs H')/\Out F E EX
def Qjk(A pt:Addr->Prop)(H:Hp)(v:V):Sl->Prop
 |.v d=>DA A H v d
 |.pot=>∃p,v=.ref p/\pt p
 |_=>False
def tAs(K:PySem.W.Frag)(E:XK)(w:DSl):TA:=λσ H Q=>∃(F:Fm)(δ:Sts)(R:List Sl->Prop)(EX:XP),Rel K F σ H δ/\w δ R EX/\(∀ds,R ds->∀vs H',Rel K F σ H' δ->Kp σ δ H H'->YR (Qjk (Av F σ δ) (Qai σ δ) H') vs ds->Q vs H')/\Out F E EX
theorem Kp.vd{m:Md}{F:Fm}{σ:L2.St}{H H':Hp}{δ:Sts}{v:V}{d:Qb}(k:Kp σ δ H H')(h:VD m (Av F σ δ) (Qai σ δ) H v d):VD m (Av F σ δ) (Qai σ δ) H' v d:=by
 cases m
 ·exact k.da h
 ·exact k.dp h
 ·exact k.da h
theorem Kp.arg{F:Fm}{σ:L2.St}{H H':Hp}{δ:Sts}{v:V}{d:Sl}(k:Kp σ δ H H')(h:Qjk (Av F σ δ) (Qai σ δ) H v d):Qjk (Av F σ δ) (Qai σ δ) H' v d:=by
 cases d with
 |v d=>exact k.da h
 |pot=>exact h
 |_=>exact h.elim
def QcD(H:Hp):Prop:=∀a xs,H a=some (.lst xs)∨H a=some (.tup xs)->xs.length<=sizeLine
section
variable{X:Cx}{E:XK}
theorem Inv.lens{pins:List (Addr×Obj)}{σ:L2.St}{H:Hp}{s:Shared}(I:Inv X pins σ H s):QcD H:=λa xs h=>by
 rcases h with h | h
 ·exact(I.hok a _ h).1
 ·exact(I.hok a _ h).1
theorem PE.imp{e:Q5}{t t':TE}(h:PE X e t)(i:∀σ H Q,t' σ H Q->t σ H Q):PE X e t':=λpins s σ H Q I q=>h pins s σ H Q I (i σ H Q q)
theorem PT.imp{e:Q5}{t t':TT}(h:PT X e t)(i:∀σ H Q,t' σ H Q->t σ H Q):PT X e t':=λpins s σ H Q I q=>h pins s σ H Q I (i σ H Q q)
theorem PW.imp{e:Q5}{t t':TT}(h:PW X e t)(i:∀σ H Q,t' σ H Q->t σ H Q):PW X e t':=λwh pins s σ H Q I q=>h wh pins s σ H Q I (i σ H Q q)
theorem PA.imp{e:List Q5}{t t':TA}(h:PA X e t)(i:∀σ H Q,t' σ H Q->t σ H Q):PA X e t':=λpos pins s σ H Q I q=>h pos pins s σ H Q I (i σ H Q q)
theorem OpR.len{f:Value->Value->Sem Value}{r:R2}(h:OpR X f r):OpR X f (λx y H Q=>QcD H->r x y H Q):=λpins s σ H x y v u Q I rx ry q=>h pins s σ H x y v u Q I rx ry (q (Inv.lens I))
theorem CallR.len{f:Value}{r:List V->Hp->VK->Prop}(h:CallR X f r):CallR X f (λxs H Q=>QcD H->r xs H Q):=λpins s σ H xs us Q I rx q=>h pins s σ H xs us Q I rx (q (Inv.lens I))
theorem IxR.len{r:R2}(h:IxR X r):IxR X (λx y H Q=>QcD H->r x y H Q):=λa b pins s σ H x y v u Q I rx ry q hs=>h a b pins s σ H x y v u Q I rx ry (q (Inv.lens I)) hs
theorem OpR.or2{f:Value->Value->Sem Value}{r r':R2}(h:OpR X f r)(h':OpR X f r'):OpR X f (λx y H Q=>r x y H Q∨r' x y H Q):=OpR.or h h'
theorem IxR.or2{r r':R2}(h:IxR X r)(h':IxR X r'):IxR X (λx y H Q=>r x y H Q∨r' x y H Q):=λa b pins s σ H x y v u Q I rx ry q hs=>q.elim (λq=>h a b pins s σ H x y v u Q I rx ry q hs) λq=>h' a b pins s σ H x y v u Q I rx ry q hs
theorem SlR.or2{r r':V->Option Int->Option Int->Hp->VK->Prop}(h:SlR X r)(h':SlR X r'):SlR X (λx a b H Q=>r x a b H Q∨r' x a b H Q):=λpins s σ H x v vl vu lo hi sl Q I rx hs pl pu q=>q.elim (h pins s σ H x v vl vu lo hi sl Q I rx hs pl pu) (h' pins s σ H x v vl vu lo hi sl Q I rx hs pl pu)
theorem toD{e:Q5}{w:DE}(h:PE X e (tX .F X.K E w)):PE X e (tX .D X.K E w):=PE.imp h λσ H Q ⟨F,δ,R,EX,r,hw,k,o⟩=>⟨F,δ,R,EX,r,hw,λd hd v H' r' kp vk=>k d hd v H' r' kp vk.1,o⟩
theorem toP{e:Q5}{w:DE}(h:PE X e (tX .D X.K E w)):PE X e (tX .P X.K E w):=PE.imp h λσ H Q ⟨F,δ,R,EX,r,hw,k,o⟩=>⟨F,δ,R,EX,r,hw,λd hd v H' r' kp vk=>k d hd v H' r' kp (.inl vk),o⟩
theorem QAe{e:Q5}{w:DE}(h:PE X e (tX .F X.K E w)):PE X e (tX .P X.K E w):=toP (toD h)
def Qze(i:Nat):DE:=λδ Q _=>match δ[i]? with
 |some (.v d)=>Q d
 |_=>False
def dPk(i:Nat):DE:=λδ Q _=>match δ[i]? with
 |some (.v d)=>Q d
 |some (.own ds)=>Q (.list ds)
 |some (.pk ds)=>Q (.list ds)
 |_=>False
def dC(d:Qb):DE:=λ_ Q _=>Q d
theorem Rel.lt{K:PySem.W.Frag}{F:Fm}{σ:L2.St}{H:Hp}{δ:Sts}(r:Rel K F σ H δ){i:Nat}{x:Sl}(h:δ[i]? = some x):∃o,σ[i]? = some o:=by
 have:=(Qx.mp h).1;exact⟨σ[i]'(by rw[r.len];exact this),Qf _⟩
theorem Qv3{e:Q5}{i:Nat}(h:PE X e (Qhs i)):PE X e (tX .D X.K E (Qze i)):=PE.imp h λσ H Q ⟨F,δ,R,EX,r,hw,k,o⟩=>by
 unfold Qze at hw;split at hw
 ·rename_i d hd
  obtain⟨x,hx⟩:=r.lt hd;obtain⟨v,rfl,q⟩:=r.sl i _ _ hx hd;exact⟨v,hx,k d hw v H r (Kp.refl r) q⟩
 ·exact hw.elim
theorem QyS{e:Q5}{i:Nat}(h:PE X e (Qhs i)):PE X e (tX .P X.K E (dPk i)):=PE.imp h λσ H Q ⟨F,δ,R,EX,r,hw,k,o⟩=>by
 unfold dPk at hw;split at hw
 ·rename_i d hd
  obtain⟨x,hx⟩:=r.lt hd;obtain⟨v,rfl,q⟩:=r.sl i _ _ hx hd;exact⟨v,hx,k d hw v H r (Kp.refl r) (.inl q)⟩
 ·rename_i d hd
  obtain⟨x,hx⟩:=r.lt hd;obtain⟨l,xs,rfl,e,q,_⟩:=r.sl i _ _ hx hd;exact⟨_,hx,k _ hw _ H r (Kp.refl r) (.inr ⟨l,xs,d,rfl,rfl,r.own_pot hd hx,e,q⟩)⟩
 ·rename_i d hd
  obtain⟨x,hx⟩:=r.lt hd;obtain⟨l,xs,rfl,e,q,ys,f,f2⟩:=r.sl i _ _ hx hd;refine⟨_,hx,k _ hw _ H r (Kp.refl r) (.inr ⟨l,xs,d,rfl,rfl,?_,e,q⟩)⟩;rintro⟨j,j1,j2⟩;obtain⟨p,m,e1,_,w⟩:=r.sl j _ _ j1 j2;cases e1;rcases w with w | w
  ·exact f2 w
  ·rw[w] at f;cases f
 ·exact hw.elim
theorem QxR{e:Q5}{v:V}{d:Qb}(h:PE X e (tC v))(q:∀(A:Addr->Prop)(H:Hp),DA A H v d):PE X e (tX .D X.K E (dC d)):=PE.imp h λσ H Q ⟨F,δ,R,EX,r,hw,k,o⟩=>k d hw v H r (Kp.refl r) (q _ _)
theorem Qwc{i:Int}{j pos}:PE X (.Constant (.int i) j pos) (tX .D X.K E (dC (.int i))):=QxR YM λ_ _=>.int i
theorem QyV{b:Bool}{j pos}:PE X (.Constant (.bool b) j pos) (tX .D X.K E (dC (.bool b))):=QxR Qpz λ_ _=>.bl b
theorem Qv9{j pos}:PE X (.Constant .none j pos) (tX .D X.K E (dC .none)):=QxR Qse λ_ _=>.non
theorem Qv5{x:Str}{j pos}(h:YV (.str x)=true:=by decide +kernel):PE X (.Constant (.str x) j pos) (tX .D X.K E (dC (.str x))):=QxR QmL λ_ _=>.str x h
def OpD(r:R2)(rD:Qb->Qb->(Qb->Prop)->Prop):Prop:=∀(A P:Addr->Prop)(H:Hp)(x y:V)(d1 d2:Qb)(R:Qb->Prop)(Q:VK),QcD H->(∀a,A a->∃xs,H a=some (.lst xs))->DP A P H x d1->DP A P H y d2->rD d1 d2 R ->
 (∀d,R d->∀v H',Same H H'->DA A H' v d->FrV H H' v->Q v H')->r x y H Q
def QrM(r:R2)(rD:Qb->Qb->(Qb->Prop)->Prop):Prop:=∀(A P:Addr->Prop)(H:Hp)(x y:V)(d1 d2:Qb)(R:Qb->Prop)(Q:VK),QcD H->(∀a,A a->∃xs,H a=some (.lst xs))->DP A P H x d1->DP A P H y d2->rD d1 d2 R ->
 (∀d,R d->∀v H',Same H H'->DA A H' v d->Q v H')->r x y H Q
def dOp(rD:Qb->Qb->(Qb->Prop)->Prop)(wa wb:DE):DE:=λδ Q EX=>wa δ (λd1=>wb δ (λd2=>rD d1 d2 Q) EX) EX
theorem QiO{K:PySem.W.Frag}{r:R2}{rD:Qb->Qb->(Qb->Prop)->Prop}{wa wb:DE}(hd:OpD r rD)(σ:L2.St)(H:Hp)(Q:VK)(h:tX .F K E (dOp rD wa wb) σ H Q) :
  tOp (λx y H Q=>QcD H->r x y H Q) (tX .P K E wa) (tX .P K E wb) σ H Q:=by
 obtain⟨F,δ,R,EX,rel,hw,k,o⟩:=h;refine⟨F,δ,_,EX,rel,hw,λd1 h1 x H1 rel1 kp1 x1=>⟨F,δ,_,EX,rel1,h1,λd2 h2 y H2 rel2 kp2 y2=>λln=>?_,o⟩,o⟩;refine hd (Av F σ δ) (Qai σ δ) H2 x y d1 d2 R Q ln (λa ha=>rel2.isl ha) (kp2.dp x1) y2 h2 λd hR v H' s q f=>?_
 refine k d hR v H' (rel2.same s) ((kp1.trans kp2).trans (Kp.same rel2 s)) ⟨q,λl e1 e2=>?_⟩;have f2:=f l e1 e2;cases e:H l with
 |none=>rfl
 |some ob=>
  by_cases z:Qai σ δ l
  ·obtain⟨n,en⟩:=kp2.2 l z;rw[en] at f2;cases f2
  ·rw[(kp1.trans kp2).1 _ _ z e] at f2;cases f2
theorem QpW{K:PySem.W.Frag}{r:R2}{rD:Qb->Qb->(Qb->Prop)->Prop}{wa wb:DE}(hd:QrM r rD)(σ:L2.St)(H:Hp)(Q:VK)(h:tX .D K E (dOp rD wa wb) σ H Q) :
  tOp (λx y H Q=>QcD H->r x y H Q) (tX .P K E wa) (tX .P K E wb) σ H Q:=by
 obtain⟨F,δ,R,EX,rel,hw,k,o⟩:=h;refine⟨F,δ,_,EX,rel,hw,λd1 h1 x H1 rel1 kp1 x1=>⟨F,δ,_,EX,rel1,h1,λd2 h2 y H2 rel2 kp2 y2=>λln=>?_,o⟩,o⟩;refine hd (Av F σ δ) (Qai σ δ) H2 x y d1 d2 R Q ln (λa ha=>rel2.isl ha) (kp2.dp x1) y2 h2 λd hR v H' s q=>?_
 exact k d hR v H' (rel2.same s) ((kp1.trans kp2).trans (Kp.same rel2 s)) q
variable{a b:Q5}{wa wb:DE}{pos:Pos}{r:R2}{rD:Qb->Qb->(Qb->Prop)->Prop}
theorem Qwg{op:QcN}(ho:OpR X (binaryOp op) r)(hd:OpD r rD)(ha:PE X a (tX .P X.K E wa))(hb:PE X b (tX .P X.K E wb)):PE X (.BinOp a op b pos) (tX .F X.K E (dOp rD wa wb)):=PE.imp (QaT (OpR.len ho) ha hb) (QiO hd)
theorem Qwf{op:QkF}(ho:OpR X (compareOp op) r)(hd:OpD r rD)(ha:PE X a (tX .P X.K E wa))(hb:PE X b (tX .P X.K E wb))(hm:behindInMarks op b=false):PE X (.Compare a [op] [b] pos) (tX .F X.K E (dOp rD wa wb)):=PE.imp (QeM (OpR.len ho) ha hb hm) (QiO hd)
theorem QyT{r:R2}{rD:Qb->Qb->(Qb->Prop)->Prop}(ho:IxR X r)(hd:QrM r rD)(ha:PE X a (tX .P X.K E wa))(hb:PE X b (tX .P X.K E wb))(hs:Qg2 b):PE X (.Subscript a b pos) (tX .D X.K E (dOp rD wa wb)):=PE.imp (QkU (IxR.len ho) ha hb hs) (QpW hd)
def dTst(w:DE):DT:=λδ Q EX=>w δ (λd=>match d with
 |.bool k=>Q k
 |_=>False) EX
theorem Qty{op:QkF}(ho:OpR X (compareOp op) r)(hd:OpD r rD)(ha:PE X a (tX .P X.K E wa))(hb:PE X b (tX .P X.K E wb))(hm:behindInMarks op b=false):PT X (.Compare a [op] [b] pos) (tT X.K E (dTst (dOp rD wa wb))):=by
 refine PT.imp (Qcw (OpR.len ho) ha hb hm) λσ H Q ⟨F,δ,R,EX,rel,hw,k,o⟩=>?_
 refine QiO hd σ H (λx H'=>∃k,x=.bl k/\Q k H') ⟨F,δ,_,EX,rel,hw,λd hd2 v H' rel' kp vk=>?_,o⟩;split at hd2
 ·rename_i b
  have:v=.bl b:=by cases vk.1;rfl
  exact⟨b,this,k b hd2 H' rel' kp⟩
 ·exact hd2.elim
def tru:Qb->Bool
 |.none=>false
 |.bool b=>b
 |.int i=>i != 0
 |.str y=>(y.length:Int) != 0
 |.list ds => !ds.isEmpty
 |.tuple ds => !ds.isEmpty
 |.dict ds => !ds.isEmpty
def strOk:Qb->Prop
 |.str y=>y.length<=sizeLine
 |_=>True
def dTru(w:DE):DT:=λδ Q EX=>w δ (λd=>strOk d/\Q (tru d)) EX
theorem Qvh{K:PySem.W.Frag}{A P:Addr->Prop}{H:Hp}{v:V}{d:Qb}(h:DP A P H v d)(hs:strOk d):Qzq K v H (tru d):=by
 have sq:∀{xs:List V}{ds:List Qb},DAs A H xs ds->(!ds.isEmpty) = !xs.isEmpty:=λq=>by cases q<;>rfl
 rcases h with h | ⟨l,xs,ds,rfl,rfl,_,e,q⟩
 ·cases h with
  |non=>rfl
  |bl b=>rfl
  |int i=>rfl
  |str x c=>exact⟨hs,rfl⟩
  |@tup a xs ds n e q=>exact .inr (.inl ⟨xs,SqT.of e,sq q⟩)
  |@lst a xs ds n e q=>exact .inl ⟨xs,SqL.of e,sq q⟩
  |@dct a n e=>exact .inr (.inr ⟨[],e,rfl⟩)
 ·exact .inl ⟨xs,SqL.of e,sq q⟩
theorem Qtw{e:Q5}{w:DE}(h:PE X e (tX .P X.K E w))(he:∀whole,isTrue e X.env whole=(do let v <- whole;standAt e.pos;holding [v] (truthy v))):PT X e (tT X.K E (dTru w)):=by
 refine PT.imp (Qpj h he) λσ H Q ⟨F,δ,R,EX,rel,hw,k,o⟩=>?_
 exact⟨F,δ,_,EX,rel,hw,λd ⟨hs,hq⟩ v H' rel' kp vk=>⟨tru d,Qvh vk hs,k _ hq H' rel' kp⟩,o⟩
theorem Qtv{e:Q5}{w:DE}(h:PE X e (tX .P X.K E w))(he:∀whole,isTrue e X.env whole=(do let v <- whole;standAt e.pos;holding [v] (truthy v)):=by intro _;rfl):PT X e (tT X.K E (dTst w)):=by
 refine PT.imp (QhH h he) λσ H Q ⟨F,δ,R,EX,rel,hw,k,o⟩=>?_
 refine⟨F,δ,_,EX,rel,hw,λd hd v H' rel' kp vk=>?_,o⟩;split at hd
 ·exact⟨_,DP.bool vk,k _ hd H' rel' kp⟩
 ·exact hd.elim
def Qz4(wa wb:DT):DT:=λδ Q EX=>wa δ (λc=>if c=true then wb δ Q EX else Q false) EX
def dOr(wa wb:DT):DT:=λδ Q EX=>wa δ (λc=>if c=true then Q true else wb δ Q EX) EX
def QzU(wa:DT):DT:=λδ Q EX=>wa δ (λc=>Q (!c)) EX
theorem QdW{c:Prop}[Decidable c]{p q p' q':Prop}(h:if c then p else q)(h1:p->p')(h2:q->q'):if c then p' else q':=by
 split at h
 ·rw[if_pos (by assumption)];exact h1 h
 ·rw[if_neg (by assumption)];exact h2 h
variable{rest:List Q5}{ta tb:DT}
theorem QpA(ha:PT X a (tT X.K E ta)):PW X (.BoolOp .And [a] pos) (tT X.K E ta):=Qth ha
theorem Qtt(ha:PT X a (tT X.K E ta)):PW X (.BoolOp .Or [a] pos) (tT X.K E ta):=QjL ha
theorem Qtu(ha:PT X a (tT X.K E ta))(hb:PW X (.BoolOp .And (b::rest) pos) (tT X.K E tb)):PW X (.BoolOp .And (a::b::rest) pos) (tT X.K E (Qz4 ta tb)):=by
 refine PW.imp (QvS ha hb) λσ H Q ⟨F,δ,R,EX,rel,hw,k,o⟩=>?_
 refine⟨F,δ,_,EX,rel,hw,λc hc H' rel' kp=>?_,o⟩;exact QdW hc (λz=>⟨F,δ,R,EX,rel',z,λc hc H2 rel2 kp2=>k c hc H2 rel2 (kp.trans kp2),o⟩) λz=>k _ z H' rel' kp
theorem Qv0(ha:PT X a (tT X.K E ta))(hb:PW X (.BoolOp .Or (b::rest) pos) (tT X.K E tb)):PW X (.BoolOp .Or (a::b::rest) pos) (tT X.K E (dOr ta tb)):=by
 refine PW.imp (QmB ha hb) λσ H Q ⟨F,δ,R,EX,rel,hw,k,o⟩=>?_
 refine⟨F,δ,_,EX,rel,hw,λc hc H' rel' kp=>?_,o⟩;exact QdW hc (λz=>k _ z H' rel' kp) (λz=>⟨F,δ,R,EX,rel',z,λc hc H2 rel2 kp2=>k c hc H2 rel2 (kp.trans kp2),o⟩)
theorem Qtx(ha:PT X a (tT X.K E ta)):PT X (.UnaryOp .Not a pos) (tT X.K E (QzU ta)):=by
 refine PT.imp (Qr5 ha) λσ H Q ⟨F,δ,R,EX,rel,hw,k,o⟩=>?_
 exact⟨F,δ,_,EX,rel,hw,λc hc H' rel' kp=>k _ hc H' rel' kp,o⟩
def Qxn(wa wb:DE):DE:=λδ Q EX=>wa δ (λd=>match d with
 |.bool c=>if c=true then wb δ Q EX else Q (.bool false)
 |_=>False) EX
def Qxi(wa:DE):DE:=λδ Q EX=>wa δ (λd=>match d with
 |.bool c=>Q (.bool (!c))
 |_=>False) EX
theorem Qv7{op}{w:DE}(h:PE X a (tX .D X.K E w)):PE X (.BoolOp op [a] pos) (tX .D X.K E w):=QhJ h
theorem Qwh(ha:PE X a (tX .P X.K E wa))(hb:PE X (.BoolOp .And (b::rest) pos) (tX .D X.K E wb)):PE X (.BoolOp .And (a::b::rest) pos) (tX .D X.K E (Qxn wa wb)):=by
 refine PE.imp (QhL ha hb) λσ H Q ⟨F,δ,R,EX,rel,hw,k,o⟩=>?_
 refine⟨F,δ,_,EX,rel,hw,λd hd v H' rel' kp vk=>?_,o⟩;split at hd
 ·exact⟨_,DP.bool vk,QdW hd (λz=>⟨F,δ,R,EX,rel',z,λd hd v H2 rel2 kp2=>k d hd v H2 rel2 (kp.trans kp2),o⟩) λz=>k _ z _ H' rel' kp (.bl _)⟩
 ·exact hd.elim
theorem Qv8(ha:PE X a (tX .P X.K E wa)):PE X (.UnaryOp .Not a pos) (tX .D X.K E (Qxi wa)):=by
 refine PE.imp (Qsd ha) λσ H Q ⟨F,δ,R,EX,rel,hw,k,o⟩=>?_
 refine⟨F,δ,_,EX,rel,hw,λd hd v H' rel' kp vk=>?_,o⟩;split at hd
 ·exact⟨_,DP.bool vk,k _ hd _ H' rel' kp (.bl _)⟩
 ·exact hd.elim
def Qz0(t:DT)(wa wb:DE):DE:=λδ Q EX=>t δ (λc=>if c=true then wa δ Q EX else wb δ Q EX) EX
theorem Qwd{c:Q5}(hc:PT X c (tT X.K E ta))(ha:PE X a (tX .D X.K E wa))(hb:PE X b (tX .D X.K E wb)):PE X (.IfExp c a b pos) (tX .D X.K E (Qz0 ta wa wb)):=by
 refine PE.imp (Qpw hc ha hb) λσ H Q ⟨F,δ,R,EX,rel,hw,k,o⟩=>?_
 refine⟨F,δ,_,EX,rel,hw,λd hd H' rel' kp=>?_,o⟩;exact QdW hd (λz=>⟨F,δ,R,EX,rel',z,λd hd v H2 rel2 kp2=>k d hd v H2 rel2 (kp.trans kp2),o⟩) (λz=>⟨F,δ,R,EX,rel',z,λd hd v H2 rel2 kp2=>k d hd v H2 rel2 (kp.trans kp2),o⟩)
end
theorem QfM{A:Addr->Prop}{H H':Hp}{l:Addr}{xs:List V}{ds:List Qb}(dm:∀a,A a->∃xs,H a=some (.lst xs))(s:Same H H')(n:H l=none)(e:H' l=some (.lst xs))(q:DAs A H xs ds):DA A H' (.ref l) (.list ds):=
 .lst (λz=>by obtain⟨ys,e'⟩:=dm l z;rw[n] at e';cases e') e (q.same s)
theorem Qfv{A:Addr->Prop}{H H':Hp}{l:Addr}{xs:List V}{ds:List Qb}(dm:∀a,A a->∃xs,H a=some (.lst xs))(s:Same H H')(e:H' l=some (.tup xs))(q:DAs A H xs ds):DA A H' (.ref l) (.tuple ds):=
 .tup (λz=>by obtain⟨ys,e'⟩:=dm l z;rw[s _ _ e'] at e;cases e) e (q.same s)
theorem Qb6{H H':Hp}{l:Addr}(n:H l=none):FrV H H' (.ref l):=λl' e _=>by cases e;exact n
theorem QdH{H H':Hp}{l:Addr}{xs:List V}(e:H' l=some (.tup xs)):FrV H H' (.ref l):=λl' e1 ⟨ys,e2⟩=>by cases e1;rw[e] at e2;cases e2
theorem YU{H H':Hp}{i:Int}:FrV H H' (.int i):=λl' e _=>by cases e
theorem QaN{H H':Hp}{i:Bool}:FrV H H' (.bl i):=λl' e _=>by cases e
theorem Qut{H H':Hp}:FrV H H' .non:=λl' e _=>by cases e
theorem DAs.rep{A:Addr->Prop}{H:Hp}{xs:List V}{ds:List Qb}(q:DAs A H xs ds):∀k:Nat,DAs A H (Jh k xs).flatten (Jh k ds).flatten
 |0=>.nil
 |k+1=>by rw[ZH,ZH,Yc,Yc];exact q.app (DAs.rep q k)
def QAO:Qb->Qb->(Qb->Prop)->Prop
 |.int i,.int j,Q=>Q (.int (i+j))
 |.tuple a,.tuple b,Q=>a.length+b.length<=1000000/\Q (.tuple (a++b))
 |.list a,.list b,Q=>a.length+b.length<=1000000/\Q (.list (a++b))
 |_,_,_=>False
def iiD(C:Int->Int->Prop)(f:Int->Int->Qb):Qb->Qb->(Qb->Prop)->Prop
 |.int i,.int j,Q=>C i j/\Q (f i j)
 |_,_,_=>False
def ii0(f:Int->Int->Qb):Qb->Qb->(Qb->Prop)->Prop
 |.int i,.int j,Q=>Q (f i j)
 |_,_,_=>False
def QAx:Qb->Qb->(Qb->Prop)->Prop
 |.int i,.int j,Q=>(CMul i j∨CMulB i j)/\Q (.int (i*j))
 |.list a,.int k,Q=>(k<1000000 /\ -1000000<k/\a.length*k.toNat<=1000000)/\Q (.list (Jh k.toNat a).flatten)
 |_,_,_=>False
theorem Qi2:1000000<=sizeLine:=by show 1000000<=2^24;decide
section
variable{X:Cx}{E:XK}
theorem QgE{C:Int->Int->Prop}{g:Int->Int->Int}:OpD (rI C λi j=>.int (g i j)) (iiD C λi j=>.int (g i j)):=λA P H x y d1 d2 R Q ln dm hx hy h k=>by
 cases d1<;>cases d2<;>first | exact h.elim | skip
 rw[hx.int,hy.int];exact⟨_,_,rfl,rfl,h.1,k _ h.2 _ H (Same.refl H) (.int _) YU⟩
theorem Qb2{g:Int->Int->Int}:OpD (rI0 λi j=>.int (g i j)) (ii0 λi j=>.int (g i j)):=λA P H x y d1 d2 R Q ln dm hx hy h k=>by
 cases d1<;>cases d2<;>first | exact h.elim | skip
 rw[hx.int,hy.int];exact⟨_,_,rfl,rfl,k _ h _ H (Same.refl H) (.int _) YU⟩
theorem QhQ{g:Int->Int->Bool}:OpD (rI0 λi j=>.bl (g i j)) (ii0 λi j=>.bool (g i j)):=λA P H x y d1 d2 R Q ln dm hx hy h k=>by
 cases d1<;>cases d2<;>first | exact h.elim | skip
 rw[hx.int,hy.int];exact⟨_,_,rfl,rfl,k _ h _ H (Same.refl H) (.bl _) QaN⟩
def rAdd:R2:=λx y H Q=>(rI0 (λi j=>.int (i+j)) x y H Q∨QvK x y H Q)∨QzK x y H Q
theorem Zn:OpR X (binaryOp .Add) rAdd:=OpR.or2 (OpR.or2 QfL QtY) Qsg
theorem Z4:OpD rAdd QAO:=λA P H x y d1 d2 R Q ln dm hx hy h k=>by
 cases d1<;>cases d2<;>first | exact h.elim | skip
 ·rw[hx.int,hy.int];exact .inl (.inl ⟨_,_,rfl,rfl,k _ h _ H (Same.refl H) (.int _) YU⟩)
 ·obtain⟨l1,xs,rfl,e1,q1⟩:=hx.list;obtain⟨l2,ys,rfl,e2,q2⟩:=hy.list;refine .inr ⟨l1,l2,xs,ys,rfl,rfl,e1,e2,QQ (by rw[q1.length,q2.length];exact h.1) Qi2,λp hp=>?_⟩;exact k _ h.2 _ _ (Jy hp) (QfM dm (Jy hp) hp JK (q1.app q2)) (Qb6 hp)
 ·obtain⟨l1,xs,rfl,e1,q1⟩:=hx.tuple;obtain⟨l2,ys,rfl,e2,q2⟩:=hy.tuple;refine .inl (.inr ⟨l1,l2,xs,ys,rfl,rfl,e1,e2,QQ (by rw[q1.length,q2.length];exact h.1) Qi2,λp H' s e=>?_⟩);exact k _ h.2 _ _ s (Qfv dm s e (q1.app q2)) (QdH e)
def QvI:R2:=λx y H Q=>(rI CMul (λi j=>.int (i*j)) x y H Q∨rI CMulB (λi j=>.int (i*j)) x y H Q)∨QzA x y H Q
theorem QgC:OpR X (binaryOp .Mult) QvI:=OpR.or2 (OpR.or2 QfK QtT) Qwm
theorem QjV:OpD QvI QAx:=λA P H x y d1 d2 R Q ln dm hx hy h k=>by
 cases d1<;>cases d2<;>first | exact h.elim | skip
 ·rw[hx.int,hy.int];rcases h.1 with c | c
  ·exact .inl (.inl ⟨_,_,rfl,rfl,c,k _ h.2 _ H (Same.refl H) (.int _) YU⟩)
  ·exact .inl (.inr ⟨_,_,rfl,rfl,c,k _ h.2 _ H (Same.refl H) (.int _) YU⟩)
 ·obtain⟨l1,xs,rfl,e1,q1⟩:=hx.list;rw[hy.int];obtain⟨⟨h1,h2,h3⟩,h4⟩:=h;refine .inr ⟨l1,_,xs,rfl,rfl,e1,by omega,by omega,QQ (by rw[q1.length];exact h3) Qi2,λp hp=>?_⟩;exact k _ h4 _ _ (Jy hp) (QfM dm (Jy hp) hp JK (q1.rep _)) (Qb6 hp)
def eqD:Qb->Qb->(Qb->Prop)->Prop
 |.int i,.int j,Q=>Q (.bool (decide (i=j)))
 |.bool i,.bool j,Q=>Q (.bool (decide (i=j)))
 |.str i,.str j,Q=>Q (.bool (decide (i=j)))
 |a,b,Q=>(nd a=true/\nd b=true/\(a.depth<=50∨b.depth<=50))/\Q (.bool (Q6 a b))
def neD:Qb->Qb->(Qb->Prop)->Prop
 |.int i,.int j,Q=>Q (.bool (!decide (i=j)))
 |.bool i,.bool j,Q=>Q (.bool (!decide (i=j)))
 |.str i,.str j,Q=>Q (.bool (!decide (i=j)))
 |a,b,Q=>(nd a=true/\nd b=true/\(a.depth<=50∨b.depth<=50))/\Q (.bool (!Q6 a b))
theorem QwC{a b:Qb}(h:a.depth<=50∨b.depth<=50):min a.depth b.depth<=50:=by rcases h with h | h<;>omega
def QzJ(u:Nat):R2:=λx y H Q=>rEq x y H Q∨QzI u x y H Q
def QzC(u:Nat):R2:=λx y H Q=>rNe x y H Q∨QzB u x y H Q
theorem Qc0:OpR X (compareOp .Eq) (QzJ X.A.units):=OpR.or2 QtW Qws
theorem QjS:OpR X (compareOp .NotEq) (QzC X.A.units):=OpR.or2 QpX Qwn
theorem Qw9{i j:Int}:decide (V.int i=V.int j)=decide (i=j):=by
 by_cases h:i=j
 ·subst h;simp
 ·rw[decide_eq_false h,decide_eq_false (λz=>h (V.int.inj z))]
theorem Qxa{i j:Bool}:decide (V.bl i=V.bl j)=decide (i=j):=by
 by_cases h:i=j
 ·subst h;simp
 ·rw[decide_eq_false h,decide_eq_false (λz=>h (V.bl.inj z))]
theorem Qw8{i j:Str}:decide (V.str i=V.str j)=decide (i=j):=by
 by_cases h:i=j
 ·subst h;simp
 ·rw[decide_eq_false h,decide_eq_false (λz=>h (V.str.inj z))]
theorem QgF{u:Nat}(hu:u+60<cLine):OpD (QzJ u) eqD:=λA P H x y d1 d2 R Q ln dm hx hy h k=>by
 unfold eqD at h;split at h
 ·rw[hx.int,hy.int];exact .inl ⟨rfl,k (.bool (decide (V.int _=V.int _))) (by rw[Qw9];exact h) _ H (Same.refl H) (.bl _) QaN⟩
 ·rw[hx.bool,hy.bool];exact .inl ⟨rfl,k (.bool (decide (V.bl _=V.bl _))) (by rw[Qxa];exact h) _ H (Same.refl H) (.bl _) QaN⟩
 ·rw[hx.str.1,hy.str.1];exact .inl ⟨rfl,k (.bool (decide (V.str _=V.str _))) (by rw[Qw8];exact h) _ H (Same.refl H) (.bl _) QaN⟩
 ·obtain⟨⟨n1,n2,dp⟩,hR⟩:=h;have:=QwC dp;exact .inr ⟨_,_,hx.dat n1,hy.dat n2,by omega,k _ hR _ H (Same.refl H) (.bl _) QaN⟩
theorem Qp5{u:Nat}(hu:u+60<cLine):OpD (QzC u) neD:=λA P H x y d1 d2 R Q ln dm hx hy h k=>by
 unfold neD at h;split at h
 ·rw[hx.int,hy.int];exact .inl ⟨rfl,k (.bool (!decide (V.int _=V.int _))) (by rw[Qw9];exact h) _ H (Same.refl H) (.bl _) QaN⟩
 ·rw[hx.bool,hy.bool];exact .inl ⟨rfl,k (.bool (!decide (V.bl _=V.bl _))) (by rw[Qxa];exact h) _ H (Same.refl H) (.bl _) QaN⟩
 ·rw[hx.str.1,hy.str.1];exact .inl ⟨rfl,k (.bool (!decide (V.str _=V.str _))) (by rw[Qw8];exact h) _ H (Same.refl H) (.bl _) QaN⟩
 ·obtain⟨⟨n1,n2,dp⟩,hR⟩:=h;have:=QwC dp;exact .inr ⟨_,_,hx.dat n1,hy.dat n2,by omega,k _ hR _ H (Same.refl H) (.bl _) QaN⟩
def Qs8(u:Nat)(neg:Bool):R2:=λx y H Q=>∃c ps ds d,y=.ref c/\H c=some (.lst ps)/\Dats H ps ds/\Dat H x d/\u+d.depth<cLine/\Q (.bl (if neg then !(ds.any λe=>Q6 e d) else ds.any λe=>Q6 e d)) H
theorem QtU:OpR X (compareOp .In) (Qs8 X.A.in1.units false):=by
 intro pins s σ H x y v u Q I rx ry h;obtain⟨c,ps,ds,d,rfl,hc,qs,qx,hu,q⟩:=h;cases ry;obtain⟨⟨as,ra⟩,ca⟩:=Z8 I.hok d x v qx rx;obtain⟨its,rv,pl,hz⟩:=I.list (SqL.of hc);obtain⟨⟨bs,rb⟩,cb⟩:=YA I.hok ds ps its qs rv;refine SeqAt.in_listAt (eqH s.heap d) pl.isList (λw hw=>Qdy ra ca rb cb hu w (Yn.mp hw)) ⟨.bl _,H,I,rfl,?_⟩;rw[show its.toArray.any (eqH s.heap d)=its.any (eqH s.heap d) by simp,Qfa rb cb];exact q
theorem QkX:OpR X (compareOp .NotIn) (Qs8 X.A.in1.units true):=by
 intro pins s σ H x y v u Q I rx ry h;obtain⟨c,ps,ds,d,rfl,hc,qs,qx,hu,q⟩:=h;cases ry;obtain⟨⟨as,ra⟩,ca⟩:=Z8 I.hok d x v qx rx;obtain⟨its,rv,pl,hz⟩:=I.list (SqL.of hc);obtain⟨⟨bs,rb⟩,cb⟩:=YA I.hok ds ps its qs rv;refine SeqAt.notIn_listAt (eqH s.heap d) pl.isList (λw hw=>Qdy ra ca rb cb hu w (Yn.mp hw)) ⟨.bl _,H,I,rfl,?_⟩;rw[show its.toArray.any (eqH s.heap d)=its.any (eqH s.heap d) by simp,Qfa rb cb];exact q
def inD(neg:Bool)(d:Qb):Qb->(Qb->Prop)->Prop
 |.list ds,Q=>(nds ds=true/\nd d=true/\d.depth<=50)/\Q (.bool (if neg then !(ds.any λe=>Q6 e d) else ds.any λe=>Q6 e d))
 |.tuple ds,Q=>(nds ds=true/\nd d=true/\d.depth<=50)/\Q (.bool (if neg then !(ds.any λe=>Q6 e d) else ds.any λe=>Q6 e d))
 |_,_=>False
def QyD(u:Nat)(neg:Bool):R2:=λx y H Q=>QyC u neg x y H Q∨Qs8 u neg x y H Q
theorem QmZ:OpR X (compareOp .In) (QyD X.A.in1.units false):=OpR.or2 Qwq QtU
theorem QhN:OpR X (compareOp .NotIn) (QyD X.A.in1.units true):=OpR.or2 QmW QkX
theorem Qng{u:Nat}{neg:Bool}(hu:u+60<cLine):OpD (QyD u neg) (inD neg):=λA P H x y d1 d2 R Q ln dm hx hy h k=>by
 cases d2<;>first | exact h.elim | skip
 ·obtain⟨l,xs,rfl,e,q⟩:=hy.list;obtain⟨⟨n1,n2,n3⟩,hR⟩:=h;exact .inr ⟨l,xs,_,d1,rfl,e,Qbh _ _ n1 q,hx.dat n2,by omega,k _ hR _ H (Same.refl H) (.bl _) QaN⟩
 ·obtain⟨l,xs,rfl,e,q⟩:=hy.tuple;obtain⟨⟨n1,n2,n3⟩,hR⟩:=h;exact .inl ⟨l,xs,_,d1,rfl,e,Qbh _ _ n1 q,hx.dat n2,by omega,k _ hR _ H (Same.refl H) (.bl _) QaN⟩
def ixD:Qb->Qb->(Qb->Prop)->Prop
 |.list ds,.int i,Q=>∃d,atI ds i=some d/\Q d
 |.tuple ds,.int i,Q=>∃d,atI ds i=some d/\Q d
 |_,_,_=>False
theorem QsB{A:Addr->Prop}{H:Hp}{xs:List V}{ds:List Qb}{i:Int}{d:Qb}(q:DAs A H xs ds)(h:atI ds i=some d):∃v,atI xs i=some v/\DA A H v d:=by
 unfold atI at h ⊢;rw[q.length];cases e:ixN ds.length i with
 |none=>rw[e] at h;cases h
 |some j=>
  rw[e] at h;exact q.get j d h
def QzF(K:PySem.W.Frag):R2:=λx y H Q=>QxQ K x y H Q∨QzE K x y H Q
theorem JP:IxR X (QzF X.K):=IxR.or2 QdD QwP
theorem ZE{K:PySem.W.Frag}:QrM (QzF K) ixD:=λA P H x y d1 d2 R Q ln dm hx hy h k=>by
 cases d1<;>cases d2<;>first | exact h.elim | skip
 ·obtain⟨l,xs,rfl,e,q⟩:=hx.list;obtain⟨d,hd,hR⟩:=h;obtain⟨v,hv,dv⟩:=QsB q hd;rw[hy.int];exact .inl ⟨l,xs,_,v,rfl,rfl,SqL.of e,hv,k d hR v H (Same.refl H) dv⟩
 ·obtain⟨l,xs,rfl,e,q⟩:=hx.tuple;obtain⟨d,hd,hR⟩:=h;obtain⟨v,hv,dv⟩:=QsB q hd;rw[hy.int];exact .inr ⟨l,xs,_,v,rfl,rfl,SqT.of e,hv,k d hR v H (Same.refl H) dv⟩
def dUn(rD:Qb->(Qb->Prop)->Prop)(wa:DE):DE:=λδ Q EX=>wa δ (λd=>rD d Q) EX
def QzL:Qb->(Qb->Prop)->Prop
 |.int i,Q=>Q (.int (-i))
 |_,_=>False
variable{a b c:Q5}{wa wb wc:DE}{pos:Pos}
theorem Qwa(ha:PE X a (tX .P X.K E wa)):PE X (.UnaryOp .USub a pos) (tX .F X.K E (dUn QzL wa)):=by
 refine PE.imp (QyQ Qvb ha) λσ H Q ⟨F,δ,R,EX,rel,hw,k,o⟩=>?_
 refine⟨F,δ,_,EX,rel,hw,λd hd v H' rel' kp vk=>?_,o⟩;cases d<;>first | exact(show False from hd).elim | skip
 exact⟨_,DP.int vk,k _ hd _ H' rel' kp ⟨.int _,YU⟩⟩
def dCh(p q:Int->Int->Bool)(wa wb wc:DE):DE:=λδ Q EX=>wa δ (λx=>wb δ (λy=>match x,y with
 |.int i,.int j=>if p i j=true then wc δ (λz=>match z with
  |.int k=>Q (.bool (q j k))
  |_=>False) EX else Q (.bool false)
 |_,_=>False) EX) EX
theorem Qn7{K:PySem.W.Frag}{p q:Int->Int->Bool}(σ:L2.St)(H:Hp)(Q:VK)(h:tX .F K E (dCh p q wa wb wc) σ H Q) :
  QlZ (rI0 λi j=>.bl (p i j)) (rI0 λi j=>.bl (q i j)) (tX .P K E wa) (tX .P K E wb) (tX .P K E wc) σ H Q:=by
 obtain⟨F,δ,R,EX,rel,hw,k,o⟩:=h;refine⟨F,δ,_,EX,rel,hw,λd1 h1 x H1 rel1 kp1 x1=>⟨F,δ,_,EX,rel1,h1,λd2 h2 y H2 rel2 kp2 y2=>?_,o⟩,o⟩;cases d1<;>cases d2<;>first | exact(show False from h2).elim | skip
 rw[DP.int x1,DP.int y2];refine⟨_,_,rfl,rfl,_,rfl,QdW h2 (λz=>⟨F,δ,_,EX,rel2,z,λd3 h3 v H3 rel3 kp3 v3=>?_,o⟩) λz=>k _ z _ H2 rel2 (kp1.trans kp2) ⟨.bl _,QaN⟩⟩;cases d3<;>first | exact(show False from h3).elim | skip
 rw[DP.int v3];exact⟨_,_,rfl,rfl,k _ h3 _ H3 rel3 ((kp1.trans kp2).trans kp3) ⟨.bl _,QaN⟩⟩
theorem QyU{op op':QkF}{p q:Int->Int->Bool}(ho:OpR X (compareOp op) (rI0 λi j=>.bl (p i j)))(ho':OpR X (compareOp op') (rI0 λi j=>.bl (q i j)))(ha:PE X a (tX .P X.K E wa))(hb:PE X b (tX .P X.K E wb))(hc:PE X c (tX .P X.K E wc))(hm:lastMarks [op,op'] [b,c]=false:=by with_unfolding_all rfl) :
  PE X (.Compare a [op,op'] [b,c] pos) (tX .F X.K E (dCh p q wa wb wc)):=PE.imp (Qpx ho ho' ha hb hc (hm:=hm)) Qn7
theorem Qv1{op op':QkF}{p q:Int->Int->Bool}(ho:OpR X (compareOp op) (rI0 λi j=>.bl (p i j)))(ho':OpR X (compareOp op') (rI0 λi j=>.bl (q i j)))(ha:PE X a (tX .P X.K E wa))(hb:PE X b (tX .P X.K E wb))(hc:PE X c (tX .P X.K E wc))(hm:lastMarks [op,op'] [b,c]=false:=by with_unfolding_all rfl) :
  PT X (.Compare a [op,op'] [b,c] pos) (tT X.K E (dTst (dCh p q wa wb wc))):=by
 refine PT.imp (Qpk ho ho' ha hb hc (hm:=hm)) λσ H Q ⟨F,δ,R,EX,rel,hw,k,o⟩=>?_
 refine Qn7 σ H (λx H'=>∃k,x=.bl k/\Q k H') ⟨F,δ,_,EX,rel,hw,λd hd2 v H' rel' kp vk=>?_,o⟩;split at hd2
 ·rename_i b
  have:v=.bl b:=by cases vk.1;rfl
  exact⟨b,this,k b hd2 H' rel' kp⟩
 ·exact hd2.elim
def QzV:DAr:=λ_ Q _=>Q []
def Qn1(we:DE)(wr:DAr):DAr:=λδ Q EX=>we δ (λd=>wr δ (λds=>Q (d::ds)) EX) EX
theorem QtM{m:Md}:PA X [] (tAr 0 m X.K E QzV):=PA.imp J3 λσ H Q ⟨F,δ,R,EX,rel,hw,k,o⟩=>k [] hw rfl [] H rel (Kp.refl rel) .nil
theorem Qoo{n:Nat}{m:Md}{K:PySem.W.Frag}{we:DE}{wr:DAr}(hm:∀{F:Fm}{σ:L2.St}{δ:Sts}{H H':Hp}{v:V}{d:Qb},Vok m F σ δ H H' v d->VD m (Av F σ δ) (Qai σ δ) H' v d)(σ:L2.St)(H:Hp)(Q:List V->Hp->Prop)(h:tAr (n+1) m K E (Qn1 we wr) σ H Q):Qdk (tX m K E we) (tAr n m K E wr) σ H Q:=by
 obtain⟨F,δ,R,EX,rel,hw,k,o⟩:=h;refine⟨F,δ,_,EX,rel,hw,λd hd v H' rel' kp vk=>⟨F,δ,_,EX,rel',hd,λds hds hl vs H2 rel2 kp2 vks=>?_,o⟩,o⟩;exact k _ hds (by rw[QU,hl]) (v::vs) H2 rel2 (kp.trans kp2) (.cons (kp2.vd (hm vk)) vks)
theorem QmT{n:Nat}{e:Q5}{es:List Q5}{we:DE}{wr:DAr}(he:PE X e (tX .D X.K E we))(hr:PA X es (tAr n .D X.K E wr))(hs:notStar e=true:=by rfl):PA X (e::es) (tAr (n+1) .D X.K E (Qn1 we wr)):=PA.imp (Qcy he hr hs) (Qoo λh=>h)
theorem QmS{n:Nat}{e:Q5}{es:List Q5}{we:DE}{wr:DAr}(he:PE X e (tX .P X.K E we))(hr:PA X es (tAr n .P X.K E wr))(hs:notStar e=true:=by rfl):PA X (e::es) (tAr (n+1) .P X.K E (Qn1 we wr)):=PA.imp (Qcy he hr hs) (Qoo λh=>h)
theorem Qdw{A P:Addr->Prop}{H:Hp}:∀{vs:List V}{ds:List Qb},YR (VD .D A P H) vs ds->DAs A H vs ds
 |_,_,.nil=>.nil
 |_,_,.cons a b=>.cons a (Qdw b)
def QzR(w:DAr):DE:=λδ Q EX=>w δ (λds=>Q (.tuple ds)) EX
def QzX(w:DAr):DE:=λδ Q EX=>w δ (λds=>Q (.list ds)) EX
theorem Qv4{n:Nat}{es:List Q5}{w:DAr}{x1}(h:PA X es (tAr n .D X.K E w))(hn:n<=1000:=by decide):PE X (.Tuple es x1 pos) (tX .F X.K E (QzR w)):=by
 refine PE.imp (QmK h) λσ H Q ⟨F,δ,R,EX,rel,hw,k,o⟩=>?_
 refine⟨F,δ,_,EX,rel,hw,λds hds hl vs H' rel' kp q=>?_,o⟩;have q':=Qdw q;refine⟨by rw[q'.length,hl];exact hn,λa H2 s n e=>k _ hds _ H2 (rel'.same s) (kp.trans (Kp.same rel' s)) ⟨Qfv (λa ha=>rel'.isl ha) s e q',QdH e⟩⟩
theorem Qcz{σ:L2.St}{δ:Sts}{H H':Hp}{l:Addr}(k:Kp σ δ H H')(n:H' l=none):H l=none:=by
 cases e:H l with
 |none=>rfl
 |some ob=>
  by_cases z:Qai σ δ l
  ·obtain⟨m,em⟩:=k.2 l z;rw[em] at n;cases n
  ·rw[k.1 _ _ z e] at n;cases n
theorem Qwb{n:Nat}{es:List Q5}{w:DAr}(h:PA X es (tAr n .D X.K E w))(hn:n<=1000:=by decide):PE X (.List es pos) (tX .F X.K E (QzX w)):=by
 refine PE.imp (QbH h) λσ H Q ⟨F,δ,R,EX,rel,hw,k,o⟩=>?_
 refine⟨F,δ,_,EX,rel,hw,λds hds hl vs H' rel' kp q=>?_,o⟩;have q':=Qdw q;refine⟨by rw[q'.length,hl];exact hn,λa H2 s n e=>k _ hds _ H2 (rel'.same s) (kp.trans (Kp.same rel' s)) ⟨QfM (λa ha=>rel'.isl ha) s n e q',Qb6 (Qcz kp n)⟩⟩
theorem Qwe{pos:Pos}:PE X (.Dict [] [] pos) (tX .D X.K E (dC (.dict []))):=by
 refine PE.imp Qts λσ H Q ⟨F,δ,R,EX,rel,hw,k,o⟩=>λp hp=>?_
 refine k _ hw _ _ (rel.same (Jy hp)) (Kp.same rel (Jy hp)) (.dct (λz=>?_) JK);obtain⟨xs,e⟩:=rel.isl z;rw[hp] at e;cases e
def Qc9(r:List V->Hp->VK->Prop)(rD:List Qb->(Qb->Prop)->Prop):Prop:=∀(A P:Addr->Prop)(H:Hp)(vs:List V)(ds:List Qb)(R:Qb->Prop)(Q:VK),QcD H->(∀a,A a->∃xs,H a=some (.lst xs))->YR (DP A P H) vs ds->rD ds R ->
 (∀d,R d->∀v H',Same H H'->DA A H' v d->FrV H H' v->Q v H')->r vs H Q
def dCB(rD:List Qb->(Qb->Prop)->Prop)(wa:DAr):DE:=λδ Q EX=>wa δ (λds=>rD ds Q) EX
theorem Qob{n:Nat}{K:PySem.W.Frag}{r:List V->Hp->VK->Prop}{rD:List Qb->(Qb->Prop)->Prop}{wa:DAr}(hd:Qc9 r rD)(σ:L2.St)(H:Hp)(Q:VK)(h:tX .F K E (dCB rD wa) σ H Q) :
  tCB (λxs H Q=>QcD H->r xs H Q) (tAr n .P K E wa) σ H Q:=by
 obtain⟨F,δ,R,EX,rel,hw,k,o⟩:=h;refine⟨F,δ,_,EX,rel,hw,λds hds hl vs H' rel' kp q ln=>?_,o⟩;refine hd (Av F σ δ) (Qai σ δ) H' vs ds R Q ln (λa ha=>rel'.isl ha) q hds λd hR v H2 s dv fr=>?_
 exact k d hR v H2 (rel'.same s) (kp.trans (Kp.same rel' s)) ⟨dv,λl e1 e2=>Qcz kp (fr l e1 e2)⟩
variable{x:Str}{bid T:String}{p:Pos}{e:Q5}{es:List Q5}{n:Nat}{wr:DAr}{r:List V->Hp->VK->Prop}{rD:List Qb->(Qb->Prop)->Prop}
theorem QpU(hc:CallR X (.builtin bid) r)(hd:Qc9 r rD)(hg:Gl X x)(hm:X.mg x=none)(hv:bootBuiltins x=some (.builtin bid))(ha:PA X (e::es) (tAr n .P X.K E wr))(hn:x ≠ "__name__" := by decide)(hdb:(x == ("__debug__" : Str))=false:=by decide)
  (he:starEach (e::es) X.env=(false,eval e X.env)::starEach es X.env:=by rfl)(hpl:(backTo pos (starEach es X.env)).any (·.1)=false:=by rfl):PE X (.Call (.Name x p) (e::es) [] pos) (tX .F X.K E (dCB rD wr)):=
 PE.imp (ZB (CallR.len hc) hg hm hv ha hn hdb he hpl) (Qob hd)
theorem QmV(hc:CallR X (.type T) r)(hd:Qc9 r rD)(hg:Gl X x)(hm:X.mg x=none)(hv:bootBuiltins x=some (.type T))(ha:PA X (e::es) (tAr n .P X.K E wr))(hn:x ≠ "__name__" := by decide)(hdb:(x == ("__debug__" : Str))=false:=by decide)
  (he:starEach (e::es) X.env=(false,eval e X.env)::starEach es X.env:=by rfl)(hpl:(backTo pos (starEach es X.env)).any (·.1)=false:=by rfl):PE X (.Call (.Name x p) (e::es) [] pos) (tX .F X.K E (dCB rD wr)):=
 PE.imp (QhK (CallR.len hc) hg hm hv ha hn hdb he hpl) (Qob hd)
theorem pd1{A P:Addr->Prop}{H:Hp}{vs:List V}{d:Qb}(q:YR (DP A P H) vs [d]):∃v,vs=[v]/\DP A P H v d:=by
 cases q with
 |cons a b=>cases b;exact⟨_,rfl,a⟩
theorem pd2{A P:Addr->Prop}{H:Hp}{vs:List V}{d d':Qb}(q:YR (DP A P H) vs [d,d']):∃v v',vs=[v,v']/\DP A P H v d/\DP A P H v' d':=by
 cases q with
 |cons a b=>cases b with | cons b c=>cases c;exact⟨_,_,rfl,a,b⟩
def QzM:List Qb->(Qb->Prop)->Prop
 |[.list ds],Q=>Q (.int ds.length)
 |[.tuple ds],Q=>Q (.int ds.length)
 |_,_=>False
theorem QaB{K:PySem.W.Frag}:Qc9 (QvJ K) QzM:=λA P H vs ds R Q ln dm q h k=>by
 unfold QzM at h;split at h
 ·obtain⟨v,rfl,hv⟩:=pd1 q;obtain⟨l,xs,rfl,e,qq⟩:=hv.list;exact⟨l,xs,rfl,.inl (SqL.of e),by rw[qq.length];exact k _ h _ H (Same.refl H) (.int _) YU⟩
 ·obtain⟨v,rfl,hv⟩:=pd1 q;obtain⟨l,xs,rfl,e,qq⟩:=hv.tuple;exact⟨l,xs,rfl,.inr (SqT.of e),by rw[qq.length];exact k _ h _ H (Same.refl H) (.int _) YU⟩
 ·exact h.elim
theorem ZG:CallR X (.builtin "len") (QvJ X.K):=QaC
def Que:List Qb->(Qb->Prop)->Prop
 |[.int i,.int j],Q=>Q (.int (if j<i then j else i))
 |_,_=>False
def QwE:List Qb->(Qb->Prop)->Prop
 |[.int i,.int j],Q=>Q (.int (if j > i then j else i))
 |_,_=>False
theorem Qn9:Qc9 (λxs H Q=>∃i j,xs=[.int i,.int j]/\Q (.int (if j<i then j else i)) H) Que:=λA P H vs ds R Q ln dm q h k=>by
 unfold Que at h;split at h
 ·obtain⟨v,v',rfl,h1,h2⟩:=pd2 q;rw[h1.int,h2.int];exact⟨_,_,rfl,k _ h _ H (Same.refl H) (.int _) YU⟩
 ·exact h.elim
theorem QuE:Qc9 (λxs H Q=>∃i j,xs=[.int i,.int j]/\Q (.int (if j > i then j else i)) H) QwE:=λA P H vs ds R Q ln dm q h k=>by
 unfold QwE at h;split at h
 ·obtain⟨v,v',rfl,h1,h2⟩:=pd2 q;rw[h1.int,h2.int];exact⟨_,_,rfl,k _ h _ H (Same.refl H) (.int _) YU⟩
 ·exact h.elim
def Qb8:List Qb->Option (List Bool)
 |[]=>some []
 |.bool b::ds=>(Qb8 ds).map (b::·)
 |_::_=>none
def Qc6:List Qb->Option (List Int)
 |[]=>some []
 |.int b::ds=>(Qc6 ds).map (b::·)
 |_::_=>none
theorem Qoj(bs:List Bool):Qb8 (bs.map Ye)=some bs:=by
 induction bs with
 |nil=>rfl
 |cons b bs ih=>rw[JC,Qb8,ih];rfl
theorem ints_map(bs:List Int):Qc6 (bs.map Q7)=some bs:=by
 induction bs with
 |nil=>rfl
 |cons b bs ih=>rw[JC,Qc6,ih];rfl
theorem bools_eq:∀{ds:List Qb}{bs:List Bool},Qb8 ds=some bs->ds=bs.map Ye
 |[],bs,h=>by cases h;rfl
 |d::ds,bs,h=>by
  cases d<;>first | (unfold Qb8 at h;cases h;done) | skip
  rw[Qb8] at h;obtain⟨cs,h1,rfl⟩:=Zx.mp h;rw[bools_eq h1];rfl
theorem Qi6:∀{ds:List Qb}{bs:List Int},Qc6 ds=some bs->ds=bs.map Q7
 |[],bs,h=>by cases h;rfl
 |d::ds,bs,h=>by
  cases d<;>first | (unfold Qc6 at h;cases h;done) | skip
  rw[Qc6] at h;obtain⟨cs,h1,rfl⟩:=Zx.mp h;rw[Qi6 h1];rfl
theorem QhY{A:Addr->Prop}{H:Hp}:∀{bs:List Bool}{xs:List V},DAs A H xs (bs.map Ye)->xs=bs.map V.bl
 |[],_,.nil=>rfl
 |b::bs,_,.cons (.bl _) r=>by rw[QhY r];rfl
theorem QgX{A:Addr->Prop}{H:Hp}:∀{bs:List Int}{xs:List V},DAs A H xs (bs.map Q7)->xs=bs.map V.int
 |[],_,.nil=>rfl
 |b::bs,_,.cons (.int _) r=>by rw[QgX r];rfl
@[irreducible] def QxX:List Qb->(Qb->Prop)->Prop
 |[.list ds],Q=>∃bs,Qb8 ds=some bs/\Q (.bool (bs.all id))
 |_,_=>False
theorem Qf3{K:PySem.W.Frag}{cm:Bool}(hc:cm=true):Qc9 (λxs H Q=>∃(p:Addr)(bs:List Bool),xs=[.ref p]/\SqL K H p (bs.map V.bl)/\cm=true/\Q (.bl (bs.all id)) H) QxX:=λA P H vs ds R Q ln dm q h k=>by
 unfold QxX at h;split at h
 ·obtain⟨v,rfl,hv⟩:=pd1 q;obtain⟨bs,hb,hR⟩:=h;rw[bools_eq hb] at hv;obtain⟨l,xs,rfl,e,qq⟩:=hv.list;rw[QhY qq] at e;exact⟨l,bs,rfl,SqL.of e,hc,k _ hR _ H (Same.refl H) (.bl _) QaN⟩
 ·exact h.elim
@[irreducible] def QxP:List Qb->(Qb->Prop)->Prop
 |[.list ds],Q=>∃ns,Qc6 ds=some ns/\Q (.int ns.sum)
 |_,_=>False
theorem Qsy{K:PySem.W.Frag}:Qc9 (QvE K) QxP:=λA P H vs ds R Q ln dm q h k=>by
 unfold QxP at h;split at h
 ·obtain⟨v,rfl,hv⟩:=pd1 q;obtain⟨bs,hb,hR⟩:=h;rw[Qi6 hb] at hv;obtain⟨l,xs,rfl,e,qq⟩:=hv.list;rw[QgX qq] at e;exact⟨l,bs,rfl,SqL.of e,k _ hR _ H (Same.refl H) (.int _) YU⟩
 ·exact h.elim
def QrY:List Qb->(Qb->Prop)->Prop
 |[.list ds],Q=>Q (.tuple ds)
 |[.tuple ds],Q=>Q (.tuple ds)
 |_,_=>False
def QwH:List Qb->(Qb->Prop)->Prop
 |[.list ds],Q=>Q (.list ds)
 |[.tuple ds],Q=>Q (.list ds)
 |_,_=>False
theorem QrC{K:PySem.W.Frag}:Qc9 (Qmr K) QrY:=λA P H vs ds R Q ln dm q h k=>by
 unfold QrY at h;split at h
 ·obtain⟨v,rfl,hv⟩:=pd1 q;obtain⟨l,xs,rfl,e,qq⟩:=hv.list;exact⟨l,xs,rfl,.inl ⟨SqL.of e,λl' H' s n e'=>k _ h _ H' s (Qfv dm s e' qq) (QdH e')⟩⟩
 ·obtain⟨v,rfl,hv⟩:=pd1 q;obtain⟨l,xs,rfl,e,qq⟩:=hv.tuple;exact⟨l,xs,rfl,.inr ⟨SqT.of e,k _ h _ H (Same.refl H) (Qfv dm (Same.refl H) e qq) (QdH e)⟩⟩
 ·exact h.elim
theorem Qoa{K:PySem.W.Frag}:Qc9 (Qmt K) QwH:=λA P H vs ds R Q ln dm q h k=>by
 unfold QwH at h;split at h
 ·obtain⟨v,rfl,hv⟩:=pd1 q;obtain⟨l,xs,rfl,e,qq⟩:=hv.list;exact⟨l,xs,rfl,.inl (SqL.of e),λl' H' s n e'=>k _ h _ H' s (QfM dm s n e' qq) (Qb6 n)⟩
 ·obtain⟨v,rfl,hv⟩:=pd1 q;obtain⟨l,xs,rfl,e,qq⟩:=hv.tuple;exact⟨l,xs,rfl,.inr (SqT.of e),λl' H' s n e'=>k _ h _ H' s (QfM dm s n e' qq) (Qb6 n)⟩
 ·exact h.elim
end
section
variable{X:Cx}{E:XK}
inductive Tn where | int | bool | str | tuple | list
def Tn.s:Tn->String
 |.int => "int"
 |.bool => "bool"
 |.str => "str"
 |.tuple => "tuple"
 |.list => "list"
def isT:Tn->Qb->Bool
 |.int,.int _=>true
 |.int,.bool _=>true
 |.bool,.bool _=>true
 |.str,.str _=>true
 |.tuple,.tuple _=>true
 |.list,.list _=>true
 |_,_=>false
theorem Qup{K:PySem.W.Frag}{A P:Addr->Prop}{H:Hp}{v:V}{d:Qb}(tn:Tn)(h:DP A P H v d):∃t,TyOf K H v t/\PySem.W.kitOne K t (.type tn.s)=some (isT tn d):=by
 rcases h with h | ⟨l,xs,ds,rfl,rfl,_,e,q⟩
 ·cases h with
  |non=>exact⟨_,.non,by cases tn<;>rfl⟩
  |bl b=>exact⟨_,.bl _,by cases tn<;>rfl⟩
  |int i=>exact⟨_,.int _,by cases tn<;>rfl⟩
  |str x c=>exact⟨_,.str _,by cases tn<;>rfl⟩
  |tup n e q=>exact⟨_,.tup e,by cases tn<;>rfl⟩
  |lst n e q=>exact⟨_,.lst e,by cases tn<;>rfl⟩
  |dct n e=>exact⟨_,.dK e,by cases tn<;>rfl⟩
 ·exact⟨_,.lst e,by cases tn<;>rfl⟩
def Qxj(tn:Tn)(we:DE):DE:=λδ Q EX=>we δ (λd=>Q (.bool (isT tn d))) EX
theorem QtO{e f:Q5}{we:DE}{p pos:Pos}(tn:Tn)(hg:Gl X "isinstance")(hm:X.mg "isinstance" = none)(he:PE X e (tX .P X.K E we))(hf:PE X f (tC (.ty tn.s)))(h1:notStar e=true:=by rfl)(h2:notStar f=true:=by rfl) :
  PE X (.Call (.Name "isinstance" p) [e,f] [] pos) (tX .F X.K E (Qxj tn we)):=by
 refine PE.imp (ZB ZU hg hm J4 (Qcy he (Qcy hf J3 h2) h1) (he:=ZZ h1) (hpl:=by rw[ZZ h2];rfl)) λσ H Q ⟨F,δ,R,EX,rel,hw,k,o⟩=>?_
 refine⟨F,δ,_,EX,rel,hw,λd hd v H' rel' kp vk=>?_,o⟩;obtain⟨t,ty,et⟩:=Qup (K:=X.K) tn vk;exact⟨v,t,tn.s,_,rfl,ty,et,k _ hd _ H' rel' kp ⟨.bl _,QaN⟩⟩
theorem QyW{x:Str}{pos:Pos}(tn:Tn)(hg:Gl X x)(hm:X.mg x=none)(hv:bootBuiltins x=some (.type tn.s))(hn:x ≠ "__name__" := by decide)(hd:(x == ("__debug__" : Str))=false:=by decide):PE X (.Name x pos) (tC (.ty tn.s)):=Qag (v:=.ty tn.s) hg hm hv rfl hn hd
abbrev DO:=Sts->(Option Int->Prop)->XP->Prop
def tO(K:PySem.W.Frag)(E:XK)(w:DO):TO:=λσ H Q=>∃(F:Fm)(δ:Sts)(R:Option Int->Prop)(EX:XP),Rel K F σ H δ/\w δ R EX/\(∀d,R d->∀H',Rel K F σ H' δ->Kp σ δ H H'->Q d H')/\Out F E EX
def dNo:DO:=λ_ Q _=>Q none
def dSo(we:DE):DO:=λδ Q EX=>we δ (λd=>match d with
 |.int i=>Q (some i)
 |_=>False) EX
theorem PO.imp{e:Option Q5}{t t':TO}(h:PO X e t)(i:∀σ H Q,t' σ H Q->t σ H Q):PO X e t':=λpins s σ H Q I q=>h pins s σ H Q I (i σ H Q q)
theorem QpM:PO X none (tO X.K E dNo):=PO.imp Qtn λσ H Q ⟨F,δ,R,EX,rel,hw,k,o⟩=>k _ hw H rel (Kp.refl rel)
theorem QpL{e:Q5}{we:DE}(he:PE X e (tX .P X.K E we)):PO X (some e) (tO X.K E (dSo we)):=by
 refine PO.imp (QmF he) λσ H Q ⟨F,δ,R,EX,rel,hw,k,o⟩=>?_
 refine⟨F,δ,_,EX,rel,hw,λd hd v H' rel' kp vk=>?_,o⟩;cases d<;>first | exact(show False from hd).elim | skip
 exact⟨_,DP.int vk,k _ hd H' rel' kp⟩
def cutD(xs:List Qb)(lo hi:Option Int):List Qb:=(xs.drop (HT.sIx xs.length 0 lo)).take (HT.sIx xs.length xs.length hi - HT.sIx xs.length 0 lo)
theorem Qn3{A:Addr->Prop}{H:Hp}{xs:List V}{ds:List Qb}(q:DAs A H xs ds)(lo hi:Option Int):DAs A H (Qki xs lo hi) (cutD ds lo hi):=by
 unfold Qki cutD;rw[q.length];exact(q.drop _).take _
def slD(d:Qb)(lo hi:Option Int)(Q:Qb->Prop):Prop:=
 match d with
 |.list ds=>Q (.list (cutD ds lo hi))
 |.tuple ds=>Q (.tuple (cutD ds lo hi))
 |_=>False
def dSl(we:DE)(wl wh:DO):DE:=λδ Q EX=>we δ (λd=>wl δ (λlo=>wh δ (λhi=>slD d lo hi Q) EX) EX) EX
def QvG(K:PySem.W.Frag):V->Option Int->Option Int->Hp->VK->Prop:=λx a b H Q=>Qzz x a b H Q∨QvF K x a b H Q
theorem QpS{e:Q5}{lo hi:Option Q5}{we:DE}{wl wh:DO}{p2 pos:Pos}(he:PE X e (tX .P X.K E we))(hl:PO X lo (tO X.K E wl))(hh:PO X hi (tO X.K E wh)):PE X (.Subscript e (.Slice lo hi none p2) pos) (tX .F X.K E (dSl we wl wh)):=by
 refine PE.imp (Qpu (r:=QvG X.K) (SlR.or2 Qvw Qo1) he hl hh) λσ H Q ⟨F,δ,R,EX,rel,hw,k,o⟩=>?_
 refine⟨F,δ,_,EX,rel,hw,λd hd v H1 rel1 kp1 vk=>⟨F,δ,_,EX,rel1,hd,λa ha H2 rel2 kp2=>⟨F,δ,_,EX,rel2,ha,λb hb H3 rel3 kp3=>?_,o⟩,o⟩,o⟩;have v3:=kp3.dp (kp2.dp vk);have K3:=(kp1.trans kp2).trans kp3;cases d<;>first | exact(show False from hb).elim | skip
 ·obtain⟨l,xs,rfl,e,q⟩:=DP.list v3;exact .inr ⟨l,xs,rfl,SqL.of e,λp H' s n e'=>k _ hb _ H' (rel3.same s) (K3.trans (Kp.same rel3 s)) ⟨QfM (λa ha=>rel3.isl ha) s n e' (Qn3 q _ _),Qb6 (Qcz K3 n)⟩⟩
 ·obtain⟨l,xs,rfl,e,q⟩:=DP.tuple v3;exact .inl ⟨l,xs,rfl,e,λp H' s e'=>k _ hb _ H' (rel3.same s) (K3.trans (Kp.same rel3 s)) ⟨Qfv (λa ha=>rel3.isl ha) s e' (Qn3 q _ _),QdH e'⟩⟩
def QAn(d:Qb)(Q:Qb->Prop):Prop:=
 match d with
 |.tuple ds=>Q (.tuple ds.reverse)
 |_=>False
def QzT(we ws:DE):DE:=λδ Q EX=>we δ (λd=>ws δ (λs=>(match s with | .int i=>i = -1 | _=>False)/\QAn d Q) EX) EX
theorem Qv6{e st:Q5}{we ws:DE}{p2 pos:Pos}(he:PE X e (tX .P X.K E we))(hs:PE X st (tX .P X.K E ws)):PE X (.Subscript e (.Slice none none (some st) p2) pos) (tX .F X.K E (QzT we ws)):=by
 refine PE.imp (QvZ he hs) λσ H Q ⟨F,δ,R,EX,rel,hw,k,o⟩=>?_
 refine⟨F,δ,_,EX,rel,hw,λd hd v H1 rel1 kp1 vk=>⟨F,δ,_,EX,rel1,hd,λs hs y H2 rel2 kp2 yk=>?_,o⟩,o⟩;have v2:=kp2.dp vk;have K2:=kp1.trans kp2;obtain⟨h1,h2⟩:=hs;cases s<;>first | exact(show False from h1).elim | skip
 rename_i i
 cases(show i = -1 from h1);rw[DP.int yk];cases d<;>first | exact(show False from h2).elim | skip
 obtain⟨l,xs,rfl,e,q⟩:=DP.tuple v2;exact⟨_,rfl,rfl,l,xs,rfl,e,λp H' s e'=>k _ h2 _ H' (rel2.same s) (K2.trans (Kp.same rel2 s)) ⟨Qfv (λa ha=>rel2.isl ha) s e' q.rev,QdH e'⟩⟩
abbrev DF:=List Sl->(Qb->Prop)->XP->Prop
def Kq(pt:Addr->Prop)(H H':Hp):Prop:=(∀b o,¬pt b->H b=some o->H' b=some o)/\∀p,pt p->∃n,H' p=some (.lst [.int n])
def Zh(fr:Bool)(f:DF):Sp:=λvs H Q Ex=>∃(A pt:Addr->Prop)(args:List Sl)(R:Qb->Prop)(EX:XP),(∀a,A a->∃xs,H a=some (.lst xs))/\(∀p,pt p->A p/\∃n,H p=some (.lst [.int n]))/\YR (Qjk A pt H) vs args/\f args R EX /\
 (∀d,R d->∀v H',Kq pt H H'->DA A H' v d->(fr=true->FrV H H' v)->Q v H')/\∀C,EX C->∀H',Kq pt H H'->Ex (.ref C) none H'
def Qzy:DSl:=λ_ Q _=>Q []
def sV(we:DE)(wr:DSl):DSl:=λδ Q EX=>we δ (λd=>wr δ (λds=>Q (.v d::ds)) EX) EX
def QyA(i:Nat)(wr:DSl):DSl:=λδ Q EX=>match δ[i]? with
 |some .pot=>wr δ (λds=>Q (.pot::ds)) EX
 |_=>False
theorem QtD:PA X [] (tAs X.K E Qzy):=PA.imp J3 λσ H Q ⟨F,δ,R,EX,rel,hw,k,o⟩=>k [] hw [] H rel (Kp.refl rel) .nil
theorem QyR{e:Q5}{es:List Q5}{we:DE}{wr:DSl}(he:PE X e (tX .D X.K E we))(hr:PA X es (tAs X.K E wr))(hs:notStar e=true:=by rfl):PA X (e::es) (tAs X.K E (sV we wr)):=by
 refine PA.imp (Qcy he hr hs) λσ H Q ⟨F,δ,R,EX,rel,hw,k,o⟩=>?_
 refine⟨F,δ,_,EX,rel,hw,λd hd v H' rel' kp vk=>⟨F,δ,_,EX,rel',hd,λds hds vs H2 rel2 kp2 vks=>?_,o⟩,o⟩;exact k _ hds (v::vs) H2 rel2 (kp.trans kp2) (.cons (kp2.da vk) vks)
theorem QtA{e:Q5}{es:List Q5}{i:Nat}{wr:DSl}(he:PE X e (Qhs i))(hr:PA X es (tAs X.K E wr))(hs:notStar e=true:=by rfl):PA X (e::es) (tAs X.K E (QyA i wr)):=by
 refine PA.imp (Qcy he hr hs) λσ H Q ⟨F,δ,R,EX,rel,hw,k,o⟩=>?_
 unfold QyA at hw;split at hw
 ·rename_i hd
  obtain⟨x,hx⟩:=rel.lt hd;obtain⟨p,n,rfl,e,q⟩:=rel.sl i _ _ hx hd;refine⟨.ref p,hx,F,δ,_,EX,rel,hw,λds hds vs H2 rel2 kp2 vks=>?_,o⟩;exact k _ hds (.ref p::vs) H2 rel2 kp2 (.cons ⟨p,rfl,i,hx,hd⟩ vks)
 ·exact hw.elim
def Qn2(f:DF)(wa:DSl):DE:=λδ Q EX=>wa δ (λargs=>f args Q EX) EX
theorem Kq.kp{K:PySem.W.Frag}{F:Fm}{σ:L2.St}{δ:Sts}{H H':Hp}(k:Kq (Qai σ δ) H H'):Kp σ δ H H':=k
theorem Qh5{m:Md}{fr:Bool}{K:PySem.W.Frag}{f:DF}{wa:DSl}(hm:∀{F:Fm}{σ:L2.St}{δ:Sts}{H H':Hp}{v:V}{d:Qb},DA (Av F σ δ) H' v d->(fr=true->FrV H H' v)->Vok m F σ δ H H' v d)(σ:L2.St)(H:Hp)(Q:VK)(h:tX m K E (Qn2 f wa) σ H Q):QsU (Zh fr f) [] E (tAs K E wa) σ H Q:=by
 obtain⟨F,δ,R,EX,rel,hw,k,o⟩:=h;refine⟨F,δ,_,EX,rel,hw,λargs ha vs H1 rel1 kp1 q=>?_,o⟩;show Zh fr f (vs++[]) H1 Q E;rw[Je];refine⟨Av F σ δ,Qai σ δ,args,R,EX,λa ha=>rel1.isl ha,λp hp=>⟨Qaz hp,(Kp.refl rel1).2 p hp⟩,q,ha,λd hd v H' kq dv fr=>?_,λC hC H' kq=>o C hC H' (rel1.kp kq).ke⟩;exact k d hd v H' (rel1.kp kq) (kp1.trans kq) (hm dv λz l e1 e2=>Qcz kp1 (fr z l e1 e2))
variable{CX:CXT}{k:Nat}{f:Addr}{fd:QL}{ps:List Str}{x:Str}{p pos:Pos}{e:Q5}{es:List Q5}{fD:DF}{wa:DSl}
theorem QtR(G:FnOk X.prog X.w X.K X.mg X.base CX k f fd ps (Zh false fD))(hr:Room k X.A)(hg:Gl X x)(hm:X.mg x=some (.ref f))(hk:PySem.W.keepIn X.K (.ref f)=true)(hb:Binds X.K fd ps [])(hx:Qc7 CX X E)
  (ha:PA X (e::es) (tAs X.K E wa))(hdb:(x == ("__debug__" : Str))=false:=by decide)(he:starEach (e::es) X.env=(false,eval e X.env)::starEach es X.env:=by rfl)(hpl:(backTo pos (starEach es X.env)).any (·.1)=false:=by rfl) :
  PE X (.Call (.Name x p) (e::es) [] pos) (tX .D X.K E (Qn2 fD wa)):=PE.imp (QeN G hr hg hm hk hb .nil hx ha hdb he hpl) (Qh5 λh _=>h)
theorem QpT(G:FnOk X.prog X.w X.K X.mg X.base CX k f fd ps (Zh true fD))(hr:Room k X.A)(hg:Gl X x)(hm:X.mg x=some (.ref f))(hk:PySem.W.keepIn X.K (.ref f)=true)(hb:Binds X.K fd ps [])(hx:Qc7 CX X E)
  (ha:PA X (e::es) (tAs X.K E wa))(hdb:(x == ("__debug__" : Str))=false:=by decide)(he:starEach (e::es) X.env=(false,eval e X.env)::starEach es X.env:=by rfl)(hpl:(backTo pos (starEach es X.env)).any (·.1)=false:=by rfl) :
  PE X (.Call (.Name x p) (e::es) [] pos) (tX .F X.K E (Qn2 fD wa)):=PE.imp (QeN G hr hg hm hk hb .nil hx ha hdb he hpl) (Qh5 λh z=>⟨h,z rfl⟩)
end
abbrev DG:=Qb->Sts->(Sts->Prop)->Prop
def tG(ix:List Nat)(K:PySem.W.Frag)(w:DG):TG:=λv σ H Q=>∃(F:Fm)(δ:Sts)(d:Qb)(R:Sts->Prop),Rel K F σ H δ/\DA (Av F σ δ) H v d/\w d δ R /\
 ∀δ',R δ'->∀σ',Rel K F σ' H δ'->Stp F σ H δ σ' H δ'->σ'.length=σ.length->(∀j,j∉ix->σ'[j]? = σ[j]?)->Q σ' H
theorem QaY{α:Type}{l:List α}{i j:Nat}{x:α}(h:j≠i):(l.set i x)[j]? = l[j]? := Qa9 (Qea h)
theorem set_eq{α:Type}{l:List α}{i:Nat}{x y:α}(h:(l.set i x)[i]? = some y):y=x:=by
 rw[Qfe] at h;simp only[if_true] at h;split at h
 ·exact(Qw h).symm
 ·cases h
theorem Qe9{F:Fm}{σ:L2.St}{δ:Sts}{i:Nat}{o:Option V}{d:Qb}{a:Addr}(h:Av F (σ.set i o) (δ.set i (.v d)) a):Av F σ δ a:=by
 rcases h with h | ⟨j,h1,h2⟩
 ·exact .inl h
 ·by_cases z:j=i
  ·subst z;rcases h2 with h2 | ⟨ds,h2⟩<;>cases set_eq h2
  ·rw[QaY z] at h1 h2;exact .inr ⟨j,h1,h2⟩
theorem Rel.setv{K:PySem.W.Frag}{F:Fm}{σ:L2.St}{H:Hp}{δ:Sts}(r:Rel K F σ H δ){i:Nat}{v:V}{d:Qb}(q:DA (Av F σ δ) H v d):Rel K F (σ.set i (some v)) H (δ.set i (.v d)) where
 len:=by rw[Z0,Z0];exact r.len
 dom:=r.dom
 dom0:=r.dom0
 pt0:=r.pt0
 kx:=r.kx
 sl:=λj o x h1 h2=>by
  have wk:∀{v:V}{d':Qb},DA (Av F σ δ) H v d'->DA (Av F (σ.set i (some v)) (δ.set i (.v d))) H v d':=λh=>h.mv (λ_ _ _ e=>e) λa z=>.inl (Qe9 z)
  by_cases z:j=i
  ·subst z;cases set_eq h1;cases set_eq h2;exact⟨v,rfl,q.mv (λ_ _ _ e=>e) λa z=>.inl (Qe9 z)⟩
  ·rw[QaY z] at h1 h2;have h:=r.sl j o x h1 h2;cases x with
   |no=>trivial
   |v d=>obtain⟨v',e,q'⟩:=h;exact⟨v',e,q'.mv (λ_ _ _ e=>e) λa z=>.inl (Qe9 z)⟩
   |own ds=>obtain⟨l,xs,e,e2,q',f⟩:=h;exact⟨l,xs,e,e2,q'.mv (λ_ _ _ e=>e) λa z=>.inl (Qe9 z),f⟩
   |pk ds=>obtain⟨l,xs,e,e2,q',f⟩:=h;exact⟨l,xs,e,e2,q'.mv (λ_ _ _ e=>e) λa z=>.inl (Qe9 z),f⟩
   |pot=>exact h
   |scr=>exact h
 inj:=λj k a ds h1 h2 ⟨h3,h4⟩=>by
  by_cases z:j=i
  ·subst z;cases set_eq h1
  ·rw[QaY z] at h1 h2;by_cases z2:k=i
   ·subst z2;rcases h4 with h4 | ⟨ds,h4⟩<;>cases set_eq h4
   ·rw[QaY z2] at h3 h4;exact r.inj j k a ds h1 h2 ⟨h3,h4⟩
theorem Stp.setv{F:Fm}{σ:L2.St}{H:Hp}{δ:Sts}{i:Nat}{o:Option V}{d:Qb}:Stp F σ H δ (σ.set i o) H (δ.set i (.v d)):=⟨λ_ _ _ e=>e,λa z=>.inl (Qe9 z)⟩
def gN(i:Nat):DG:=λd δ Q=>Q (δ.set i (.v d))
def QjF:Sts->List Nat->List Qb->Sts
 |δ,i::is,d::ds=>QjF (δ.set i (.v d)) is ds
 |δ,_,_=>δ
def gTN(is:List Nat):DG:=λd δ Q=>match d with
 |.tuple ds=>ds.length=is.length/\Q (QjF δ is ds)
 |_=>False
section
variable{X:Cx}{E:XK}
theorem PG.imp{e:Q5}{t t':TG}(h:PG X e t)(i:∀v σ H Q,t' v σ H Q->t v σ H Q):PG X e t':=λpins s σ H v u Q I r q=>h pins s σ H v u Q I r (i v σ H Q q)
theorem QpR{e:Q5}{i:Nat}(h:PG X e (Qfm i)):PG X e (tG [i] X.K (gN i)):=PG.imp h λv σ H Q ⟨F,δ,d,R,rel,dv,hw,k⟩=>
 k _ hw _ (rel.setv dv) Stp.setv (Z0 ..) λj hj=>QaY λz=>hj (by rw[z];exact Jo.mpr rfl)
def gNs:List Nat->TGs
 |[]=>Qza
 |i::is=>Qrs (Qfm i) (gNs is)
theorem Qj8{K:PySem.W.Frag}{F:Fm}{H:Hp}{Q:L2.St->Hp->Prop}:∀(is:List Nat)(vs:List V)(ds:List Qb)(σ:L2.St)(δ:Sts),ds.length=is.length->Rel K F σ H δ->DAs (Av F σ δ) H vs ds ->
  (∀σ',Rel K F σ' H (QjF δ is ds)->Stp F σ H δ σ' H (QjF δ is ds)->σ'.length=σ.length->(∀j,j∉is->σ'[j]? = σ[j]?)->Q σ' H)->gNs is vs σ H Q
 |[],vs,ds,σ,δ,hl,rel,q,k=>by
  cases ds with
  |nil=>cases q;exact⟨rfl,k σ rel Stp.refl rfl λ_ _=>rfl⟩
  |cons d ds=>cases hl
 |i::is,vs,ds,σ,δ,hl,rel,q,k=>by
  cases ds with
  |nil=>cases hl
  |cons d ds=>
   cases q with
   |@cons v vs _ _ q qs=>
    refine⟨v,vs,rfl,?_⟩;refine Qj8 is vs ds _ _ (by simpa using hl) (rel.setv q) (qs.mv (λ_ _ _ e=>e) λa z=>.inl (Qe9 z)) λσ' r' st hl' hj=>?_
    refine k σ' r' (Stp.setv.trans st) (by rw[hl',Z0]) λj hn=>?_
    rw[hj j (λz=>hn (Jw _ z)),QaY (λz=>hn (by rw[z];exact Zt))]
theorem QtL{e:Q5}{n:Nat}{is:List Nat}(h:PG X e (Qy9 X.K n (gNs is)))(hn:is.length=n:=by rfl):PG X e (tG is X.K (gTN is)):=PG.imp h λv σ H Q ⟨F,δ,d,R,rel,dv,hw,k⟩=>by
 unfold gTN at hw;split at hw
 ·obtain⟨hl,hR⟩:=hw;cases dv with
  |@tup a xs ds na e q=>
   exact⟨a,xs,rfl,SqT.of e,by rw[q.length,hl,hn],Qj8 is xs _ σ δ hl rel q λσ' r' st hl' hj=>k _ hR σ' r' st hl' hj⟩
 ·exact hw.elim
def ItD(A S:Addr->Prop)(J:It)(items:List Qb)(H1:Hp):Prop:=items.length<=sizeLine/\∀(H2:Hp)(A':Addr->Prop),(∀b o,S b->H1 b=some o->H2 b=some o)->(∀b,A' b->A b∨H1 b=none)->(∀a,A' a->∃xs,H2 a=some (.lst xs)) ->
 (∀(i:Nat) d,items[i]? = some d->J.go i H2/\∀x H3,J.yld i H2 x H3->Same H2 H3/\DA A' H3 x d)/\J.stop items.length H2
def Sx(m:Md)(F:Fm)(σ:L2.St)(δ:Sts)(b:Addr):Prop:=
 match m with
 |.P=>¬Qai σ δ b
 |_=>¬Av F σ δ b
abbrev DI:=Sts->(List Qb->Prop)->XP->Prop
def tI(m:Md)(K:PySem.W.Frag)(E:XK)(w:DI):TI:=λσ H R=>∃(F:Fm)(δ:Sts)(R':List Qb->Prop)(EX:XP),Rel K F σ H δ/\w δ R' EX/\(∀items,R' items->∀J H',Rel K F σ H' δ->Kp σ δ H H'->ItD (Av F σ δ) (Sx m F σ δ) J items H'->R J H')/\Out F E EX
theorem PI.imp{tg e:Q5}{t t':TI}(h:PI X tg e t)(i:∀σ H R,QcD H->t' σ H R->t σ H R):PI X tg e t':=λpins s σ H R I q=>h pins s σ H R I (i σ H R (Inv.lens I) q)
theorem PI.len{tg e:Q5}{t:TI}(h:PI X tg e t):PI X tg e (λσ H R=>t σ H λJ H1=>QcD H1->R J H1):=λpins s σ H R I q=>by
 refine thn (h pins s σ H _ I q) λv s1 h1=>thn h1 λitv s2 h2=>?_
 obtain⟨it,fp,tn,J,H',e,I',T,t0,fo,hR⟩:=h2;exact⟨it,fp,tn,J,H',e,I',T,t0,fo,hR (Inv.lens I')⟩
def QzZ(w:DE):DI:=λδ Q EX=>w δ (λd=>match d with
 |.list ds=>Q ds
 |_=>False) EX
def QzY(w:DE):DI:=λδ Q EX=>w δ (λd=>match d with
 |.tuple ds=>Q ds
 |_=>False) EX
theorem Qbd{A S:Addr->Prop}{H H2:Hp}{A':Addr->Prop}{xs:List V}{ds:List Qb}(sA:∀b,¬A b->S b)(k:∀b o,S b->H b=some o->H2 b=some o)(m:∀b,A' b->A b∨H b=none)(q:DAs A H xs ds):DAs A' H2 xs ds:=q.mv (λa o n e=>k a o (sA a n) e) m
theorem Qy2{K:PySem.W.Frag}{A S:Addr->Prop}{H:Hp}{l:Addr}{xs:List V}{ds:List Qb}(sA:∀b,¬A b->S b)(sl:S l)(e:H l=some (.lst xs))(q:DAs A H xs ds)(ln:xs.length<=sizeLine):ItD A S (Itl K l) ds H:=by
 refine⟨by rw[<- q.length];exact ln,λH2 A' k m dm=>⟨λi d hd=>?_,xs,SqL.of (k _ _ sl e),by rw[q.length];exact Ql _⟩⟩;obtain⟨x,hx,dx⟩:=(Qbd sA k m q).get i d hd;refine⟨⟨xs,x,SqL.of (k _ _ sl e),hx⟩,λy H3 ⟨e3,hy⟩=>?_⟩;subst e3;have:=hy xs (SqL.of (k _ _ sl e));rw[hx] at this;cases this;exact⟨Same.refl _,dx⟩
theorem Qy0{K:PySem.W.Frag}{A S:Addr->Prop}{H:Hp}{l:Addr}{xs:List V}{ds:List Qb}(sA:∀b,¬A b->S b)(sl:S l)(e:H l=some (.tup xs))(q:DAs A H xs ds)(ln:xs.length<=sizeLine):ItD A S (Itt K l) ds H:=by
 refine⟨by rw[<- q.length];exact ln,λH2 A' k m dm=>⟨λi d hd=>?_,xs,SqT.of (k _ _ sl e),by rw[q.length];exact Ql _⟩⟩;obtain⟨x,hx,dx⟩:=(Qbd sA k m q).get i d hd;refine⟨⟨xs,x,SqT.of (k _ _ sl e),hx⟩,λy H3 ⟨e3,hy⟩=>?_⟩;subst e3;have:=hy xs (SqT.of (k _ _ sl e));rw[hx] at this;cases this;exact⟨Same.refl _,dx⟩
theorem Qfk{m:Md}{F:Fm}{σ:L2.St}{δ:Sts}{b:Addr}(h:¬Av F σ δ b):Sx m F σ δ b:=by
 cases m
 ·exact h
 ·exact λz=>h (Qaz z)
 ·exact h
theorem stL{m:Md}{F:Fm}{σ:L2.St}{δ:Sts}{H H':Hp}{v:V}{ds:List Qb}(h:VD m (Av F σ δ) (Qai σ δ) H v (.list ds)):∃l xs,v=.ref l/\Sx m F σ δ l/\H l=some (.lst xs)/\DAs (Av F σ δ) H xs ds:=by
 cases m
 ·cases h with | @lst a xs _ n e q=>exact⟨a,xs,rfl,n,e,q⟩
 ·rcases h with h | ⟨l,xs,ds',rfl,e,n,e2,q⟩
  ·cases h with | @lst a xs _ n e q=>exact⟨a,xs,rfl,Qfk n,e,q⟩
  ·cases e;exact⟨l,xs,rfl,n,e2,q⟩
 ·cases h with | @lst a xs _ n e q=>exact⟨a,xs,rfl,n,e,q⟩
theorem stT{m:Md}{F:Fm}{σ:L2.St}{δ:Sts}{H H':Hp}{v:V}{ds:List Qb}(h:VD m (Av F σ δ) (Qai σ δ) H v (.tuple ds)):∃l xs,v=.ref l/\Sx m F σ δ l/\H l=some (.tup xs)/\DAs (Av F σ δ) H xs ds:=by
 cases m
 ·cases h with | @tup a xs _ n e q=>exact⟨a,xs,rfl,n,e,q⟩
 ·rcases h with h | ⟨l,xs,ds',rfl,e,n,e2,q⟩
  ·cases h with | @tup a xs _ n e q=>exact⟨a,xs,rfl,Qfk n,e,q⟩
  ·cases e
 ·cases h with | @tup a xs _ n e q=>exact⟨a,xs,rfl,n,e,q⟩
theorem QdQ{m:Md}{F:Fm}{σ:L2.St}{δ:Sts}{H H':Hp}{v:V}{d:Qb}(h:Vok m F σ δ H H' v d):VD m (Av F σ δ) (Qai σ δ) H' v d:=by
 cases m
 ·exact h
 ·exact h
 ·exact h.1
variable{m:Md}{tg e e':Q5}{w w':DE}{p pos tpos:Pos}
theorem QpQ(h:PE X e (tX m X.K E w)):PI X tg e (tI m X.K E (QzZ w)):=by
 refine PI.imp (PI.len (Qtp h)) λσ H R _ ⟨F,δ,R',EX,rel,hw,k,o⟩=>?_
 refine⟨F,δ,_,EX,rel,hw,λd hd v H' rel' kp vk=>?_,o⟩;cases d<;>first | exact(show False from hd).elim | skip
 obtain⟨l,xs,rfl,sl,e,q⟩:=stL (H':=H') (QdQ vk);exact⟨l,rfl,⟨xs,SqL.of e⟩,λln=>k _ hd _ H' rel' kp (Qy2 (λb=>Qfk) sl e q (ln _ _ (.inl e)))⟩
theorem QtK(h:PE X e (tX m X.K E w)):PI X tg e (tI m X.K E (QzY w)):=by
 refine PI.imp (PI.len (QvX h)) λσ H R _ ⟨F,δ,R',EX,rel,hw,k,o⟩=>?_
 refine⟨F,δ,_,EX,rel,hw,λd hd v H' rel' kp vk=>?_,o⟩;cases d<;>first | exact(show False from hd).elim | skip
 obtain⟨l,xs,rfl,sl,e,q⟩:=stT (H':=H') (QdQ vk);exact⟨l,rfl,⟨xs,SqT.of e⟩,λln=>k _ hd _ H' rel' kp (Qy0 (λb=>Qfk) sl e q (ln _ _ (.inr e)))⟩
def QjG(lo:Int)(n:Nat):List Qb:=(JX n).map λ(i:Nat)=>.int (lo+i)
theorem QeJ{lo:Int}{n i:Nat}{d:Qb}(h:(QjG lo n)[i]? = some d):i<n/\d=.int (lo+i):=by
 unfold QjG at h;rw[QD] at h;by_cases z:i<n
 ·rw[Zk z] at h;exact⟨z,(Qw h).symm⟩
 ·rw[Jn (by rw[JN];omega)] at h;cases h
theorem QiH{lo:Int}{n:Nat}:(QjG lo n).length=n:=by unfold QjG;rw[Qh,JN]
theorem Qy1{A S:Addr->Prop}{H:Hp}{lo:Int}{n:Nat}(hn:n<=1000000):ItD A S (Itr lo n) (QjG lo n) H:=by
 refine⟨by rw[QiH];exact QQ hn Qi2,λH2 A' k m dm=>⟨λi d hd=>?_,by rw[QiH];exact Ql _⟩⟩;obtain⟨hi,rfl⟩:=QeJ hd;exact⟨hi,λx H3 ⟨e1,e2⟩=>by subst e1 e2;exact⟨Same.refl _,.int _⟩⟩
def Qxg(w:DE):DI:=λδ Q EX=>w δ (λd=>match d with
 |.int j=>(-1000000<=j/\j<=1000000)/\Q (QjG 0 j.toNat)
 |_=>False) EX
theorem QpP(hg:Gl X "range")(hm:X.mg "range" = none)(h:PE X e (tX .P X.K E w))(hs:notStar e=true:=by rfl):PI X tg (.Call (.Name "range" p) [e] [] pos) (tI m X.K E (Qxg w)):=by
 refine PI.imp (QhI hg hm (Qcy h J3 hs) (by rw[ZZ hs];rfl)) λσ H R _ ⟨F,δ,R',EX,rel,hw,k,o⟩=>?_
 refine⟨F,δ,_,EX,rel,hw,λd hd v H' rel' kp vk=>?_,o⟩;cases d<;>first | exact(show False from hd).elim | skip
 obtain⟨⟨h1,h2⟩,hR⟩:=hd;rw[DP.int vk];exact⟨_,rfl,by omega,by omega,k _ hR _ H' rel' kp (Qy1 (by omega))⟩
theorem QgB{A':Addr->Prop}{H2:Hp}{r:Addr}{x y:V}{d d':Qb}(dm:∀a,A' a->∃xs,H2 a=some (.lst xs))(n:H2 r=none)(q:DA A' H2 x d)(q':DA A' H2 y d'):DA A' (upd H2 r (.tup [x,y])) (.ref r) (.tuple [d,d']):=
 .tup (λz=>by obtain⟨xs,e⟩:=dm r z;rw[n] at e;cases e) JK (.cons (q.same (Jy n)) (.cons (q'.same (Jy n)) .nil))
def Qi7(ds:List Qb):List Qb:=(JX ds.length).map λ(i:Nat)=>.tuple [.int i,ds.getD i .none]
theorem Qes{ds:List Qb}{i:Nat}{d:Qb}(h:(Qi7 ds)[i]? = some d):∃e,ds[i]? = some e/\d=.tuple [.int i,e]:=by
 unfold Qi7 at h;rw[QD] at h;by_cases z:i<ds.length
 ·rw[Zk z] at h;refine⟨ds[i],Qf z,?_⟩;rw[<- Qw h];show Yd [.int i,ds.getD i .none]=_;rw[JE,Qf z];rfl
 ·rw[Jn (by rw[JN];omega)] at h;cases h
theorem Qcg{ds:List Qb}:(Qi7 ds).length=ds.length:=by unfold Qi7;rw[Qh,JN]
def Qz2(w:DE):DI:=λδ Q EX=>w δ (λd=>match d with
 |.list ds=>Q (Qi7 ds)
 |_=>False) EX
def Qz1(w:DE):DI:=λδ Q EX=>w δ (λd=>match d with
 |.tuple ds=>Q (Qi7 ds)
 |_=>False) EX
variable{elts:List Q5}
theorem QmR{x1}(hg:Gl X "enumerate")(hm:X.mg "enumerate" = none)(h:PE X e (tX m X.K E w))(hs:notStar e=true:=by rfl):PI X (.Tuple elts x1 tpos) (.Call (.Name "enumerate" p) [e] [] pos) (tI m X.K E (Qz2 w)):=by
 refine PI.imp (PI.len (Qtq hg hm (Qcy h J3 hs) (by rw[ZZ hs];rfl))) λσ H R _ ⟨F,δ,R',EX,rel,hw,k,o⟩=>?_
 refine⟨F,δ,_,EX,rel,hw,λd hd v H' rel' kp vk=>?_,o⟩;cases d<;>first | exact(show False from hd).elim | skip
 obtain⟨l,xs,rfl,sl,e,q⟩:=stL (H':=H') (QdQ vk);refine⟨l,xs,rfl,e,λln=>k _ hd _ H' rel' kp ⟨by rw[Qcg,<- q.length];exact ln _ _ (.inl e),λH2 A' kk mm dm=>⟨λi d hd'=>?_,xs,kk _ _ sl e,by rw[Qcg,q.length];exact Ql _⟩⟩⟩;obtain⟨d',hd2,rfl⟩:=Qes hd';obtain⟨x,hx,dx⟩:=(Qbd (S:=Sx m F σ δ) (λb=>Qfk) kk mm q).get i d' hd2;refine⟨⟨xs,x,kk _ _ sl e,hx⟩,λy H3 ⟨r,x',nr,hx',e1,e2⟩=>?_⟩;subst e1 e2;have:=hx' xs (kk _ _ sl e);rw[hx] at this;cases this;exact⟨Jy nr,QgB dm nr (.int _) dx⟩
theorem QmQ{x1}(hg:Gl X "enumerate")(hm:X.mg "enumerate" = none)(h:PE X e (tX m X.K E w))(hs:notStar e=true:=by rfl):PI X (.Tuple elts x1 tpos) (.Call (.Name "enumerate" p) [e] [] pos) (tI m X.K E (Qz1 w)):=by
 refine PI.imp (PI.len (Qps hg hm (Qcy h J3 hs) (by rw[ZZ hs];rfl))) λσ H R _ ⟨F,δ,R',EX,rel,hw,k,o⟩=>?_
 refine⟨F,δ,_,EX,rel,hw,λd hd v H' rel' kp vk=>?_,o⟩;cases d<;>first | exact(show False from hd).elim | skip
 obtain⟨l,xs,rfl,sl,e,q⟩:=stT (H':=H') (QdQ vk);refine⟨l,xs,rfl,e,λln=>k _ hd _ H' rel' kp ⟨by rw[Qcg,<- q.length];exact ln _ _ (.inr e),λH2 A' kk mm dm=>⟨λi d hd'=>?_,xs,kk _ _ sl e,by rw[Qcg,q.length]⟩⟩⟩;obtain⟨d',hd2,rfl⟩:=Qes hd';obtain⟨x,hx,dx⟩:=(Qbd (S:=Sx m F σ δ) (λb=>Qfk) kk mm q).get i d' hd2;refine⟨⟨xs,x,kk _ _ sl e,hx⟩,λy H3 ⟨r,x',nr,hx',e1,e2⟩=>?_⟩;subst e1 e2;have:=hx' xs (kk _ _ sl e);rw[hx] at this;cases this;exact⟨Jy nr,QgB dm nr (.int _) dx⟩
def QkH(ds es:List Qb):List Qb:=List.zipWith (λd e=>.tuple [d,e]) ds es
theorem zip_get{ds es:List Qb}{i:Nat}{d:Qb}(h:(QkH ds es)[i]? = some d):∃a b,ds[i]? = some a/\es[i]? = some b/\d=.tuple [a,b]:=by
 unfold QkH at h;rw[List.getElem?_zipWith] at h;cases h1:ds[i]? with
 |none=>rw[h1] at h;cases h
 |some a=>
  cases h2:es[i]? with
  |none=>rw[h1,h2] at h;cases h
  |some b=>rw[h1,h2] at h;exact⟨a,b,rfl,rfl,(Qw h).symm⟩
theorem Qgd{ds es:List Qb}:(QkH ds es).length=min ds.length es.length:=by unfold QkH;rw[List.length_zipWith]
def QzQ(w w':DE):DI:=λδ Q EX=>w δ (λd=>w' δ (λd'=>match d,d' with
 |.list ds,.list es=>Q (QkH ds es)
 |_,_=>False) EX) EX
def QzP(w w':DE):DI:=λδ Q EX=>w δ (λd=>w' δ (λd'=>match d,d' with
 |.tuple ds,.tuple es=>Q (QkH ds es)
 |_,_=>False) EX) EX
theorem QpO{x1}(hg:Gl X "zip")(hm:X.mg "zip" = none)(h:PE X e (tX m X.K E w))(h':PE X e' (tX m X.K E w'))(hs:notStar e=true:=by rfl)(hs':notStar e'=true:=by rfl):PI X (.Tuple elts x1 tpos) (.Call (.Name "zip" p) [e,e'] [] pos) (tI m X.K E (QzQ w w')):=by
 refine PI.imp (PI.len (QmH hg hm (Qcy h (Qcy h' J3 hs') hs) (by rw[ZZ hs,ZZ hs'];rfl) (hs2:=by rw[ZZ hs'];rfl))) λσ H R _ ⟨F,δ,R',EX,rel,hw,k,o⟩=>?_
 refine⟨F,δ,_,EX,rel,hw,λd hd v H1 rel1 kp1 vk=>⟨F,δ,_,EX,rel1,hd,λd2 hd2 v2 H2 rel2 kp2 vk2=>?_,o⟩,o⟩;cases d<;>cases d2<;>first | exact(show False from hd2).elim | skip
 obtain⟨l,xs,rfl,sl,e,q⟩:=stL (H':=H2) (kp2.vd (QdQ vk));obtain⟨l2,ys,rfl,sl2,e2,q2⟩:=stL (H':=H2) (QdQ vk2);refine⟨l,l2,xs,ys,rfl,e,e2,λln=>k _ hd2 _ H2 rel2 (kp1.trans kp2) ⟨?_,λH3 A' kk mm dm=>⟨λi d hd'=>?_,xs,ys,kk _ _ sl e,kk _ _ sl2 e2,by rw[Qgd,q.length,q2.length];omega⟩⟩⟩
 ·rw[Qgd,<- q.length];exact QQ (Qu4 _ _) (ln _ _ (.inl e))
 obtain⟨a,b,ha,hb,rfl⟩:=zip_get hd';obtain⟨x,hx,dx⟩:=(Qbd (S:=Sx m F σ δ) (λb=>Qfk) kk mm q).get i a ha;obtain⟨y,hy,dy⟩:=(Qbd (S:=Sx m F σ δ) (λb=>Qfk) kk mm q2).get i b hb;refine⟨⟨xs,ys,x,y,kk _ _ sl e,kk _ _ sl2 e2,hx,hy⟩,λz H4 ⟨r,x',y',nr,hx',hy',e1,e3⟩=>?_⟩;subst e1 e3;have h1:=hx' xs (kk _ _ sl e);have h2:=hy' ys (kk _ _ sl2 e2);rw[hx] at h1;rw[hy] at h2;cases h1;cases h2;exact⟨Jy nr,QgB dm nr dx dy⟩
theorem QpN{x1}(hg:Gl X "zip")(hm:X.mg "zip" = none)(h:PE X e (tX m X.K E w))(h':PE X e' (tX m X.K E w'))(hs:notStar e=true:=by rfl)(hs':notStar e'=true:=by rfl):PI X (.Tuple elts x1 tpos) (.Call (.Name "zip" p) [e,e'] [] pos) (tI m X.K E (QzP w w')):=by
 refine PI.imp (PI.len (Qsa hg hm (Qcy h (Qcy h' J3 hs') hs) (by rw[ZZ hs,ZZ hs'];rfl) (hs2:=by rw[ZZ hs'];rfl))) λσ H R _ ⟨F,δ,R',EX,rel,hw,k,o⟩=>?_
 refine⟨F,δ,_,EX,rel,hw,λd hd v H1 rel1 kp1 vk=>⟨F,δ,_,EX,rel1,hd,λd2 hd2 v2 H2 rel2 kp2 vk2=>?_,o⟩,o⟩;cases d<;>cases d2<;>first | exact(show False from hd2).elim | skip
 obtain⟨l,xs,rfl,sl,e,q⟩:=stT (H':=H2) (kp2.vd (QdQ vk));obtain⟨l2,ys,rfl,sl2,e2,q2⟩:=stT (H':=H2) (QdQ vk2);refine⟨l,l2,xs,ys,rfl,e,e2,λln=>k _ hd2 _ H2 rel2 (kp1.trans kp2) ⟨?_,λH3 A' kk mm dm=>⟨λi d hd'=>?_,xs,ys,kk _ _ sl e,kk _ _ sl2 e2,by rw[Qgd,q.length,q2.length];omega⟩⟩⟩
 ·rw[Qgd,<- q.length];exact QQ (Qu4 _ _) (ln _ _ (.inr e))
 obtain⟨a,b,ha,hb,rfl⟩:=zip_get hd';obtain⟨x,hx,dx⟩:=(Qbd (S:=Sx m F σ δ) (λb=>Qfk) kk mm q).get i a ha;obtain⟨y,hy,dy⟩:=(Qbd (S:=Sx m F σ δ) (λb=>Qfk) kk mm q2).get i b hb;refine⟨⟨xs,ys,x,y,kk _ _ sl e,kk _ _ sl2 e2,hx,hy⟩,λz H4 ⟨r,x',y',nr,hx',hy',e1,e3⟩=>?_⟩;subst e1 e3;have h1:=hx' xs (kk _ _ sl e);have h2:=hy' ys (kk _ _ sl2 e2);rw[hx] at h1;rw[hy] at h2;cases h1;cases h2;exact⟨Jy nr,QgB dm nr dx dy⟩
end
def QuG:Option Sl->Sl
 |some (.v d)=>.v d
 |some (.own ds)=>.pk ds
 |some (.pk ds)=>.pk ds
 |some .pot=>.pot
 |_=>.no
def Qjf(cap:List (Option Nat))(δ:Sts):Sts:=cap.map λo=>match o with
 |none=>.no
 |some j=>QuG δ[j]?
theorem Qko{cap:List (Option Nat)}{σ:L2.St}{i:Nat}{o:Option V}(h:(Qhb cap σ)[i]? = some o):(cap[i]? = some none/\o=none)∨∃j,cap[i]? = some (some j)/\o=(σ[j]?).getD none:=by
 unfold Qhb at h;rw[QD] at h;obtain⟨c,hc,rfl⟩:=Zx.mp h;cases c with
 |none=>exact .inl ⟨hc,rfl⟩
 |some j=>exact .inr ⟨j,hc,rfl⟩
theorem QrE{cap:List (Option Nat)}{δ:Sts}{i:Nat}{x:Sl}(h:(Qjf cap δ)[i]? = some x):(cap[i]? = some none/\x=.no)∨∃j,cap[i]? = some (some j)/\x=QuG δ[j]? := by
 unfold Qjf at h;rw[QD] at h;obtain⟨c,hc,rfl⟩:=Zx.mp h;cases c with
 |none=>exact .inl ⟨hc,rfl⟩
 |some j=>exact .inr ⟨j,hc,rfl⟩
theorem Qbi{cap:List (Option Nat)}{σ:L2.St}{δ:Sts}{i:Nat}{o:Option V}{x:Sl}(h1:(Qhb cap σ)[i]? = some o)(h2:(Qjf cap δ)[i]? = some x)(hx:x≠.no):∃(j:Nat)(y:Sl),δ[j]? = some y/\x=QuG (some y)/\o=(σ[j]?).getD none:=by
 rcases QrE h2 with⟨_,e⟩ | ⟨j,hj,e⟩
 ·exact absurd e hx
 ·rcases Qko h1 with⟨z,_⟩ | ⟨j',hj',e'⟩
  ·rw[hj] at z;cases z
  ·rw[hj] at hj';cases hj';cases e2:δ[j]? with
   |none=>rw[e2] at e;exact absurd e hx
   |some y=>exact⟨j,y,e2,by rw[e,e2],e'⟩
theorem QdL{cap:List (Option Nat)}{σ:L2.St}{δ:Sts}{a:Addr}(h:Qai (Qhb cap σ) (Qjf cap δ) a):Qai σ δ a:=by
 obtain⟨i,h1,h2⟩:=h;obtain⟨j,y,hy,e,eo⟩:=Qbi h1 h2 (λz=>by cases z);cases y<;>first | (cases e;done) | skip
 refine⟨j,?_,hy⟩;cases e2:σ[j]? with
 |none=>rw[e2] at eo;cases eo
 |some o'=>rw[e2] at eo;exact congrArg some eo.symm
def inF(A1:Addr->Prop)(cap:List (Option Nat))(σ:L2.St)(δ:Sts)(H:Hp):Fm:=⟨H,A1,Qai (Qhb cap σ) (Qjf cap δ)⟩
theorem Qso{A1:Addr->Prop}{cap:List (Option Nat)}{σ:L2.St}{δ:Sts}{H:Hp}(h:∀a,Qai σ δ a->A1 a){a:Addr}:Av (inF A1 cap σ δ H) (Qhb cap σ) (Qjf cap δ) a↔A1 a:=by
 constructor
 ·rintro(z | ⟨i,h1,h2⟩)
  ·exact z
  ·rcases h2 with h2 | ⟨ds,h2⟩
   ·exact h a (QdL ⟨i,h1,h2⟩)
   ·obtain⟨j,y,hy,e,eo⟩:=Qbi h1 h2 (λz=>by cases z);cases y<;>cases e
 ·exact .inl
theorem QwV{K:PySem.W.Frag}{F:Fm}{σ:L2.St}{δ:Sts}{H1 H3:Hp}{A1:Addr->Prop}{cap:List (Option Nat)}(rel:Rel K F σ H1 δ)(hA:∀a,Av F σ δ a->A1 a)(hN:∀a,A1 a->Av F σ δ a∨H1 a=none)
  (dm:∀a,A1 a->∃xs,H3 a=some (.lst xs))(kp:Kp σ δ H1 H3):Rel K (inF A1 cap σ δ H3) (Qhb cap σ) H3 (Qjf cap δ) where
 len:=by unfold Qhb Qjf;rw[Qh,Qh]
 dom:=dm
 dom0:=dm
 pt0:=λp hp=>⟨hA p (Qaz (QdL hp)),kp.2 p (QdL hp)⟩
 kx:=λb o _ e=>e
 sl:=λi o x h1 h2=>by
  have iv:∀{a:Addr},Av (inF A1 cap σ δ H3) (Qhb cap σ) (Qjf cap δ) a->A1 a:=λ{a}=>(Qso λa z=>hA a (Qaz z)).mp
  have mv:∀{v:V}{d:Qb},DA (Av F σ δ) H1 v d->DA (Av (inF A1 cap σ δ H3) (Qhb cap σ) (Qjf cap δ)) H3 v d:=λq=>q.mv (λa o n e=>kp.1 a o (λz=>n (Qaz z)) e) λa z=>hN a (iv z)
  have mvs:∀{v:List V}{d:List Qb},DAs (Av F σ δ) H1 v d->DAs (Av (inF A1 cap σ δ H3) (Qhb cap σ) (Qjf cap δ)) H3 v d:=λq=>q.mv (λa o n e=>kp.1 a o (λz=>n (Qaz z)) e) λa z=>hN a (iv z)
  cases x with
  |no=>trivial
  |own ds=>
   obtain⟨j,y,hy,e,eo⟩:=Qbi h1 h2 (λz=>by cases z);cases y<;>cases e
  |scr=>
   obtain⟨j,y,hy,e,eo⟩:=Qbi h1 h2 (λz=>by cases z);cases y<;>cases e
  |v d=>
   obtain⟨j,y,hy,e,eo⟩:=Qbi h1 h2 (λz=>by cases z);cases y<;>first | (cases e;done) | skip
   cases e;obtain⟨x,hx⟩:=rel.lt hy;obtain⟨v,rfl,q⟩:=rel.sl j _ _ hx hy;rw[hx] at eo;exact⟨v,eo,mv q⟩
  |pk ds=>
   obtain⟨j,y,hy,e,eo⟩:=Qbi h1 h2 (λz=>by cases z);cases y<;>first | (cases e;done) | skip
   ·cases e;obtain⟨x,hx⟩:=rel.lt hy;obtain⟨l,xs,rfl,e,q,f⟩:=rel.sl j _ _ hx hy;rw[hx] at eo;have np:=rel.own_pot hy hx;exact⟨l,xs,eo,kp.1 _ _ np e,mvs q,xs,kp.1 _ _ np e,λz=>np (QdL z)⟩
   ·cases e;obtain⟨x,hx⟩:=rel.lt hy;obtain⟨l,xs,rfl,e,q,ys,f,f2⟩:=rel.sl j _ _ hx hy;rw[hx] at eo;have np:¬Qai σ δ l:=by
     rintro⟨j,j1,j2⟩;obtain⟨p,m,e1,_,w⟩:=rel.sl j _ _ j1 j2;cases e1;rcases w with w | w
     ·exact f2 w
     ·rw[w] at f;cases f
    exact⟨l,xs,eo,kp.1 _ _ np e,mvs q,xs,kp.1 _ _ np e,λz=>np (QdL z)⟩
  |pot=>
   obtain⟨j,y,hy,e,eo⟩:=Qbi h1 h2 (λz=>by cases z);cases y<;>first | (cases e;done) | skip
   obtain⟨x,hx⟩:=rel.lt hy;obtain⟨p,n,rfl,e,q⟩:=rel.sl j _ _ hx hy;rw[hx] at eo;obtain⟨m,em⟩:=kp.2 p ⟨j,hx,hy⟩;have eo':o=some (.ref p):=eo;subst eo';exact⟨p,m,rfl,em,.inl ⟨i,h1,h2⟩⟩
 inj:=λi j a ds h1 h2 _=>by
  obtain⟨j,y,hy,e,eo⟩:=Qbi h2 h1 (λz=>by cases z);cases y<;>cases e
theorem QsP:∀{σ σ':L2.St},σ'.length=σ.length->(∀(i:Nat) v,σ[i]? = some (some v)->σ'[i]? = some (some v))->Wk σ σ'
 |[],[],_,_=>trivial
 |[],_::_,h,_=>by cases h
 |_::_,[],h,_=>by cases h
 |none::a,x::b,h,g=>QsP (σ:=a) (σ':=b) (by simpa using h) λi v e=>by simpa using g (i+1) v (by simpa using e)
 |some u::a,x::b,h,g=>by
  have h0:=g 0 u rfl;simp only[Qjn,Option.some.injEq] at h0;subst h0;exact⟨rfl,QsP (σ:=a) (σ':=b) (by simpa using h) λi v e=>by simpa using g (i+1) v (by simpa using e)⟩
def Qlh(cap:List (Option Nat))(ix:List Nat):Bool:=ix.all λi=>match cap[i]? with
 |some none=>true
 |_=>false
theorem Qxq{cap:List (Option Nat)}{ix:List Nat}(hf:Qlh cap ix=true){σ σ4:L2.St}(hl:σ4.length=(Qhb cap σ).length)(hj:∀j,j∉ix->σ4[j]? = (Qhb cap σ)[j]?):Wk (Qhb cap σ) σ4:=by
 refine QsP hl λi v e=>?_
 by_cases z:i∈ix
 ·have:=Zw.mp hf i z;rcases Qko e with⟨_,e2⟩ | ⟨j,hj2,_⟩
  ·cases e2
  ·rw[hj2] at this;cases this
 ·rw[hj i z];exact e
def XF:XP:=λ_=>False
@[irreducible] def Qjj(items:List Qb)(wg:DG)(wt:DT)(we:DE)(δ:Sts)(Q:Qb->Prop):Prop:=∃Iv:Nat->List Qb->Prop,Iv 0 [] /\
 (∀(i:Nat) acc d,items[i]? = some d->Iv i acc->wg d δ λδ4=>wt δ4 (λb=>if b=true then we δ4 (λe=>Iv (i+1) (acc++[e])) XF else Iv (i+1) acc) XF)/\∀acc,Iv items.length acc->Q (.list acc)
def dComp(cap:List (Option Nat))(wi:DI)(wg:DG)(wt:DT)(we:DE):DE:=λδ Q EX=>wi δ (λitems=>Qjj items wg wt we (Qjf cap δ) Q) EX
def QxV:DT:=λ_ Q _=>Q true
section
variable{X:Cx}{E:XK}
theorem QpV{F:Fm}{E:XK}:Out F E XF:=λ_ z=>z.elim
theorem PTs.imp{es:List Q5}{t t':TT}(h:PTs X es t)(i:∀σ H Q,t' σ H Q->t σ H Q):PTs X es t':=λpins s σ H Q I q=>h pins s σ H Q I (i σ H Q q)
theorem QpC:PTs X [] (tT X.K E QxV):=PTs.imp QmC λσ H Q ⟨F,δ,R,EX,rel,hw,k,o⟩=>k _ hw H rel (Kp.refl rel)
theorem QpB{c:Q5}{t:DT}(h:PT X c (tT X.K E t)):PTs X [c] (tT X.K E t):=Qti h
theorem Qur{K:PySem.W.Frag}{A1:Addr->Prop}{cap:List (Option Nat)}{σ σ4:L2.St}{δ δ4:Sts}{H3 H4:Hp}(r:Rel K (inF A1 cap σ δ H3) σ4 H4 δ4)(hk:∀b o,¬Qai σ δ b->H4 b=some o->H3 b=none->False){b:Addr}(h:Qai σ4 δ4 b):Qai σ δ b:=by
 obtain⟨i,h1,h2⟩:=h;obtain⟨p,n,e,hp,w⟩:=r.sl i _ _ h1 h2;cases e;rcases w with w | w
 ·exact QdL w
 ·by_cases z:Qai σ δ b
  ·exact z
  ·exact(hk b _ z hp w).elim
theorem QlU{K:PySem.W.Frag}{F:Fm}{σ:L2.St}{δ:Sts}{H1 H3:Hp}{cap:List (Option Nat)}{ix:List Nat}{wg:DG}{wt:DT}{A1:Addr->Prop}{x:V}{d:Qb}{inner:L2.St->Hp->(Hp->Prop)->Prop}{kk:Hp->Prop}{T:Sts->Prop}{N:Prop}
  (hf:Qlh cap ix=true)(rel:Rel K F σ H1 δ)(hA:∀a,Av F σ δ a->A1 a)(hN:∀a,A1 a->Av F σ δ a∨H1 a=none)(dm:∀a,A1 a->∃xs,H3 a=some (.lst xs))(kp:Kp σ δ H1 H3)(dx:DA A1 H3 x d)
  (h:wg d (Qjf cap δ) λδ4=>wt δ4 (λb=>if b=true then T δ4 else N) XF)
  (hT:∀σ4 δ4 H5,T δ4->Rel K (inF A1 cap σ δ H3) σ4 H5 δ4->Kp σ δ H3 H5->(∀b,Qai σ4 δ4 b->Qai σ δ b)->inner σ4 H5 kk)(hF:N->∀H5,Kp σ δ H3 H5->kk H5) :
  bOf (Qhb cap σ) (tG ix K wg) (tT K E0 wt) inner x H3 kk:=by
 have ri:=QwV (cap:=cap) rel hA hN dm kp;have iv:∀{a:Addr},Av (inF A1 cap σ δ H3) (Qhb cap σ) (Qjf cap δ) a->A1 a:=λ{a}=>(Qso λa z=>hA a (Qaz z)).mp
 refine⟨inF A1 cap σ δ H3,Qjf cap δ,d,_,ri,dx.mv (λ_ _ _ e=>e) λa z=>.inl (iv z),h,λδ4 h4 σ4 r4 st4 l4 j4=>⟨Qxq hf l4 j4,inF A1 cap σ δ H3,δ4,_,XF,r4,h4,λb hb H5 r5 kp5=>?_,QpV⟩⟩;have pots:∀{b:Addr},Qai σ4 δ4 b->Qai σ δ b:=λz=>Qur r4 (λb o _ e1 e2=>by rw[e2] at e1;cases e1) z
 have K5:Kp σ δ H3 H5:=by
  refine⟨λb o n e=>kp5.1 b o (λz=>n (pots z)) e,λb hb=>?_⟩;by_cases z:Qai σ4 δ4 b
  ·exact kp5.2 b z
  ·obtain⟨n,e⟩:=kp.2 b hb;exact⟨n,kp5.1 _ _ z e⟩
 exact QdW hb (λz=>hT σ4 δ4 H5 z r5 K5 λb=>pots) λz=>hF z H5 K5
structure Lp (σ:L2.St) (δ:Sts) (A1:Addr->Prop) (p:Addr) (H1 H2:Hp) (acc:List Qb):Prop where
 kp:Kp σ δ H1 H2
 at_:∃ys,H2 p=some (.lst ys)/\DAs A1 H2 ys acc
theorem Lp.step{σ:L2.St}{δ:Sts}{A1:Addr->Prop}{p:Addr}{H1 H2 H3:Hp}{acc:List Qb}(hpA:∀a,Qai σ δ a->A1 a)(hpn:¬Qai σ δ p)(h:Lp σ δ A1 p H1 H2 acc)(k:Kp σ δ H2 H3):Lp σ δ A1 p H1 H3 acc:=by
 obtain⟨ys,e,q⟩:=h.at_;exact⟨h.kp.trans k,ys,k.1 _ _ hpn e,q.mv (λa o n e=>k.1 a o (λz=>n (hpA a z)) e) λa z=>.inl z⟩
theorem Qss{K:PySem.W.Frag}{σ σ4:L2.St}{δ δ4:Sts}{H1 H3 H5:Hp}{cap:List (Option Nat)}{we:DE}{A1:Addr->Prop}{p:Addr}{acc:List Qb}{kk:Hp->Prop}{G:Qb->Prop}
  (hpA:A1 p)(hP:∀a,Qai σ δ a->A1 a)(hp1:H1 p=none)(hpn:¬Qai σ δ p)(lp:Lp σ δ A1 p H1 H5 acc)(hl:acc.length<sizeLine)(r5:Rel K (inF A1 cap σ δ H3) σ4 H5 δ4)(pots:∀b,Qai σ4 δ4 b->Qai σ δ b)
  (h:we δ4 G XF)(hk:∀e,G e->∀H',Lp σ δ A1 p H1 H' (acc++[e])->kk H'):QxW p (tX .D K E0 we) σ4 H5 kk:=by
 refine⟨inF A1 cap σ δ H3,δ4,G,XF,r5,h,λe he v H6 r6 kp6 dv=>?_,QpV⟩;have k56:Kp σ δ H5 H6:=by
  refine⟨λb o n e=>kp6.1 b o (λz=>n (pots b z)) e,λb hb=>?_⟩;by_cases z:Qai σ4 δ4 b
  ·exact kp6.2 b z
  ·obtain⟨n,e⟩:=lp.kp.2 b hb;exact⟨n,kp6.1 _ _ z e⟩
 obtain⟨k6,ys,e6,q6⟩:=lp.step hP hpn k56;have up:∀{b:Addr}{o:HO},¬A1 b->H6 b=some o->upd H6 p (.lst (ys++[v])) b=some o:=λ{b o} n e=>by rw[J8 (λz=>n (by rw[z];exact hpA))];exact e
 refine⟨ys,e6,by rw[q6.length];exact hl,hk e he _ ⟨⟨λb o n e=>?_,λb hb=>?_⟩,ys++[v],JK,DAs.app (q6.mv (λ_ _=>up) λa z=>.inl z) (.cons (DA.mv dv (λa o n e=>up (λz=>n (.inl z)) e) λa z=>.inl (.inl z)) .nil)⟩⟩
 ·rw[J8 (λz=>by rw[z,hp1] at e;cases e)];exact k6.1 b o n e
 ·rw[J8 (λz=>hpn (by rw[<- z];exact hb))];exact k6.2 b hb
theorem QtP{M:List Str}{cap:List (Option Nat)}{elt tg iter:Q5}{ifs:List Q5}{scope:Qbk}{pos:Pos}{ix:List Nat}{wi:DI}{wg:DG}{wt:DT}{we:DE}(hc:X.calm=true)(ok:Qje X.N X.env.scope M scope cap=true)(hf:Qlh cap ix=true)
  (hi:PI X tg iter (tI .P X.K E wi))(hb:∀cl ex s3 H3 C,PG (blk X M scope cl ex s3 H3 C) tg (tG ix X.K wg)/\PTs (blk X M scope cl ex s3 H3 C) ifs (tT X.K E0 wt)/\PE (blk X M scope cl ex s3 H3 C) elt (tX .D X.K E0 we))
  (hs:∀x,foldedSetIterable iter X.env x=pure x:=by intro _;rfl):PE X (.ListComp elt [⟨tg,iter,ifs,0⟩] scope pos) (tX .F X.K E (dComp cap wi wg wt we)):=by
 refine PE.imp (QjQ hc ok hi hb hs) λσ H Q ⟨F,δ,R,EX,rel,hw,k,o⟩=>?_
 refine⟨F,δ,_,EX,rel,hw,λitems hC J H1 rel1 kp1 ⟨ln,it⟩ p hp=>?_,o⟩;unfold Qjj at hC;obtain⟨Iv,i0,step,fin⟩:=hC;have hpn:¬Qai σ δ p:=λz=>by obtain⟨xs,e⟩:=rel1.isl (Qaz (F:=F) z);rw[hp] at e;cases e
 let A1:Addr->Prop:=λa=>Av F σ δ a∨a=p
 have hP:∀a,Qai σ δ a->A1 a:=λa z=>.inl (Qaz z)
 have hN:∀a,A1 a->Av F σ δ a∨H1 a=none:=λa z=>z.elim .inl λz=>.inr (by rw[z];exact hp)
 have dmK:∀{H2:Hp},Kp σ δ H1 H2->(∃ys,H2 p=some (.lst ys))->∀a,A1 a->∃xs,H2 a=some (.lst xs):=λ{H2} k2 e2 a z=>by
  rcases z with z | z
  ·exact(rel1.kp k2).isl z
  ·rw[z];exact e2
 refine Qi0 items.length (λi H2=>i<=items.length/\∃acc,Iv i acc/\acc.length<=i/\Lp σ δ A1 p H1 H2 acc) ⟨QC _,[],i0,Ql _,Kp.same rel1 (Jy hp),[],JK,.nil⟩ (λi H2 hi ⟨_,acc,iv,hl,lp⟩=>?_) λH2 ⟨_,acc,iv,hl,lp⟩=>?_
 ·obtain⟨k2,ys,e2,q2⟩:=lp;obtain⟨go,_⟩:=it H2 A1 (λb o n e=>k2.1 b o n e) hN (dmK k2 ⟨ys,e2⟩);have hd:items[i]? = some items[i]:=Qf hi;obtain⟨g1,g2⟩:=go i _ hd;refine⟨g1,λx H3 y kk hk=>?_⟩;obtain⟨s3,dx⟩:=g2 x H3 y;have k23:=Kp.same (rel1.kp k2) s3;have lp3:Lp σ δ A1 p H1 H3 acc:=Lp.step hP hpn ⟨k2,ys,e2,q2⟩ k23;refine QlU hf rel1 (λa z=>.inl z) hN (dmK lp3.kp ⟨ys,s3 _ _ e2⟩) lp3.kp dx (step i acc _ hd iv) (λσ4 δ4 H5 h5 r5 k5 pots=>?_) λh5 H5 k5=>hk _ ⟨hi,acc,h5,by omega,lp3.step hP hpn k5⟩
  exact Qss (.inr rfl) hP hp hpn (lp3.step hP hpn k5) (by omega) r5 pots h5 λe he H' lp'=>hk _ ⟨hi,acc++[e],he,by rw[Qq];show _+1<=_;omega,lp'⟩
 ·obtain⟨k2,ys,e2,q2⟩:=lp;obtain⟨_,st⟩:=it H2 A1 (λb o n e=>k2.1 b o n e) hN (dmK k2 ⟨ys,e2⟩);refine⟨st,k _ (fin acc iv) (.ref p) H2 (rel1.kp k2) (kp1.trans k2) ⟨.lst (λz=>?_) e2 (q2.mv (λ_ _ _ e=>e) λa z=>.inl (.inl z)),λl e1 _=>?_⟩⟩
  ·obtain⟨xs,e⟩:=rel1.isl z;rw[hp] at e;cases e
  ·cases e1;exact Qcz kp1 hp
theorem Qlj{items:List Qb}{wg:DG}{wt:DT}{we:DE}{δ:Sts}{Q:Qb->Prop}(G:Qb->Option Qb)
  (h:∀d∈items,∀(k1:Prop)(k2:Qb->Prop),(G d=none->k1)->(∀e,G d=some e->k2 e)->wg d δ λδ4=>wt δ4 (λb=>if b=true then we δ4 k2 XF else k1) XF)(q:Q (.list (items.filterMap G))) :
  Qjj items wg wt we δ Q:=by
 unfold Qjj;refine⟨λi acc=>acc=(items.take i).filterMap G,by simp,λi acc d hd e=>?_,λacc e=>by rw[e,Ym];exact q⟩;have hs:(items.take (i+1)).filterMap G=(items.take i).filterMap G++(G d).toList:=by
  rw[QaJ,hd,List.filterMap_append];cases e2:G d<;>simp[e2]
 have e:acc=(items.take i).filterMap G:=e;refine h d (QV hd) _ _ (λe2=>?_) λe' e2=>?_
 ·show acc=(items.take (i+1)).filterMap G;rw[hs,e2,e];simp
 ·show acc++[e']=(items.take (i+1)).filterMap G;rw[hs,e2,e];rfl
theorem Qah{items:List Qb}{wg:DG}{we:DE}{δ:Sts}{Q:Qb->Prop}(G:Qb->Qb)
  (h:∀d∈items,∀(k2:Qb->Prop),k2 (G d)->wg d δ λδ4=>we δ4 k2 XF)(q:Q (.list (items.map G))) :
  Qjj items wg QxV we δ Q:=by
 unfold Qjj;refine⟨λi acc=>acc=(items.take i).map G,by simp,λi acc d hd e=>?_,λacc e=>by rw[e,Ym];exact q⟩;have hs:(items.take (i+1)).map G=(items.take i).map G++[G d]:=by
  rw[QaJ,hd,Jj];simp
 have e:acc=(items.take i).map G:=e;have hh:=h d (QV hd) (λe=>acc++[e]=(items.take (i+1)).map G) (by show acc++[G d]=_;rw[hs,e]);simp only[QxV,if_true];exact hh
end
mutual
theorem QnY{A B:Addr->Prop}{H:Hp}:∀(d d':Qb)(x:V),DA A H x d->DA B H x d'->d=d'
 |.none,d',_,.non,h=>by cases h;rfl
 |.bool _,d',_,.bl _,h=>by cases h;rfl
 |.int _,d',_,.int _,h=>by cases h;rfl
 |.str _,d',_,.str _ _,h=>by cases h;rfl
 |.tuple ds,d',_,.tup (xs:=xs) n e q,h=>by
  cases h with
  |@tup a ys es n' e' q'=>
   rw[e] at e';cases e';rw[QgV ds es xs q q']
  |@lst a ys es n' e' q'=>rw[e] at e';cases e'
  |@dct a n' e'=>rw[e] at e';cases e'
 |.list ds,d',_,.lst (xs:=xs) n e q,h=>by
  cases h with
  |@tup a ys es n' e' q'=>rw[e] at e';cases e'
  |@lst a ys es n' e' q'=>
   rw[e] at e';cases e';rw[QgV ds es xs q q']
  |@dct a n' e'=>rw[e] at e';cases e'
 |.dict _,d',_,.dct n e,h=>by
  cases h with
  |@tup a ys es n' e' q'=>rw[e] at e';cases e'
  |@lst a ys es n' e' q'=>rw[e] at e';cases e'
  |@dct a n' e'=>rfl
theorem QgV{A B:Addr->Prop}{H:Hp}:∀(ds es:List Qb)(xs:List V),DAs A H xs ds->DAs B H xs es->ds=es
 |[],es,_,.nil,h=>by cases h;rfl
 |d::ds,es,_,.cons q qs,h=>by
  cases h with
  |@cons x xs e es q' qs'=>rw[QnY d e _ q q',QgV ds es _ qs qs']
end
mutual
theorem Qxc{A:Addr->Prop}{H:Hp}{l:Addr}{rs:List Qb}(root:DA A H (.ref l) (.list rs)):∀(d:Qb)(x:V),sizeOf d<sizeOf (QaE rs)->DA A H x d->DA (λa=>A a∨a=l) H x d
 |.none,_,_,.non=>.non
 |.bool _,_,_,.bl _=>.bl _
 |.int _,_,_,.int _=>.int _
 |.str _,_,_,.str _ c=>.str _ c
 |.tuple ds,_,hs,.tup (a:=a) (xs:=xs) n e q=>.tup (λz=>z.elim n λz=>by subst z;cases root with | @lst _ ys _ n' e' q'=>(rw[e] at e';cases e')) e (QgW root ds xs (by simp at hs ⊢;omega) q)
 |.list ds,_,hs,.lst (a:=a) (xs:=xs) n e q=>.lst (λz=>z.elim n λz=>by
   subst z;have:=QnY _ _ _ root (.lst n e q);rw[this] at hs;omega) e (QgW root ds xs (by simp at hs ⊢;omega) q)
 |.dict _,_,hs,.dct (a:=a) n e=>.dct (λz=>z.elim n λz=>by subst z;cases root with | @lst _ ys _ n' e' q'=>(rw[e] at e';cases e')) e
theorem QgW{A:Addr->Prop}{H:Hp}{l:Addr}{rs:List Qb}(root:DA A H (.ref l) (.list rs)):∀(ds:List Qb)(xs:List V),sizeOf ds<sizeOf (QaE rs)->DAs A H xs ds->DAs (λa=>A a∨a=l) H xs ds
 |[],_,_,.nil=>.nil
 |d::ds,_,hs,.cons q qs=>.cons (Qxc root d _ (by simp at hs ⊢;omega) q) (QgW root ds _ (by simp at hs ⊢;omega) qs)
end
theorem DA.items{A:Addr->Prop}{H:Hp}{l:Addr}{ds:List Qb}(root:DA A H (.ref l) (.list ds)):∃xs,H l=some (.lst xs)/\DAs (λa=>A a∨a=l) H xs ds:=by
 have root':=root;cases root with
 |@lst _ xs _ n e q=>exact⟨xs,e,QgW root' ds xs (by simp) q⟩
structure Qc8 where
 nx:Sts->Prop
 rt:Qb->Prop
 rtF:Qb->Prop
 bk:Sts->Prop
 ct:Sts->Prop
 ex:XP
abbrev DS:=Qc8->Sts->Prop
structure Nx (K:PySem.W.Frag) (F:Fm) (σ:L2.St) (H:Hp) (δ:Sts) (R:Sts->Prop) (T:L2.St->Hp->Prop):Prop where
 go:∀δ',R δ'->∀σ' H',Rel K F σ' H' δ'->Stp F σ H δ σ' H' δ'->T σ' H'
structure Ends1 (K:PySem.W.Frag) (E:XK) (F:Fm) (σ:L2.St) (H:Hp) (δ:Sts) (DD:Qc8) (D:Ends):Prop where
 nx:Nx K F σ H δ DD.nx D.nx
 rt:∀d,DD.rt d->∀v H',Ke F H'->DA F.A0 H' v d->D.rt v H'
 rtF:∀d,DD.rtF d->∀v H',Ke F H'->DA F.A0 H' v d->FrV F.H0 H' v->D.rt v H'
 bk:Nx K F σ H δ DD.bk D.bk
 ct:Nx K F σ H δ DD.ct D.ct
 ex:Out F E DD.ex
def tS(K:PySem.W.Frag)(E:XK)(w:DS):TS:=λD σ H=>∃(F:Fm)(δ:Sts)(DD:Qc8),Rel K F σ H δ/\w DD δ/\Ends1 K E F σ H δ DD D
theorem Nx.step{K:PySem.W.Frag}{F:Fm}{σ σ1:L2.St}{H H1:Hp}{δ δ1:Sts}{R:Sts->Prop}{T:L2.St->Hp->Prop}(h:Nx K F σ H δ R T)(s:Stp F σ H δ σ1 H1 δ1):Nx K F σ1 H1 δ1 R T:=⟨λδ' hR σ' H' r st=>h.go δ' hR σ' H' r (s.trans st)⟩
theorem Ends1.step{K:PySem.W.Frag}{E:XK}{F:Fm}{σ σ1:L2.St}{H H1:Hp}{δ δ1:Sts}{DD:Qc8}{D:Ends}(h:Ends1 K E F σ H δ DD D)(s:Stp F σ H δ σ1 H1 δ1):Ends1 K E F σ1 H1 δ1 DD D:=⟨h.nx.step s,h.rt,h.rtF,h.bk.step s,h.ct.step s,h.ex⟩
section
variable{X:Cx}{E:XK}
theorem PS.imp{e:Z6}{t t':TS}(h:PS X e t)(i:∀D σ H,t' D σ H->t D σ H):PS X e t':=λpins s σ H D I q=>h pins s σ H D I (i D σ H q)
theorem PSs.imp{e:List Z6}{t t':TS}(h:PSs X e t)(i:∀D σ H,t' D σ H->t D σ H):PSs X e t':=λpins s σ H D I q=>h pins s σ H D I (i D σ H q)
def QzS(a b:DS):DS:=λD δ=>a { D with nx:=b D } δ
def Quw:DS:=λD δ=>D.nx δ
theorem QpD:PSs X [] (tS X.K E Quw):=PSs.imp Qcx λD σ H ⟨F,δ,DD,rel,hw,en⟩=>en.nx.go δ hw σ H rel Stp.refl
theorem QtB{st:Z6}{w:DS}(h:PS X st (tS X.K E w)):PSs X [st] (tS X.K E w):=Qaf h
theorem QpJ{st:Z6}{rest:List Z6}{w w':DS}(h:PS X st (tS X.K E w))(h':PSs X rest (tS X.K E w')):PSs X (st::rest) (tS X.K E (QzS w w')):=by
 refine PSs.imp (ZM h h') λD σ H ⟨F,δ,DD,rel,hw,en⟩=>?_
 exact⟨F,δ,_,rel,hw,⟨λδ' h' σ' H' r st=>⟨F,δ',DD,r,h',en.step st⟩⟩,en.rt,en.rtF,en.bk,en.ct,en.ex⟩
def Qzf(i:Nat)(we:DE):DS:=λD δ=>we δ (λd=>D.nx (δ.set i (.v d))) D.ex
def Qxf(i:Nat)(we:DE):DS:=λD δ=>we δ (λd=>match d with
 |.list ds=>D.nx (δ.set i (.own ds))
 |_=>False) D.ex
def Qxe(i:Nat)(we:DE):DS:=λD δ=>we δ (λd=>match d with
 |.list [.int _]=>D.nx (δ.set i .pot)
 |_=>False) D.ex
variable{i:Nat}{e:Q5}{st:Z6}{we wi:DE}
theorem QmO(h:PS X st (QsV (tX .D X.K E we) (Qfm i))):PS X st (tS X.K E (Qzf i we)):=by
 refine PS.imp h λD σ H ⟨F,δ,DD,rel,hw,en⟩=>?_
 refine⟨F,δ,_,DD.ex,rel,hw,λd hd v H' rel' kp vk=>?_,en.ex⟩;exact en.nx.go _ hd _ H' (rel'.setv vk) ((Stp.kp kp).trans Stp.setv)
theorem QsA{F:Fm}{σ:L2.St}{δ:Sts}{i:Nat}{l:Addr}{x:Sl}{a:Addr}(h:Av F (σ.set i (some (.ref l))) (δ.set i x) a):Av F σ δ a∨a=l:=by
 rcases h with h | ⟨j,h1,h2⟩
 ·exact .inl (.inl h)
 ·by_cases z:j=i
  ·subst z;cases set_eq h1;exact .inr rfl
  ·rw[QaY z] at h1 h2;exact .inl (.inr ⟨j,h1,h2⟩)
theorem Rel.seto{K:PySem.W.Frag}{F:Fm}{σ:L2.St}{H H':Hp}{δ:Sts}{l:Addr}{x:Sl}(r:Rel K F σ H δ)(r':Rel K F σ H' δ)(kp:Kp σ δ H H')(n:H l=none)(hx:∀A:Addr->Prop,(∀a,A a->Av F σ δ a∨H a=none)->(∀a,A a->Av F σ δ a∨a=l)->Qz6 K F H' A (some (.ref l)) x) :
  Rel K F (σ.set i (some (.ref l))) H' (δ.set i x)/\Stp F σ H δ (σ.set i (some (.ref l))) H' (δ.set i x):=by
 have nA:∀a,Av F (σ.set i (some (.ref l))) (δ.set i x) a->Av F σ δ a∨H a=none:=λa z=>(QsA z).elim .inl λz=>.inr (by rw[z];exact n)
 have kk:∀a o,¬Av F σ δ a->H a=some o->H' a=some o:=λa o m e=>kp.1 a o (λz=>m (Qaz z)) e
 refine⟨?_,⟨kk,nA⟩⟩;exact{
  len:=by rw[Z0,Z0];exact r.len
  dom:=r'.dom
  dom0:=r'.dom0
  pt0:=r'.pt0
  kx:=r'.kx
  sl:=λj o y h1 h2=>by
   by_cases z:j=i
   ·subst z;cases set_eq h1;cases set_eq h2;exact hx _ nA λa z=>QsA z
   ·rw[QaY z] at h1 h2;have h:=r.sl j o y h1 h2;have h':=r'.sl j o y h1 h2;cases y with
    |no=>trivial
    |v d=>obtain⟨v',e,q'⟩:=h;exact⟨v',e,q'.mv kk nA⟩
    |own ds=>obtain⟨l',xs,rfl,e2,q',f⟩:=h;exact⟨l',xs,rfl,kp.1 _ _ (r.own_pot h2 h1) e2,q'.mv kk nA,f⟩
    |pk ds=>
     obtain⟨l',xs,rfl,e2,q',ys,f,f2⟩:=h;refine⟨l',xs,rfl,kp.1 _ _ ?_ e2,q'.mv kk nA,ys,f,f2⟩;rintro⟨j,j1,j2⟩;obtain⟨p,m,e1,_,w⟩:=r.sl j _ _ j1 j2;cases e1;rcases w with w | w
     ·exact f2 w
     ·rw[w] at f;cases f
    |pot=>exact h'
    |scr=>exact h'
  inj:=λj k a ds h1 h2 ⟨h3,h4⟩=>by
   have ne:∀(k:Nat),k≠i->σ[k]? = some (some (.ref l))->(δ[k]? = some .pot∨∃ds,δ[k]? = some (.own ds))->False:=λk _ h3 h4=>by
    obtain⟨xs,e⟩:=r.isl (a:=l) (.inr ⟨k,h3,h4⟩);rw[n] at e;cases e
   by_cases z:j=i
   ·subst z;cases set_eq h2;by_cases z2:k=j
    ·exact z2.symm
    ·rw[QaY z2] at h3 h4;exact(ne k z2 h3 h4).elim
   ·rw[QaY z] at h1 h2;by_cases z2:k=i
    ·subst z2;cases set_eq h3;exact(ne j z h2 (.inr ⟨ds,h1⟩)).elim
    ·rw[QaY z2] at h3 h4;exact r.inj j k a ds h1 h2 ⟨h3,h4⟩ }
theorem QnH{K:PySem.W.Frag}{F:Fm}{σ:L2.St}{H:Hp}{δ:Sts}(r:Rel K F σ H δ){l:Addr}(n:H l=none):F.H0 l=none:=by
 cases e:F.H0 l with
 |none=>rfl
 |some o=>
  by_cases z:F.pt l
  ·obtain⟨_,m,e'⟩:=r.pt0 l z;rw[n] at e';cases e'
  ·rw[r.kx l o z e] at n;cases n
theorem QpF(h:PS X st (QsV (tX .F X.K E we) (Qfm i))):PS X st (tS X.K E (Qxf i we)):=by
 refine PS.imp h λD σ H ⟨F,δ,DD,rel,hw,en⟩=>?_
 refine⟨F,δ,_,DD.ex,rel,hw,λd hd v H' rel' kp ⟨vk,fr⟩=>?_,en.ex⟩;obtain⟨ds,rfl⟩:∃ds,d=.list ds:=by cases d<;>first | exact⟨_,rfl⟩ | exact(show False from hd).elim
 obtain⟨l,rfl⟩:∃l,v=.ref l:=by cases vk;exact⟨_,rfl⟩
 obtain⟨xs,e,q⟩:=DA.items vk;have n:=fr l rfl ⟨xs,e⟩;obtain⟨r2,st⟩:=rel.seto (i:=i) (x:=.own ds) rel' kp n λA hA hB=>⟨l,xs,rfl,e,q.mv (λ_ _ _ e=>e) λa z=>.inl (hB a z),QnH rel n⟩
 exact en.nx.go _ hd _ H' r2 st
theorem QpE(h:PS X st (QsV (tX .F X.K E we) (Qfm i))):PS X st (tS X.K E (Qxe i we)):=by
 refine PS.imp h λD σ H ⟨F,δ,DD,rel,hw,en⟩=>?_
 refine⟨F,δ,_,DD.ex,rel,hw,λd hd v H' rel' kp ⟨vk,fr⟩=>?_,en.ex⟩;split at hd
 ·cases vk with
  |@lst l xs ds na e q=>
   have n:=fr l rfl ⟨xs,e⟩;cases q with
   |cons q1 q2=>
    cases q1;cases q2;obtain⟨r2,st⟩:=rel.seto (i:=i) (x:=.pot) rel' kp n λA hA hB=>⟨l,_,rfl,e,.inr (QnH rel n)⟩
    exact en.nx.go _ hd _ H' r2 st
 ·exact hd.elim
def Qz3(we:DE)(wg:DG):DS:=λD δ=>we δ (λd=>wg d δ D.nx) D.ex
theorem QtI{ix:List Nat}{wg:DG}(h:PS X st (QsV (tX .D X.K E we) (tG ix X.K wg))):PS X st (tS X.K E (Qz3 we wg)):=by
 refine PS.imp h λD σ H ⟨F,δ,DD,rel,hw,en⟩=>?_
 refine⟨F,δ,_,DD.ex,rel,hw,λd hd v H' rel' kp vk=>?_,en.ex⟩;exact⟨F,δ,d,_,rel',vk,hd,λδ' h' σ' r' st' _ _=>en.nx.go _ h' _ H' r' ((Stp.kp kp).trans st')⟩
def Qzh(we:DE):DS:=λD δ=>we δ D.rt D.ex
def Qxh(we:DE):DS:=λD δ=>we δ D.rtF D.ex
theorem Qry{F:Fm}{σ:L2.St}{δ:Sts}{H:Hp}{v:V}{d:Qb}(h:DA (Av F σ δ) H v d):DA F.A0 H v d:=h.mv (λ_ _ _ e=>e) λa z=>.inl (.inl z)
theorem Qtz{e:Q5}{pos:Pos}(h:PE X e (tX .D X.K E we)):PS X (.Return (some e) pos) (tS X.K E (Qzh we)):=by
 refine PS.imp (Qa3 h) λD σ H ⟨F,δ,DD,rel,hw,en⟩=>?_
 exact⟨F,δ,_,DD.ex,rel,hw,λd hd v H' rel' kp vk=>en.rt d hd v H' rel'.ke (Qry vk),en.ex⟩
theorem QpH{e:Q5}{pos:Pos}(h:PE X e (tX .F X.K E we)):PS X (.Return (some e) pos) (tS X.K E (Qxh we)):=by
 refine PS.imp (Qa3 h) λD σ H ⟨F,δ,DD,rel,hw,en⟩=>?_
 exact⟨F,δ,_,DD.ex,rel,hw,λd hd v H' rel' kp vk=>en.rtF d hd v H' rel'.ke (Qry vk.1) λl e1 e2=>QnH rel (vk.2 l e1 e2),en.ex⟩
def Qux(i:Nat):DS:=λD δ=>match δ[i]? with
 |some (.own ds)=>D.rtF (.list ds)
 |some (.v d)=>D.rt d
 |_=>False
theorem QpG{e:Q5}{pos:Pos}(h:PE X e (Qhs i)):PS X (.Return (some e) pos) (tS X.K E (Qux i)):=by
 refine PS.imp (Qa3 h) λD σ H ⟨F,δ,DD,rel,hw,en⟩=>?_
 unfold Qux at hw;split at hw
 ·rename_i ds hd
  obtain⟨x,hx⟩:=rel.lt hd;obtain⟨l,xs,rfl,e,q,f⟩:=rel.sl i _ _ hx hd;refine⟨_,hx,en.rtF _ hw _ H rel.ke (.lst (λz=>?_) e (q.mv (λ_ _ _ e=>e) λa z=>.inl (.inl z))) λl' e1 _=>by cases e1;exact f⟩;obtain⟨ys,e'⟩:=rel.dom0 l z;rw[f] at e';cases e'
 ·rename_i d hd
  obtain⟨x,hx⟩:=rel.lt hd;obtain⟨v,rfl,q⟩:=rel.sl i _ _ hx hd;exact⟨v,hx,en.rt _ hw _ H rel.ke (Qry q)⟩
 ·exact hw.elim
def dIf(t:DT)(a b:DS):DS:=λD δ=>t δ (λc=>if c=true then a D δ else b D δ) D.ex
theorem Qv2{c:Q5}{a b:List Z6}{pos:Pos}{t:DT}{w w':DS}(hc:PT X c (tT X.K E t))(ha:PSs X a (tS X.K E w))(hb:PSs X b (tS X.K E w')):PS X (.If c a b pos) (tS X.K E (dIf t w w')):=by
 refine PS.imp (QiL hc ha hb) λD σ H ⟨F,δ,DD,rel,hw,en⟩=>?_
 exact⟨F,δ,_,DD.ex,rel,hw,λb hb H' rel' kp=>QdW hb (λz=>⟨F,δ,DD,rel',z,en.step (Stp.kp kp)⟩) λz=>⟨F,δ,DD,rel',z,en.step (Stp.kp kp)⟩,en.ex⟩
def Qzl(i:Nat)(rD:Qb->Qb->(Qb->Prop)->Prop)(we:DE):DS:=λD δ=>match δ[i]? with
 |some (.v d)=>we δ (λe=>rD d e (λz=>D.nx (δ.set i (.v z)))) D.ex
 |_=>False
theorem QtH{r:TIp}{rD:Qb->Qb->(Qb->Prop)->Prop}(hd:QrM r rD)(h:PS X st (Qzw i (tX .P X.K E we) (λx y H Q=>QcD H->r x y H Q))):PS X st (tS X.K E (Qzl i rD we)):=by
 refine PS.imp h λD σ H ⟨F,δ,DD,rel,hw,en⟩=>?_
 unfold Qzl at hw;split at hw
 ·rename_i d hd'
  obtain⟨x,hx⟩:=rel.lt hd';obtain⟨v,rfl,q⟩:=rel.sl i _ _ hx hd';refine⟨v,hx,F,δ,_,DD.ex,rel,hw,λe he y H' rel' kp yk ln=>?_,en.ex⟩;refine hd (Av F σ δ) (Qai σ δ) H' v y d e _ _ ln (λa ha=>rel'.isl ha) (.inl (kp.da q)) yk he λz hz u H2 s du=>?_
  exact en.nx.go _ hz _ H2 ((rel'.same s).setv du) (((Stp.kp kp).trans (Stp.kp (Kp.same rel' s))).trans Stp.setv)
 ·exact hw.elim
theorem QgD{g:Int->Int->Int}:QrM (ipI g) (ii0 λi j=>.int (g i j)):=λA P H x y d1 d2 R Q ln dm hx hy h k=>by
 cases d1<;>cases d2<;>first | exact h.elim | skip
 rw[hx.int,hy.int];exact⟨_,_,rfl,rfl,k _ h _ H (Same.refl H) (.int _)⟩
theorem PIp.len{op:QcN}{t:TIp}(h:PIp X op t):PIp X op (λx y H Q=>QcD H->t x y H Q):=λpins s σ H x y v u Q I rx ry q=>h pins s σ H x y v u Q I rx ry (q (Inv.lens I))
theorem Rel.mut{K:PySem.W.Frag}{F:Fm}{σ:L2.St}{H:Hp}{δ:Sts}(r:Rel K F σ H δ){l:Addr}{ds ds':List Qb}{ys:List V}(h:δ[i]? = some (.own ds))(hx:σ[i]? = some (some (.ref l)))(q:DAs (Av F σ δ) H ys ds') :
  Rel K F σ (upd H l (.lst ys)) (δ.set i (.own ds'))/\Stp F σ H δ σ (upd H l (.lst ys)) (δ.set i (.own ds')):=by
 have hl:Av F σ δ l:=.inr ⟨i,hx,.inr ⟨ds,h⟩⟩;obtain⟨l',xs0,e0,el,_,f⟩:=r.sl i _ _ hx h;cases e0;have lt:i < δ.length:=(Qx.mp h).1;have ge:(δ.set i (.own ds'))[i]? = some (.own ds'):=by rw[QaF lt]
 have kk:∀a o,¬Av F σ δ a->H a=some o->upd H l (.lst ys) a=some o:=λa o n e=>by rw[J8 (λz=>n (by rw[z];exact hl))];exact e
 have av:∀a,Av F σ (δ.set i (.own ds')) a->Av F σ δ a:=λa z=>by
  rcases z with z | ⟨j,h1,h2⟩
  ·exact .inl z
  ·by_cases z:j=i
   ·subst z;exact .inr ⟨j,h1,.inr ⟨ds,h⟩⟩
   ·rw[QaY z] at h2;exact .inr ⟨j,h1,h2⟩
 have up:∀{b:Addr}{o:HO},b≠l->H b=some o->upd H l (.lst ys) b=some o:=λn e=>by rw[J8 n];exact e
 refine⟨?_,⟨kk,λa z=>.inl (av a z)⟩⟩;exact{
  len:=by rw[Z0];exact r.len
  dom:=λa ha=>by
   by_cases z:a=l
   ·rw[z];exact⟨_,JK⟩
   ·obtain⟨xs,e⟩:=r.dom a ha;exact⟨xs,up z e⟩
  dom0:=r.dom0
  pt0:=λp hp=>by
   obtain⟨h1,n,e⟩:=r.pt0 p hp;refine⟨h1,n,up (λz=>?_) e⟩;obtain⟨xs,e'⟩:=r.dom0 p h1;rw[z,f] at e';cases e'
  kx:=λb o n e=>up (λz=>by rw[z,f] at e;cases e) (r.kx b o n e)
  sl:=λj o y h1 h2=>by
   by_cases z:j=i
   ·subst z;rw[ge] at h2;cases h2;rw[hx] at h1;cases h1;exact⟨l,ys,rfl,JK,q.mv kk λa z=>.inl (av a z),f⟩
   ·rw[QaY z] at h2;have hh:=r.sl j o y h1 h2;cases y with
    |no=>trivial
    |v d=>obtain⟨v',e,q'⟩:=hh;exact⟨v',e,q'.mv kk λa z=>.inl (av a z)⟩
    |own es=>
     obtain⟨l',xs,rfl,e2,q',f'⟩:=hh;exact⟨l',xs,rfl,up (λz2=>z (r.inj j i l' es h2 h1 ⟨by rw[z2];exact hx,.inr ⟨ds,h⟩⟩)) e2,q'.mv kk λa z=>.inl (av a z),f'⟩
    |pk es=>
     obtain⟨l',xs,rfl,e2,q',ys',f',f2⟩:=hh;exact⟨l',xs,rfl,up (λz2=>by rw[z2,f] at f';cases f') e2,q'.mv kk λa z=>.inl (av a z),ys',f',f2⟩
    |pot=>
     obtain⟨p,n,rfl,e2,w⟩:=hh;refine⟨p,n,rfl,up (λz2=>?_) e2,w⟩;subst z2;exact r.own_pot h hx ⟨j,h1,h2⟩
    |scr=>exact hh
  inj:=λj k a es h1 h2 ⟨h3,h4⟩=>by
   have h4':δ[k]? = some .pot∨∃ds,δ[k]? = some (.own ds):=by
    by_cases z:k=i
    ·subst z;exact .inr ⟨ds,h⟩
    ·rw[QaY z] at h4;exact h4
   by_cases z:j=i
   ·subst z;exact r.inj j k a ds h h2 ⟨h3,h4'⟩
   ·rw[QaY z] at h1;exact r.inj j k a es h1 h2 ⟨h3,h4'⟩ }
def Qzm(i:Nat)(we:DE):DS:=λD δ=>match δ[i]? with
 |some (.own ds)=>we δ (λd=>ds.length<1000000/\D.nx (δ.set i (.own (ds++[d])))) D.ex
 |_=>False
theorem QtJ(h:PS X st (QlY (tBM X.K "list" Qmv (Qhs i) (Qdk (tX .D X.K E we) QoU)))):PS X st (tS X.K E (Qzm i we)):=by
 refine PS.imp h λD σ H ⟨F,δ,DD,rel,hw,en⟩=>?_
 unfold Qzm at hw;split at hw
 ·rename_i ds hd
  obtain⟨x,hx⟩:=rel.lt hd;obtain⟨l,xs,rfl,e,q,f⟩:=rel.sl i _ _ hx hd;have np:=rel.own_pot hd hx;refine⟨.ref l,hx,.inl ⟨rfl,_,SqL.of e⟩,F,δ,_,DD.ex,rel,hw,λd ⟨hl,hn⟩ v H' rel' kp vk=>?_,en.ex⟩;have q':=kp.das q;refine⟨l,xs,v,rfl,rfl,kp.1 _ _ np e,Q1 (by rw[q.length];exact hl) Qi2,?_⟩;obtain⟨r2,st⟩:=rel'.mut hd hx (q'.app (.cons vk .nil));exact en.nx.go _ hn _ _ r2 ((Stp.kp kp).trans st)
 ·exact hw.elim
def Qzj(i:Nat)(we:DE):DS:=λD δ=>match δ[i]? with
 |some (.own ds)=>we δ (λd=>match d with
  |.list es=>ds.length+es.length<=1000000/\D.nx (δ.set i (.own (ds++es)))
  |_=>False) D.ex
 |_=>False
theorem QtG(h:PS X st (QlY (tBM X.K "list" Qmu (Qhs i) (Qdk (tX .P X.K E we) QoU)))):PS X st (tS X.K E (Qzj i we)):=by
 refine PS.imp h λD σ H ⟨F,δ,DD,rel,hw,en⟩=>?_
 unfold Qzj at hw;split at hw
 ·rename_i ds hd
  obtain⟨x,hx⟩:=rel.lt hd;obtain⟨l,xs,rfl,e,q,f⟩:=rel.sl i _ _ hx hd;have np:=rel.own_pot hd hx;refine⟨.ref l,hx,.inl ⟨rfl,_,SqL.of e⟩,F,δ,_,DD.ex,rel,hw,λd hd2 v H' rel' kp vk=>?_,en.ex⟩;cases d<;>first | exact(show False from hd2).elim | skip
  obtain⟨hl,hn⟩:=hd2;obtain⟨l2,ys,rfl,e2,q2⟩:=DP.list vk;have q':=kp.das q;refine⟨l,l2,xs,ys,rfl,rfl,kp.1 _ _ np e,e2,QQ (by rw[q.length,q2.length];exact hl) Qi2,?_⟩;obtain⟨r2,st⟩:=rel'.mut hd hx (q'.app q2);exact en.nx.go _ hn _ _ r2 ((Stp.kp kp).trans st)
 ·exact hw.elim
def QuA(i:Nat)(rD:Qb->Qb->(Qb->Prop)->Prop)(wi we:DE):DS:=λD δ=>match δ[i]? with
 |some (.own ds)=>wi δ (λz=>match z with
  |.int k=>∃j a,ixN ds.length k=some j/\ds[j]? = some a/\we δ (λe=>rD a e λb=>D.nx (δ.set i (.own (ds.set j b)))) D.ex
  |_=>False) D.ex
 |_=>False
theorem QpK{r:TIp}{rD:Qb->Qb->(Qb->Prop)->Prop}(hd:QrM r rD)(h:PS X st (Qvq (Qhs i) (tX .P X.K E wi) (tX .P X.K E we) (QxQ X.K) (λx y H Q=>QcD H->r x y H Q) QvH)):PS X st (tS X.K E (QuA i rD wi we)):=by
 refine PS.imp h λD σ H ⟨F,δ,DD,rel,hw,en⟩=>?_
 unfold QuA at hw;split at hw
 ·rename_i ds hds
  obtain⟨x,hx⟩:=rel.lt hds;obtain⟨l,xs,rfl,e,q,f⟩:=rel.sl i _ _ hx hds;have np:=rel.own_pot hds hx;refine⟨.ref l,hx,F,δ,_,DD.ex,rel,hw,λz hz y H1 rel1 kp1 yk=>?_,en.ex⟩;cases z<;>first | exact(show False from hz).elim | skip
  obtain⟨j,a,hj,ha,hn⟩:=hz;have q1:=kp1.das q;obtain⟨va,hva,da⟩:=q1.get j a ha;rw[DP.int yk];refine⟨l,xs,_,va,rfl,rfl,SqL.of (kp1.1 _ _ np e),by unfold atI;rw[q.length,hj];exact hva,F,δ,_,DD.ex,rel1,hn,λb hb u H2 rel2 kp2 uk ln=>?_,en.ex⟩;refine hd (Av F σ δ) (Qai σ δ) H2 va u a b _ _ ln (λa ha=>rel2.isl ha) (.inl (kp2.da da)) uk hb λc hc w H3 s dw=>?_
  have r3:=rel2.same s;have k3:=kp2.trans (Kp.same rel2 s);refine⟨l,xs,_,j,rfl,rfl,k3.1 _ _ np (kp1.1 _ _ np e),by rw[q.length];exact hj,?_⟩;obtain⟨r4,st⟩:=r3.mut hds hx ((k3.das q1).set dw j);exact en.nx.go _ hc _ _ r4 (((Stp.kp kp1).trans (Stp.kp k3)).trans st)
 ·exact hw.elim
@[irreducible] def QuL(items:List Qb)(wg:DG)(wb:DS)(D:Qc8)(δ:Sts):Prop:=∃Iv:Nat->Sts->Prop,Iv 0 δ/\(∀(i:Nat) d δ,items[i]? = some d->Iv i δ->wg d δ λδ2=>wb { D with nx:=Iv (i+1),ct:=Iv (i+1),bk:=D.nx } δ2)/\∀δ,Iv items.length δ->D.nx δ
def dFor(wi:DI)(wg:DG)(wb:DS):DS:=λD δ=>wi δ (λitems=>QuL items wg wb D δ) D.ex
theorem QtF{tg iter:Q5}{body:List Z6}{pos:Pos}{ix:List Nat}{wi:DI}{wg:DG}{wb:DS}(hp:Qf7 (model X.prog X.w) X.A X.env X.xe)(hc:X.calm=true)(hi:PI X tg iter (tI .D X.K E wi))(hg:PG X tg (tG ix X.K wg))(hb:PSs X body (tS X.K E wb))
  (hs:∀x,foldedSetIterable iter X.env x=pure x:=by intro _;rfl):PS X (.For tg iter body [] pos) (tS X.K E (dFor wi wg wb)):=by
 refine PS.imp (Qr6 hp hc hi hg hb hs) λD σ H ⟨F,δ,DD,rel,hw,en⟩=>?_
 refine⟨F,δ,_,DD.ex,rel,hw,λitems hC J H1 rel1 kp1 ⟨ln,it⟩=>?_,en.ex⟩;unfold QuL at hC;obtain⟨Iv,i0,step,fin⟩:=hC;have en1:=en.step (Stp.kp (F:=F) kp1);refine⟨λi m σ' H'=>m=items.length - i/\i<=items.length/\∃δ',Iv i δ'/\Rel X.K F σ' H' δ'/\Stp F σ H1 δ σ' H' δ',⟨_,rfl,QC _,δ,i0,rel1,Stp.refl⟩,?_⟩;rintro i m σ' H' ⟨rfl,hi',δ',iv,r',st'⟩;obtain⟨go,stop⟩:=it H' (Av F σ' δ') st'.1 st'.2 λa ha=>r'.isl ha
 by_cases hlt:i<items.length
 ·have hd:items[i]? = some items[i]:=Qf hlt;obtain⟨g1,g2⟩:=go i _ hd;refine .inr ⟨g1,λσ2 H2=>∃δ2,Iv (i+1) δ2/\Rel X.K F σ2 H2 δ2/\Stp F σ H1 δ σ2 H2 δ2,λσ2 H2 ⟨δ2,h2,r2,s2⟩=>⟨_,by omega,rfl,hlt,δ2,h2,r2,s2⟩,λx H3 y=>?_⟩;obtain⟨s3,dx⟩:=g2 x H3 y;have r3:=r'.same s3;have st3:Stp F σ H1 δ σ' H3 δ':=st'.trans (Stp.kp (Kp.same r' s3));refine⟨F,δ',_,_,r3,dx,step i _ δ' hd iv,λδ4 h4 σ4 r4 st4 _ _=>⟨F,δ4,_,r4,h4,?_⟩⟩;have st5:=st3.trans st4;exact⟨⟨λδ6 h6 σ6 H6 r6 s6=>⟨δ6,h6,r6,st5.trans s6⟩⟩,en.rt,en.rtF,(en1.step st5).nx,⟨λδ6 h6 σ6 H6 r6 s6=>⟨δ6,h6,r6,st5.trans s6⟩⟩,en.ex⟩
 ·have e:i=items.length:=by omega
  subst e;exact .inl ⟨stop,(en1.step st').nx.go δ' (fin δ' iv) σ' H' r' Stp.refl⟩
theorem QgS{lo:Int}{n:Nat}{wg:DG}{wb:DS}{D:Qc8}{δ:Sts}(Iv:Nat->Sts->Prop)(h0:Iv 0 δ)
  (hs:∀(i:Nat) δ,i<n->Iv i δ->wg (.int (lo+i)) δ λδ2=>wb { D with nx:=Iv (i+1),ct:=Iv (i+1),bk:=D.nx } δ2)(hd:∀δ,Iv n δ->D.nx δ):QuL (QjG lo n) wg wb D δ:=by
 unfold QuL;exact⟨Iv,h0,λi d δ hd iv=>by obtain⟨hi,rfl⟩:=QeJ hd;exact hs i δ hi iv,λδ iv=>hd δ (by rw[QiH] at iv;exact iv)⟩
theorem QaA{items:List Qb}{wg:DG}{wb:DS}{D:Qc8}{δ:Sts}(Iv:Nat->Sts->Prop)(h0:Iv 0 δ)
  (hs:∀(i:Nat) d δ,items[i]? = some d->Iv i δ->wg d δ λδ2=>wb { D with nx:=Iv (i+1),ct:=Iv (i+1),bk:=D.nx } δ2)(hd:∀δ,Iv items.length δ->D.nx δ):QuL items wg wb D δ:=by
 unfold QuL;exact⟨Iv,h0,hs,hd⟩
def Qsv(C:Addr)(we:DE):DS:=λD δ=>we δ (λ_=>D.ex C) D.ex
theorem QmP{C:Addr}(h:PS X st (Rx.QrZ E C (tX .P X.K E we))):PS X st (tS X.K E (Qsv C we)):=by
 refine PS.imp h λD σ H ⟨F,δ,DD,rel,hw,en⟩=>?_
 exact⟨F,δ,_,DD.ex,rel,hw,λd hd v H' rel' kp vk=>en.ex C hd H' rel'.ke,en.ex⟩
def Qxk(we:DE):DS:=λD δ=>we δ (λ_=>D.nx δ) D.ex
theorem QpI(h:PS X st (QlY (tX .P X.K E we))):PS X st (tS X.K E (Qxk we)):=by
 refine PS.imp h λD σ H ⟨F,δ,DD,rel,hw,en⟩=>?_
 exact⟨F,δ,_,DD.ex,rel,hw,λd hd v H' rel' kp vk=>en.nx.go δ hd σ H' rel' (Stp.kp kp),en.ex⟩
theorem QtC{w:DS}(h:PS X.nox st (tS X.K E0 w)):PS X st (tS X.K E λD δ=>w { D with ex:=XF } δ):=by
 refine PS.imp (QvU h) λD σ H ⟨F,δ,DD,rel,hw,en⟩=>?_
 exact⟨F,δ,_,rel,hw,en.nx,en.rt,en.rtF,en.bk,en.ct,QpV⟩
end
def stD(N:List Str)(args:List Sl):Sts:=args++Jh (N.length - args.length) .no
theorem QfI{α β:Type}{R:α->β->Prop}:∀{xs:List α}{ys:List β},YR R xs ys->∀(i:Nat) x y,xs[i]? = some x->ys[i]? = some y->R x y
 |_,_,.nil,i,x,y,h,_=>by simp at h
 |_,_,.cons a b,0,x,y,h,h'=>by simp at h h';subst h h';exact a
 |_,_,.cons a b,i+1,x,y,h,h'=>QfI b i x y (by simpa using h) (by simpa using h')
theorem Qhv{K:PySem.W.Frag}{N:List Str}{A pt:Addr->Prop}{H:Hp}{vs:List V}{args:List Sl}(dm:∀a,A a->∃xs,H a=some (.lst xs))(hp:∀p,pt p->A p/\∃n,H p=some (.lst [.int n]))(q:YR (Qjk A pt H) vs args):Rel K ⟨H,A,pt⟩ (L2.start N vs) H (stD N args):=by
 have hl:vs.length=args.length:=q.length;have no:∀(i:Nat) x,(stD N args)[i]? = some x->(i<args.length/\args[i]? = some x)∨x=.no:=λi x h=>by
  unfold stD at h;by_cases z:i<args.length
  ·rw[J5 z] at h;exact .inl ⟨z,h⟩
  ·rw[Ju (by omega),Yh] at h;split at h
   ·exact .inr (Qw h).symm
   ·cases h
 have arg:∀(i:Nat) o x,(L2.start N vs)[i]? = some o->(stD N args)[i]? = some x->x≠.no->∃v,o=some v/\Qjk A pt H v x:=λi o x h1 h2 hx=>by
  rcases no i x h2 with⟨z,e⟩ | e
  ·unfold L2.start at h1;rw[J5 (by rw[Qh];omega),QD] at h1;obtain⟨v,hv,rfl⟩:=Zx.mp h1;exact⟨v,rfl,QfI q i v x hv e⟩
  ·exact absurd e hx
 have av:∀a,Av ⟨H,A,pt⟩ (L2.start N vs) (stD N args) a->A a:=λa z=>by
  rcases z with z | ⟨i,h1,h2⟩
  ·exact z
  ·rcases h2 with h2 | ⟨ds,h2⟩
   ·obtain⟨v,e,p,rfl,hp'⟩:=arg i _ _ h1 h2 (λz=>by cases z);cases e;exact(hp _ hp').1
   ·obtain⟨v,e,hh⟩:=arg i _ _ h1 h2 (λz=>by cases z);exact hh.elim
 exact{
  len:=by unfold L2.start stD;rw[Qq,Qq,Qh,QaV,QaV,hl]
  dom:=dm
  dom0:=dm
  pt0:=hp
  kx:=λ_ _ _ e=>e
  sl:=λi o x h1 h2=>by
   cases x with
   |no=>trivial
   |v d=>
    obtain⟨v,e,hh⟩:=arg i _ _ h1 h2 (λz=>by cases z);exact⟨v,e,DA.mv hh (λ_ _ _ e=>e) λa z=>.inl (av a z)⟩
   |pot=>
    obtain⟨v,e,p,rfl,hp'⟩:=arg i _ _ h1 h2 (λz=>by cases z);obtain⟨_,n,en⟩:=hp p hp';exact⟨p,n,e,en,.inl hp'⟩
   |own ds=>obtain⟨v,e,hh⟩:=arg i _ _ h1 h2 (λz=>by cases z);exact hh.elim
   |pk ds=>obtain⟨v,e,hh⟩:=arg i _ _ h1 h2 (λz=>by cases z);exact hh.elim
   |scr=>obtain⟨v,e,hh⟩:=arg i _ _ h1 h2 (λz=>by cases z);exact hh.elim
  inj:=λi j a ds h1 h2 _=>by
   obtain⟨v,e,hh⟩:=arg i _ _ h2 h1 (λz=>by cases z);exact hh.elim }
def QAw:Qb->Bool
 |.list _=>false
 |_=>true
def rtD:Bool->(Qb->Prop)->Qb->Prop
 |true,R,d=>QAw d=true/\R d
 |false,R,d=>R d
def QnT(fr:Bool)(R:Qb->Prop)(EX:XP):Qc8:=⟨λ_=>R .none,rtD fr R,R,λ_=>False,λ_=>False,EX⟩
theorem QnS{K:PySem.W.Frag}{E Ex:XK}{fr:Bool}{A pt:Addr->Prop}{H:Hp}{R:Qb->Prop}{EX EX':XP}{Q:VK}{σ:L2.St}{δ:Sts}(k:∀d,R d->∀v H',Kq pt H H'->DA A H' v d->(fr=true->FrV H H' v)->Q v H')(o:Out ⟨H,A,pt⟩ E EX') :
  Ends1 K E ⟨H,A,pt⟩ σ H δ (QnT fr R EX') { nx:=λ_ H'=>Q .non H',rt:=Q } where
 nx:=⟨λδ' hR σ' H' r st=>k _ hR _ H' r.ke .non λ_=>Qut⟩
 rt:=λd h v H' ke dv=>by
  cases fr with
  |false=>exact k d h v H' ke dv λz=>by cases z
  |true=>
   obtain⟨h1,h2⟩:=h;refine k d h2 v H' ke dv λz l e1 ⟨xs,e2⟩=>?_
   subst e1;cases dv with
   |@tup a ys ds n e q=>rw[e] at e2;cases e2
   |@lst a ys ds n e q=>cases h1
   |@dct a n e=>rw[e] at e2;cases e2
 rtF:=λd h v H' ke dv fr'=>k d h v H' ke dv λ_=>fr'
 bk:=⟨λ_ h=>h.elim⟩
 ct:=⟨λ_ h=>h.elim⟩
 ex:=o
section
variable{P:QP}{w:JH}{K:PySem.W.Frag}{mg:Str->Option Value}{base:Zl}
theorem okD{x qual:Str}{st:Z6}{f:Addr}{fd:QL}{N ps:List Str}{k:Nat}{fD:DF}(fr:Bool)(F:Fun K x qual st f fd)(S:Jx N ps (Qs st))(len:∀args R EX,fD args R EX->args.length=ps.length)
  (hbody:∀(cdv:Value)(A:Js)(outer:List Env)(s:Shared)(H:Hp)(E:XK),Room k (A.deeper (envOfC qual (Qs st) s.heap.objs.size f cdv)) ->
   ∃wd,PSs (cxOf CX0 P w K mg base N qual (Qs st) f cdv A outer s H E).nox (Jv st) (tS K E0 wd)/\∀args R EX,fD args R EX->wd (QnT fr R XF) (stD N args)):FnOk P w K mg base CX0 (k+1) f fd ps (Zh fr fD):=by
 refine F.ok S (λvs H Q E h=>?_) λcdv A outer s H vs Q E hr h=>?_
 ·obtain⟨A,pt,args,R,EX,_,_,q,h,_⟩:=h;rw[q.length];exact len _ _ _ h
 ·obtain⟨wd,hp,hw⟩:=hbody cdv A outer s H E hr;obtain⟨A',pt,args,R,EX,dm,hpt,q,h,k,_⟩:=h;exact⟨_,hp,⟨H,A',pt⟩,_,_,Qhv dm hpt q,hw args R EX h,QnS (Ex:=E) (EX:=EX) k QpV⟩
theorem QAv{x qual:Str}{st:Z6}{f:Addr}{fd:QL}{N ps:List Str}{k:Nat}{fD:DF}(fr:Bool)(F:Fun K x qual st f fd)(S:Jx N ps (Qs st))(len:∀args R EX,fD args R EX->args.length=ps.length)
  (hbody:∀(cdv:Value)(A:Js)(outer:List Env)(s:Shared)(H:Hp)(E:XK),Room k (A.deeper (envOfC qual (Qs st) s.heap.objs.size f cdv)) ->
   ∃wd,PSs (cxOf (Rx.CXE P w) P w K mg base N qual (Qs st) f cdv A outer s H E) (Jv st) (tS K E wd)/\∀args R EX,fD args R EX->wd (QnT fr R EX) (stD N args)):FnOk P w K mg base (Rx.CXE P w) (k+1) f fd ps (Zh fr fD):=by
 refine Rx.okE F S (λvs H Q E h=>?_) λcdv A outer s H vs Q E hr h=>?_
 ·obtain⟨A,pt,args,R,EX,_,_,q,h,_⟩:=h;rw[q.length];exact len _ _ _ h
 ·obtain⟨wd,hp,hw⟩:=hbody cdv A outer s H E hr;obtain⟨A',pt,args,R,EX,dm,hpt,q,h,k,kx⟩:=h;exact⟨_,hp,⟨H,A',pt⟩,_,_,Qhv dm hpt q,hw args R EX h,QnS (Ex:=E) (EX:=EX) k λC hC H' ke=>kx C hC H' ke⟩
end
end Dl
namespace L2
def Qzu(i j:Int):Prop:=0<j/\j<=10^40
theorem QjT{X:Cx}:OpR X (binaryOp .FloorDiv) (rI Qzu λi j=>.int (i / j)):=opI λi j _ _ _ _ _ hc q=>by
 have h1:(0:Int)<j:=hc.1;have h2:j<=10^40:=hc.2;refine floordiv_int (by omega) (by rw[Int.fdiv_eq_ediv_of_nonneg i (by omega)];exact q) (.inl (PyProof.noPylong_of_log2 ?_));have h3:j.natAbs<2^200:=by
  have:(10:Int)^40<2^200:=by decide
  omega
 have:=(Nat.log2_lt (by omega:j.natAbs≠0)).mpr h3;omega
end L2
namespace Rk
open L2 _root_.Rd
def QjC:Sp:=λvs H Q _=>∃p n f,vs=[.ref p,.int f]/\H p=some (.lst [.int n])/\0<f/\f<=10^40/\∀r m,0<=r->r<f->Q (.int r) (upd H p (.lst [.int m]))
end Rk
namespace Dl
open L2 _root_.Rd Rk
theorem Zr{X:Cx}{E:XK}:Qc7 CX0 X E:=λ_ _ _ _ _ _ _ h=>h.elim
theorem Room.u60{k:Nat}{A:Js}(r:Room k A):A.units+60<cLine:=by have:=r.un;omega
theorem Room.i60{k:Nat}{A:Js}(r:Room k A):A.in1.units+60<cLine:=by
 have:=r.un;show A.units+1+60<cLine;omega
section
variable{X:Cx}{E:XK}{CX:CXT}{k:Nat}{f:Addr}{fd:QL}{ps:List Str}{x:Str}{p pos:Pos}{e:Q5}{es:List Q5}{fD:DF}
def Qiy:DF:=λargs R _=>∃f,args=[.pot,.v (.int f)]/\0<f/\f<=10^40/\∀r,0<=r->r<f->R (.int r)
theorem Qvk{vs:List V}{H:Hp}{Q:VK}{Ex:XK}(h:Zh true Qiy vs H Q Ex):QjC vs H Q Ex:=by
 obtain⟨A,pt,args,R,EX,dm,hp,q,⟨f,rfl,f0,f1,hR⟩,k,_⟩:=h;cases q with
 |cons q1 q2=>cases q2 with
  |cons q2 q3=>
   cases q3;obtain⟨p,rfl,pp⟩:=q1;cases q2;obtain⟨_,n,e⟩:=hp p pp;refine⟨p,n,f,rfl,e,f0,f1,λr m r0 r1=>k _ (hR r r0 r1) _ _ ⟨λb o nb eb=>?_,λz hz=>?_⟩ (.int _) λ_=>YU⟩
   ·rw[J8 (λz=>nb (by rw[z];exact pp))];exact eb
   ·by_cases y:z=p
    ·rw[y];exact⟨m,JK⟩
    ·obtain⟨_,n',e'⟩:=hp z hz;exact⟨n',by rw[J8 y];exact e'⟩
def QyO:DF:=λargs R _=>∃c,args=[.v (.int c)]/\∀n,R (.list [.int n])
theorem QyN{vs:List V}{H:Hp}{Q:VK}{Ex:XK}(h:Zh true QyO vs H Q Ex):Qvu vs H Q Ex:=by
 obtain⟨A,pt,args,R,EX,dm,hp,q,⟨c,rfl,hR⟩,k,_⟩:=h;cases q with
 |cons q1 q2=>
  cases q2;cases q1;refine⟨c,rfl,λp n hn=>k _ (hR n) _ _ ⟨λb o _ eb=>Jy hn b o eb,λz hz=>?_⟩ (.lst (λz=>?_) JK (.cons (.int _) .nil)) λ_=>Qb6 hn⟩
  ·obtain⟨_,n',e'⟩:=hp z hz;exact⟨n',Jy hn _ _ e'⟩
  ·obtain⟨xs,e⟩:=dm p z;rw[hn] at e;cases e
def isW:Qb->Bool
 |.int _=>true
 |_=>false
def Qfu:DF:=λargs R _=>∃d,args=[.v d]/\R (.bool (isW d))
def Qo8(n:Nat):DF:=λargs R _=>∃d,args=[.v d,.v d]/\nd d=true/\QeV n d=true/\R (.bool true)
theorem Qvy{n:Nat}{vs:List V}{H:Hp}{Q:VK}{Ex:XK}(h:Zh false (Qo8 n) vs H Q Ex):QiF (n+1) vs H Q Ex:=by
 obtain⟨A,pt,args,R,EX,dm,hp,q,⟨d,rfl,hn,hf,hR⟩,k,_⟩:=h;cases q with
 |cons q1 q2=>cases q2 with
  |cons q2 q3=>
   cases q3;exact⟨_,_,d,rfl,Qh0 d _ hn q1,Qh0 d _ hn q2,hf,λH' s=>k _ hR _ H' ⟨λb o _ e=>s b o e,λp hp'=>let ⟨_,n,e⟩:=hp p hp';⟨n,s _ _ e⟩⟩ (.bl _) λz=>by cases z⟩
theorem Ql9{K:PySem.W.Frag}{F:Fm}{σ:L2.St}{H:Hp}{δ:Sts}(r:Rel K F σ H δ){a:Addr}{xs:List V}(h:SqL K F.H0 a xs)(n:¬F.pt a):SqL K H a xs:=by
 rcases h with h | h
 ·rcases h with h | ⟨o,h⟩
  ·exact .inl (.inl (r.kx _ _ n h))
  ·exact .inl (.inr ⟨o,r.kx _ _ n h⟩)
 ·exact .inr h
def Quy(i:Nat):DE:=λδ Q _=>match δ[i]? with
 |some .scr=>∀n:Nat,n<=63->Q (.int n)
 |_=>False
theorem QtN{i:Nat}{a:Q5}(hg:Gl X "len")(hm:X.mg "len" = none)(h:PE X a (Qhs i))(hs:notStar a=true:=by rfl):PE X (.Call (.Name "len" p) [a] [] pos) (tX .F X.K E (Quy i)):=by
 refine PE.imp (ZB QaC hg hm YC (Qcy h J3 hs) (he:=by rw[ZZ hs])) λσ H Q ⟨F,δ,R,EX,rel,hw,k,o⟩=>?_
 unfold Quy at hw;split at hw
 ·rename_i hd
  obtain⟨x,hx⟩:=rel.lt hd;obtain⟨l,ns,rfl,sq,np,n63⟩:=rel.sl i _ _ hx hd;refine⟨_,hx,l,_,rfl,.inl (Ql9 rel sq np),?_⟩;rw[Qh];exact k _ (hw _ n63) _ H rel (Kp.refl rel) ⟨.int _,YU⟩
 ·exact hw.elim
def Quz(i:Nat)(wb:DE):DE:=λδ Q EX=>match δ[i]? with
 |some .scr=>wb δ (λd=>match d with
  |.int k=>0<=k/\∀c,Q (.int c)
  |_=>False) EX
 |_=>False
theorem QtQ{i:Nat}{a b:Q5}{wb:DE}(G:FnOk X.prog X.w X.K X.mg X.base CX0 k f fd ps (QcY X.K))(hr:Room k X.A)(hg:Gl X x)(hm:X.mg x=some (.ref f))(hk:PySem.W.keepIn X.K (.ref f)=true)(hb:Binds X.K fd ps [])
  (ha:PE X a (Qhs i))(h:PE X b (tX .P X.K E wb))(h1:notStar a=true:=by rfl)(h2:notStar b=true:=by rfl)(hdb:(x == ("__debug__" : Str))=false:=by decide) :
  PE X (.Call (.Name x p) [a,b] [] pos) (tX .F X.K E (Quz i wb)):=by
 refine PE.imp (QeN (E:=E) G hr hg hm hk hb .nil Zr (Qcy ha (Qcy h J3 h2) h1) hdb (ZZ h1) (by rw[ZZ h2];rfl)) λσ H Q ⟨F,δ,R,EX,rel,hw,k,o⟩=>?_
 unfold Quz at hw;split at hw
 ·rename_i hd
  obtain⟨x,hx⟩:=rel.lt hd;obtain⟨l,ns,rfl,sq,np,n63⟩:=rel.sl i _ _ hx hd;refine⟨_,hx,F,δ,_,EX,rel,hw,λd hd2 v H' rel' kp vk=>?_,o⟩;cases d<;>first | exact(show False from hd2).elim | skip
  rw[DP.int vk];exact⟨l,ns,_,rfl,Ql9 rel' sq np,QbL n63 (by decide),hd2.1,λc=>k _ (hd2.2 c) _ H' rel' kp ⟨.int _,YU⟩⟩
 ·exact hw.elim
end
section
variable{P:QP}{w:JH}{K:PySem.W.Frag}{mg:Str->Option Value}{base:Zl}
def Qfx(K:PySem.W.Frag):Sp:=λvs H Q _=>∃(a:Addr)(ns:List Int),vs=[.ref a]/\SqL K H a (ns.map V.int)/\ns.length<=63/\∀H',Q (.bl true) H'
def Qw6:Qc8:=⟨λ_=>False,λd=>d=.bool true,λd=>d=.bool true,λ_=>False,λ_=>False,XF⟩
theorem QyZ{x qual:Str}{st:Z6}{f:Addr}{fd:QL}{N:List Str}{p:Str}{k:Nat}(F:Fun K x qual st f fd)(S:Jx N [p] (Qs st))
  (hbody:∀(cdv:Value)(A:Js)(outer:List Env)(s:Shared)(H:Hp)(E:XK),Room k (A.deeper (envOfC qual (Qs st) s.heap.objs.size f cdv)) ->
   ∃wd,PSs (cxOf CX0 P w K mg base N qual (Qs st) f cdv A outer s H E).nox (Jv st) (tS K E0 wd)/\wd Qw6 (stD N [.scr])):FnOk P w K mg base CX0 (k+1) f fd [p] (Qfx K):=by
 refine F.ok S (λvs H Q E h=>?_) λcdv A outer s H vs Q E hr h=>?_
 ·obtain⟨a,ns,rfl,_⟩:=h;rfl
 ·obtain⟨wd,hp,hw⟩:=hbody cdv A outer s H E hr;obtain⟨a,ns,rfl,sq,n63,k⟩:=h;have get0:∀(i:Nat) o y,(L2.start N [V.ref a])[i]? = some o->(stD N [.scr])[i]? = some y->y≠.no->o=some (.ref a)/\y=.scr:=λi o y h1 h2 hy=>by
   cases i with
   |zero=>cases h1;cases h2;exact⟨rfl,rfl⟩
   |succ i=>
    unfold stD at h2;rw[Ju (by simp),Yh] at h2;split at h2
    ·exact absurd (Qw h2).symm hy
    ·cases h2
  have noav:∀b,¬Av (⟨H,λ_=>False,λ_=>False⟩:Fm) (L2.start N [V.ref a]) (stD N [.scr]) b:=λb z=>by
   rcases z with z | ⟨i,h1,h2⟩
   ·exact z
   ·rcases h2 with h2 | ⟨ds,h2⟩
    ·cases(get0 i _ _ h1 h2 (λz=>by cases z)).2
    ·cases(get0 i _ _ h1 h2 (λz=>by cases z)).2
  refine⟨_,hp,⟨H,λ_=>False,λ_=>False⟩,_,_,?_,hw,?_⟩
  ·exact{
    len:=by unfold L2.start stD;simp
    dom:=λ_ h=>h.elim
    dom0:=λ_ h=>h.elim
    pt0:=λ_ h=>h.elim
    kx:=λ_ _ _ e=>e
    sl:=λi o y h1 h2=>by
     cases y with
     |no=>trivial
     |scr=>
      obtain⟨rfl,_⟩:=get0 i _ _ h1 h2 (λz=>by cases z);exact⟨a,ns,rfl,sq,λz=>z,n63⟩
     |v d=>cases(get0 i _ _ h1 h2 (λz=>by cases z)).2
     |own d=>cases(get0 i _ _ h1 h2 (λz=>by cases z)).2
     |pk d=>cases(get0 i _ _ h1 h2 (λz=>by cases z)).2
     |pot=>cases(get0 i _ _ h1 h2 (λz=>by cases z)).2
    inj:=λi j b ds h1 h2 _=>by cases(get0 i _ _ h2 h1 (λz=>by cases z)).2 }
  ·exact{
    nx:=⟨λ_ h=>h.elim⟩
    rt:=λd h v H' ke dv=>by cases(show d=.bool true from h);cases dv;exact k H'
    rtF:=λd h v H' ke dv _=>by cases(show d=.bool true from h);cases dv;exact k H'
    bk:=⟨λ_ h=>h.elim⟩
    ct:=⟨λ_ h=>h.elim⟩
    ex:=QpV }
end
theorem Qfb{α:Type}{p:α->Prop}:∀x∈([]:List α),p x:=λ_ h=>nomatch h
theorem Jl{α:Type}{p:α->Prop}{a:α}{l:List α}(h:p a)(t:∀x∈l,p x):∀x∈a::l,p x:=λx hx=>by
 rcases Qz.mp hx with z | z
 ·rw[z];exact h
 ·exact t x z
theorem Qxv{b c:Bool}{R:Qb->Prop}(h:R (.bool (b&&c))):if b=true then R (.bool c) else R (.bool false):=by
 cases b
 ·exact Qj7 h
 ·exact Qha h
theorem Qg1{b c:Bool}{R:Qb->Prop}{Pk:Prop}(h:R (.bool (b&&c)))(k:b=true->R (.bool c)->Pk):if b=true then Pk else R (.bool false):=by
 cases b
 ·exact Qj7 h
 ·exact Qha (k rfl h)
theorem ifF{c:Bool}{A B:Prop}(h:c=false)(k:B):if c=true then A else B:=by subst h;exact k
theorem ifT{c:Bool}{A B:Prop}(h:c=true)(k:A):if c=true then A else B:=by subst h;exact k
theorem ifC{c:Bool}{A B:Prop}(t:c=true->A)(f:c=false->B):if c=true then A else B:=by
 cases c
 ·exact f rfl
 ·exact t rfl
theorem all_map{α:Type}(l:List α)(g:α->Bool):(l.map g).all id=l.all g:=by
 rw[Qlz];rfl
theorem Qb9{ds:List Qb}{Q:Qb->Prop}{g:Qb->Bool}{items:List Qb}(h:ds=[.list (items.map λd=>.bool (g d))])(q:Q (.bool (items.all g))):QxX ds Q:=by
 subst h;unfold QxX;refine⟨items.map g,?_,by rw[all_map];exact q⟩;rw[show items.map (λd=>Ye (g d))=(items.map g).map Ye by rw[Jt];rfl,Qoj]
theorem Ql1{ds:List Qb}{Q:Qb->Prop}(ns:List Int)(h:ds=[.list (ns.map Q7)])(q:Q (.int ns.sum)):QxP ds Q:=by
 subst h;unfold QxP;exact⟨ns,ints_map ns,q⟩
end Dl
namespace L2
section
variable{X:Cx}
end
end L2
namespace Dl
open L2 _root_.Rd Rk
section
variable{X:Cx}{E:XK}
variable{e:Q5}{w:DE}{p p2 pos pos2:Pos}
end
theorem Qxu{ds:List Qb}{i:Int}(h0:0<=i)(h1:i<ds.length):∃d,d∈ds/\atI ds i=some d:=by
 obtain⟨j,rfl⟩:∃j:Nat,i=j:=⟨i.toNat,by omega⟩
 have hj:j<ds.length:=by omega
 exact⟨ds[j],Qcl hj,JM (Qf hj)⟩
theorem Qld{ds:List Qb}{i:Int}{Q:Qb->Prop}(h0:0<=i)(h1:i<ds.length)(q:∀d∈ds,Q d):∃d,atI ds i=some d/\Q d:=by
 obtain⟨d,hd,e⟩:=Qxu h0 h1;exact⟨d,e,q d hd⟩
theorem Qi8(xs:List Qb)(lo hi:Option Int):(cutD xs lo hi).length<=xs.length:=by
 unfold cutD;rw[Zi,Qad];omega
theorem Qrz{xs:List Qb}{lo hi:Option Int}{d:Qb}(h:d∈cutD xs lo hi):d∈xs:=QlL (Qdc h)
structure QE (m:Md) (X:Cx) (E:XK) (e:Q5) (w:DE):Prop where h:PE X e (tX m X.K E w)
structure QT (X:Cx) (E:XK) (e:Q5) (w:DT):Prop where h:PT X e (tT X.K E w)
structure QW (X:Cx) (E:XK) (e:Q5) (w:DT):Prop where h:PW X e (tT X.K E w)
structure QTs (X:Cx) (E:XK) (es:List Q5) (w:DT):Prop where h:PTs X es (tT X.K E w)
structure QA (n:Nat) (m:Md) (X:Cx) (E:XK) (es:List Q5) (w:DAr):Prop where h:PA X es (tAr n m X.K E w)
structure QAs (X:Cx) (E:XK) (es:List Q5) (w:DSl):Prop where h:PA X es (tAs X.K E w)
structure QO (X:Cx) (E:XK) (o:Option Q5) (w:DO):Prop where h:PO X o (tO X.K E w)
structure QG (ix:List Nat) (X:Cx) (tg:Q5) (w:DG):Prop where h:PG X tg (tG ix X.K w)
structure QI (m:Md) (X:Cx) (E:XK) (tg it:Q5) (w:DI):Prop where h:PI X tg it (tI m X.K E w)
structure QS (X:Cx) (E:XK) (st:Z6) (w:DS):Prop where h:PS X st (tS X.K E w)
structure QSs (X:Cx) (E:XK) (sts:List Z6) (w:DS):Prop where h:PSs X sts (tS X.K E w)
section
variable{X:Cx}{E:XK}
theorem JD{e:Q5}{w:DE}(h:QE .F X E e w):QE .D X E e w:=⟨toD h.h⟩
theorem Q3{e:Q5}{w:DE}(h:QE .D X E e w):QE .P X E e w:=⟨toP h.h⟩
theorem QM{e:Q5}{w:DE}(h:QE .F X E e w):QE .P X E e w:=⟨QAe h.h⟩
theorem qv(i:Nat){x:Str}{pos:Pos}(hN:X.N[i]? = some x:=by rfl)(hv:Vis X.env.scope x:=by first | exact QR rfl | exact Q2 (QR rfl) | exact Q2 (Q2 rfl))(hd:(x == ("__debug__" : Str))=false:=by decide)(hcd:(x == ("__classdict__" : Str))=false:=by decide):QE .D X E (.Name x pos) (Qze i):=⟨Qv3 (pv i hN hv hd hcd)⟩
theorem qp(i:Nat){x:Str}{pos:Pos}(hN:X.N[i]? = some x:=by rfl)(hv:Vis X.env.scope x:=by first | exact QR rfl | exact Q2 (QR rfl) | exact Q2 (Q2 rfl))(hd:(x == ("__debug__" : Str))=false:=by decide)(hcd:(x == ("__classdict__" : Str))=false:=by decide):QE .P X E (.Name x pos) (dPk i):=⟨QyS (pv i hN hv hd hcd)⟩
theorem Q9{i:Int}{j pos}:QE .D X E (.Constant (.int i) j pos) (dC (.int i)):=⟨Qwc⟩
theorem QfH{b:Bool}{j pos}:QE .D X E (.Constant (.bool b) j pos) (dC (.bool b)):=⟨QyV⟩
theorem QkS{j pos}:QE .D X E (.Constant .none j pos) (dC .none):=⟨Qv9⟩
theorem Qd5{x:Str}{j pos}(h:YV (.str x)=true:=by decide +kernel):QE .D X E (.Constant (.str x) j pos) (dC (.str x)):=⟨Qv5 h⟩
theorem ZD{a b:Q5}{wa wb:DE}{pos:Pos}{r:R2}{rD:Qb->Qb->(Qb->Prop)->Prop}{op:QcN}(ho:OpR X (binaryOp op) r)(hd:OpD r rD)(ha:QE .P X E a wa)(hb:QE .P X E b wb):QE .F X E (.BinOp a op b pos) (dOp rD wa wb):=⟨Qwg ho hd ha.h hb.h⟩
theorem Qd6{a b:Q5}{wa wb:DE}{pos:Pos}{r:R2}{rD:Qb->Qb->(Qb->Prop)->Prop}{op:QkF}(ho:OpR X (compareOp op) r)(hd:OpD r rD)(ha:QE .P X E a wa)(hb:QE .P X E b wb)(hm:behindInMarks op b=false):QE .F X E (.Compare a [op] [b] pos) (dOp rD wa wb):=⟨Qwf ho hd ha.h hb.h hm⟩
theorem Qbe{a b:Q5}{wa wb:DE}{pos:Pos}{r:R2}{rD:Qb->Qb->(Qb->Prop)->Prop}{op:QkF}(ho:OpR X (compareOp op) r)(hd:OpD r rD)(ha:QE .P X E a wa)(hb:QE .P X E b wb)(hm:behindInMarks op b=false):QT X E (.Compare a [op] [b] pos) (dTst (dOp rD wa wb)):=⟨Qty ho hd ha.h hb.h hm⟩
theorem Qay{a b:Q5}{wa wb:DE}{pos:Pos}{r:R2}{rD:Qb->Qb->(Qb->Prop)->Prop}(ho:IxR X r)(hd:QrM r rD)(ha:QE .P X E a wa)(hb:QE .P X E b wb)(hs:Qg2 b):QE .D X E (.Subscript a b pos) (dOp rD wa wb):=⟨QyT ho hd ha.h hb.h hs⟩
theorem QhD{a:Q5}{wa:DE}{pos:Pos}(ha:QE .P X E a wa):QE .F X E (.UnaryOp .USub a pos) (dUn QzL wa):=⟨Qwa ha.h⟩
theorem QyM{a b c:Q5}{wa wb wc:DE}{pos:Pos}{op op':QkF}{p q:Int->Int->Bool}(ho:OpR X (compareOp op) (rI0 λi j=>.bl (p i j)))(ho':OpR X (compareOp op') (rI0 λi j=>.bl (q i j)))(ha:QE .P X E a wa)(hb:QE .P X E b wb)(hc:QE .P X E c wc)(hm:lastMarks [op,op'] [b,c]=false:=by with_unfolding_all rfl):QE .F X E (.Compare a [op,op'] [b,c] pos) (dCh p q wa wb wc):=⟨QyU ho ho' ha.h hb.h hc.h hm⟩
theorem QyG{a b c:Q5}{wa wb wc:DE}{pos:Pos}{op op':QkF}{p q:Int->Int->Bool}(ho:OpR X (compareOp op) (rI0 λi j=>.bl (p i j)))(ho':OpR X (compareOp op') (rI0 λi j=>.bl (q i j)))(ha:QE .P X E a wa)(hb:QE .P X E b wb)(hc:QE .P X E c wc)(hm:lastMarks [op,op'] [b,c]=false:=by with_unfolding_all rfl):QT X E (.Compare a [op,op'] [b,c] pos) (dTst (dCh p q wa wb wc)):=⟨Qv1 ho ho' ha.h hb.h hc.h hm⟩
theorem Qmw{e:Q5}{w:DE}(h:QE .P X E e w)(he:∀whole,isTrue e X.env whole=(do let v <- whole;standAt e.pos;holding [v] (truthy v)):=by intro _;rfl):QT X E e (dTru w):=⟨Qtw h.h he⟩
theorem Y0{e:Q5}{w:DE}(h:QE .P X E e w)(he:∀whole,isTrue e X.env whole=(do let v <- whole;standAt e.pos;holding [v] (truthy v)):=by intro _;rfl):QT X E e (dTst w):=⟨Qtv h.h he⟩
theorem QiK{a:Q5}{pos:Pos}{ta:DT}(ha:QT X E a ta):QW X E (.BoolOp .And [a] pos) ta:=⟨QpA ha.h⟩
theorem QjK{a b:Q5}{rest:List Q5}{pos:Pos}{ta tb:DT}(ha:QT X E a ta)(hb:QW X E (.BoolOp .And (b::rest) pos) tb):QW X E (.BoolOp .And (a::b::rest) pos) (Qz4 ta tb):=⟨Qtu ha.h hb.h⟩
theorem QhE{a b:Q5}{rest:List Q5}{pos:Pos}{wa wb:DE}(ha:QE .P X E a wa)(hb:QE .D X E (.BoolOp .And (b::rest) pos) wb):QE .D X E (.BoolOp .And (a::b::rest) pos) (Qxn wa wb):=⟨Qwh ha.h hb.h⟩
theorem QhB{a:Q5}{pos:Pos}{ta:DT}(ha:QT X E a ta):QW X E (.BoolOp .Or [a] pos) ta:=⟨Qtt ha.h⟩
theorem QiJ{a b:Q5}{rest:List Q5}{pos:Pos}{ta tb:DT}(ha:QT X E a ta)(hb:QW X E (.BoolOp .Or (b::rest) pos) tb):QW X E (.BoolOp .Or (a::b::rest) pos) (dOr ta tb):=⟨Qv0 ha.h hb.h⟩
theorem Qr4{e:Q5}{t:DT}(h:QW X E e t):QT X E e t:=⟨PW.pt h.h⟩
theorem Y1{a:Q5}{pos:Pos}{ta:DT}(ha:QT X E a ta):QT X E (.UnaryOp .Not a pos) (QzU ta):=⟨Qtx ha.h⟩
theorem QhC{op}{a:Q5}{pos:Pos}{w:DE}(h:QE .D X E a w):QE .D X E (.BoolOp op [a] pos) w:=⟨Qv7 h.h⟩
theorem QvP{a:Q5}{pos:Pos}{wa:DE}(ha:QE .P X E a wa):QE .D X E (.UnaryOp .Not a pos) (Qxi wa):=⟨Qv8 ha.h⟩
theorem QyJ{c a b:Q5}{pos:Pos}{ta:DT}{wa wb:DE}(hc:QT X E c ta)(ha:QE .D X E a wa)(hb:QE .D X E b wb):QE .D X E (.IfExp c a b pos) (Qz0 ta wa wb):=⟨Qwd hc.h ha.h hb.h⟩
theorem Jd{m:Md}:QA 0 m X E [] QzV:=⟨QtM⟩
theorem ZR{n:Nat}{e:Q5}{es:List Q5}{we:DE}{wr:DAr}(he:QE .D X E e we)(hr:QA n .D X E es wr)(hs:notStar e=true:=by rfl):QA (n+1) .D X E (e::es) (Qn1 we wr):=⟨QmT he.h hr.h hs⟩
theorem QbR{n:Nat}{e:Q5}{es:List Q5}{we:DE}{wr:DAr}(he:QE .P X E e we)(hr:QA n .P X E es wr)(hs:notStar e=true:=by rfl):QA (n+1) .P X E (e::es) (Qn1 we wr):=⟨QmS he.h hr.h hs⟩
theorem QaS{n:Nat}{es:List Q5}{w:DAr}{x1}{pos:Pos}(h:QA n .D X E es w)(hn:n<=1000:=by decide):QE .F X E (.Tuple es x1 pos) (QzR w):=⟨Qv4 h.h hn⟩
theorem Qbo{n:Nat}{es:List Q5}{w:DAr}{pos:Pos}(h:QA n .D X E es w)(hn:n<=1000:=by decide):QE .F X E (.List es pos) (QzX w):=⟨Qwb h.h hn⟩
theorem QyL{pos:Pos}:QE .D X E (.Dict [] [] pos) (dC (.dict [])):=⟨Qwe⟩
theorem Zj{x:Str}{bid:String}{p pos:Pos}{e:Q5}{es:List Q5}{n:Nat}{wr:DAr}{r:List V->Hp->VK->Prop}{rD:List Qb->(Qb->Prop)->Prop}(hc:CallR X (.builtin bid) r)(hd:Qc9 r rD)(hg:Gl X x)(hm:X.mg x=none)(hv:bootBuiltins x=some (.builtin bid))(ha:QA n .P X E (e::es) wr)(hn:x ≠ "__name__" := by decide)(hdb:(x == ("__debug__" : Str))=false:=by decide)(he:starEach (e::es) X.env=(false,eval e X.env)::starEach es X.env:=by rfl)(hpl:(backTo pos (starEach es X.env)).any (·.1)=false:=by rfl):QE .F X E (.Call (.Name x p) (e::es) [] pos) (dCB rD wr):=⟨QpU hc hd hg hm hv ha.h hn hdb he hpl⟩
theorem Qgx{x:Str}{T:String}{p pos:Pos}{e:Q5}{es:List Q5}{n:Nat}{wr:DAr}{r:List V->Hp->VK->Prop}{rD:List Qb->(Qb->Prop)->Prop}(hc:CallR X (.type T) r)(hd:Qc9 r rD)(hg:Gl X x)(hm:X.mg x=none)(hv:bootBuiltins x=some (.type T))(ha:QA n .P X E (e::es) wr)(hn:x ≠ "__name__" := by decide)(hdb:(x == ("__debug__" : Str))=false:=by decide)(he:starEach (e::es) X.env=(false,eval e X.env)::starEach es X.env:=by rfl)(hpl:(backTo pos (starEach es X.env)).any (·.1)=false:=by rfl):QE .F X E (.Call (.Name x p) (e::es) [] pos) (dCB rD wr):=⟨QmV hc hd hg hm hv ha.h hn hdb he hpl⟩
theorem Qco{e:Q5}{we:DE}{p pos pos2:Pos}{x:Str}(tn:Tn)(hg:Gl X "isinstance")(hm:X.mg "isinstance" = none)(he:QE .P X E e we)(hg2:Gl X x)(hm2:X.mg x=none)(hv:bootBuiltins x=some (.type tn.s))(hn:x ≠ "__name__" := by decide)(hd:(x == ("__debug__" : Str))=false:=by decide)(h1:notStar e=true:=by rfl):QE .F X E (.Call (.Name "isinstance" p) [e,.Name x pos2] [] pos) (Qxj tn we):=⟨QtO tn hg hm he.h (QyW tn hg2 hm2 hv hn hd) h1 rfl⟩
theorem Qdu  : QO X E none dNo:=⟨QpM⟩
theorem Qdt{e:Q5}{we:DE}(he:QE .P X E e we):QO X E (some e) (dSo we):=⟨QpL he.h⟩
theorem Qdv{e:Q5}{lo hi:Option Q5}{we:DE}{wl wh:DO}{p2 pos:Pos}(he:QE .P X E e we)(hl:QO X E lo wl)(hh:QO X E hi wh):QE .F X E (.Subscript e (.Slice lo hi none p2) pos) (dSl we wl wh):=⟨QpS he.h hl.h hh.h⟩
theorem QyI{e st:Q5}{we ws:DE}{p2 pos:Pos}(he:QE .P X E e we)(hs:QE .P X E st ws):QE .F X E (.Subscript e (.Slice none none (some st) p2) pos) (QzT we ws):=⟨Qv6 he.h hs.h⟩
theorem JB  : QAs X E [] Qzy:=⟨QtD⟩
theorem Zm{e:Q5}{es:List Q5}{we:DE}{wr:DSl}(he:QE .D X E e we)(hr:QAs X E es wr)(hs:notStar e=true:=by rfl):QAs X E (e::es) (sV we wr):=⟨QyR he.h hr.h hs⟩
theorem Qa1(i:Nat){x:Str}{pos:Pos}{es:List Q5}{wr:DSl}(hr:QAs X E es wr)(hN:X.N[i]? = some x:=by rfl)(hv:Vis X.env.scope x:=by first | exact QR rfl | exact Q2 (QR rfl) | exact Q2 (Q2 rfl))(hd:(x == ("__debug__" : Str))=false:=by decide)(hcd:(x == ("__classdict__" : Str))=false:=by decide):QAs X E (.Name x pos::es) (QyA i wr):=⟨QtA (pv i hN hv hd hcd) hr.h rfl⟩
theorem Zf{CX:CXT}{k:Nat}{f:Addr}{fd:QL}{ps:List Str}{x:Str}{p pos:Pos}{e:Q5}{es:List Q5}{fD:DF}{wa:DSl}(G:FnOk X.prog X.w X.K X.mg X.base CX k f fd ps (Zh false fD))(hr:Room k X.A)(hg:Gl X x)(hm:X.mg x=some (.ref f))(hk:PySem.W.keepIn X.K (.ref f)=true)(hb:Binds X.K fd ps [])(hx:Qc7 CX X E)(ha:QAs X E (e::es) wa)(hdb:(x == ("__debug__" : Str))=false:=by decide)(he:starEach (e::es) X.env=(false,eval e X.env)::starEach es X.env:=by rfl)(hpl:(backTo pos (starEach es X.env)).any (·.1)=false:=by rfl):QE .D X E (.Call (.Name x p) (e::es) [] pos) (Qn2 fD wa):=⟨QtR G hr hg hm hk hb hx ha.h hdb he hpl⟩
theorem YD{CX:CXT}{k:Nat}{f:Addr}{fd:QL}{ps:List Str}{x:Str}{p pos:Pos}{e:Q5}{es:List Q5}{fD:DF}{wa:DSl}(G:FnOk X.prog X.w X.K X.mg X.base CX k f fd ps (Zh true fD))(hr:Room k X.A)(hg:Gl X x)(hm:X.mg x=some (.ref f))(hk:PySem.W.keepIn X.K (.ref f)=true)(hb:Binds X.K fd ps [])(hx:Qc7 CX X E)(ha:QAs X E (e::es) wa)(hdb:(x == ("__debug__" : Str))=false:=by decide)(he:starEach (e::es) X.env=(false,eval e X.env)::starEach es X.env:=by rfl)(hpl:(backTo pos (starEach es X.env)).any (·.1)=false:=by rfl):QE .F X E (.Call (.Name x p) (e::es) [] pos) (Qn2 fD wa):=⟨QpT G hr hg hm hk hb hx ha.h hdb he hpl⟩
theorem QvR{k:Nat}{f:Addr}{fd:QL}{ps:List Str}{x y:Str}{p pos pos2:Pos}{b:Q5}{wb:DE}(i:Nat)(G:FnOk X.prog X.w X.K X.mg X.base CX0 k f fd ps (QcY X.K))(hr:Room k X.A)(hg:Gl X x)(hm:X.mg x=some (.ref f))(hk:PySem.W.keepIn X.K (.ref f)=true)(hb:Binds X.K fd ps [])(h:QE .P X E b wb)(hN:X.N[i]? = some y:=by rfl)(hv:Vis X.env.scope y:=by first | exact QR rfl | exact Q2 (QR rfl) | exact Q2 (Q2 rfl))(hd:(y == ("__debug__" : Str))=false:=by decide)(hcd:(y == ("__classdict__" : Str))=false:=by decide)(h2:notStar b=true:=by rfl)(hdb:(x == ("__debug__" : Str))=false:=by decide):QE .F X E (.Call (.Name x p) [.Name y pos2,b] [] pos) (Quz i wb):=⟨QtQ G hr hg hm hk hb (pv i hN hv hd hcd) h.h rfl h2 hdb⟩
theorem QvQ{y:Str}{p pos pos2:Pos}(i:Nat)(hg:Gl X "len")(hm:X.mg "len" = none)(hN:X.N[i]? = some y:=by rfl)(hv:Vis X.env.scope y:=by first | exact QR rfl | exact Q2 (QR rfl) | exact Q2 (Q2 rfl))(hd:(y == ("__debug__" : Str))=false:=by decide)(hcd:(y == ("__classdict__" : Str))=false:=by decide):QE .F X E (.Call (.Name "len" p) [.Name y pos2] [] pos) (Quy i):=⟨QtN hg hm (pv i hN hv hd hcd) rfl⟩
theorem ZP(i:Nat){x:Str}{pos:Pos}(hN:X.N.Nodup)(hi:X.N[i]? = some x)(hx:Loc X.env.scope x)(hf:X.fn x=true∨X.env.scope.names.lookup x=some .local:=by first | exact .inl rfl | exact .inr rfl | assumption):QG [i] X (.Name x pos) (gN i):=⟨QpR (QeL hN hi hx hf)⟩
structure QGs (X:Cx) (es:List Q5) (is:List Nat):Prop where h:PGs X es (gNs is)
theorem Qbx  : QGs X [] []:=⟨QmI⟩
theorem Zq(i:Nat){is:List Nat}{x:Str}{pos:Pos}{es:List Q5}(h:QGs X es is)(hN:X.N.Nodup)(hi:X.N[i]? = some x)(hx:Loc X.env.scope x)(hf:X.fn x=true∨X.env.scope.names.lookup x=some .local:=by first | exact .inl rfl | exact .inr rfl | assumption)(hs:(assignEach (.Name x pos::es) X.env).map (·.2)=assign (.Name x pos) X.env::(assignEach es X.env).map (·.2):=by rfl):QGs X (.Name x pos::es) (i::is):=⟨QgA (QeL hN hi hx hf) h.h hs⟩
theorem Qbw{es:List Q5}{k:Nat}{pos:Pos}{is:List Nat}(hc:X.calm=true)(h:QGs X es is)(hn:(assignEach es X.env).length=is.length:=by rfl)(hst:(assignEach es X.env).findIdx? (·.1)=none:=by rfl):QG is X (.Tuple es k pos) (gTN is):=⟨QtL (Qsb hc h.h hn hst) rfl⟩
theorem QbG{m:Md}{tg e:Q5}{w:DE}(h:QE m X E e w):QI m X E tg e (QzZ w):=⟨QpQ h.h⟩
theorem Qbf{m:Md}{tg e:Q5}{w:DE}(h:QE m X E e w):QI m X E tg e (QzY w):=⟨QtK h.h⟩
theorem Qcv{m:Md}{tg e:Q5}{w:DE}{p pos:Pos}(hg:Gl X "range")(hm:X.mg "range" = none)(h:QE .P X E e w)(hs:notStar e=true:=by rfl):QI m X E tg (.Call (.Name "range" p) [e] [] pos) (Qxg w):=⟨QpP hg hm h.h hs⟩
theorem Qpi{m:Md}{e:Q5}{w:DE}{p pos tpos:Pos}{elts:List Q5}{x1}(hg:Gl X "enumerate")(hm:X.mg "enumerate" = none)(h:QE m X E e w)(hs:notStar e=true:=by rfl):QI m X E (.Tuple elts x1 tpos) (.Call (.Name "enumerate" p) [e] [] pos) (Qz2 w):=⟨QmR hg hm h.h hs⟩
theorem Qte{m:Md}{e e':Q5}{w w':DE}{p pos tpos:Pos}{elts:List Q5}{x1}(hg:Gl X "zip")(hm:X.mg "zip" = none)(h:QE m X E e w)(h':QE m X E e' w')(hs:notStar e=true:=by rfl)(hs':notStar e'=true:=by rfl):QI m X E (.Tuple elts x1 tpos) (.Call (.Name "zip" p) [e,e'] [] pos) (QzQ w w'):=⟨QpO hg hm h.h h'.h hs hs'⟩
theorem Qph{m:Md}{e:Q5}{w:DE}{p pos tpos:Pos}{elts:List Q5}{x1}(hg:Gl X "enumerate")(hm:X.mg "enumerate" = none)(h:QE m X E e w)(hs:notStar e=true:=by rfl):QI m X E (.Tuple elts x1 tpos) (.Call (.Name "enumerate" p) [e] [] pos) (Qz1 w):=⟨QmQ hg hm h.h hs⟩
theorem Qtd{m:Md}{e e':Q5}{w w':DE}{p pos tpos:Pos}{elts:List Q5}{x1}(hg:Gl X "zip")(hm:X.mg "zip" = none)(h:QE m X E e w)(h':QE m X E e' w')(hs:notStar e=true:=by rfl)(hs':notStar e'=true:=by rfl):QI m X E (.Tuple elts x1 tpos) (.Call (.Name "zip" p) [e,e'] [] pos) (QzP w w'):=⟨QpN hg hm h.h h'.h hs hs'⟩
theorem Yq  : QTs X E [] QxV:=⟨QpC⟩
theorem Qds{c:Q5}{t:DT}(h:QT X E c t):QTs X E [c] t:=⟨QpB h.h⟩
theorem Qao(M:List Str)(cap:List (Option Nat)){elt tg iter:Q5}{ifs:List Q5}{scope:Qbk}{pos:Pos}{ix:List Nat}{wi:DI}{wg:DG}{wt:DT}{we:DE}(hi:QI .P X E tg iter wi)(hb:∀cl ex s3 H3 C,QG ix (blk X M scope cl ex s3 H3 C) tg wg/\QTs (blk X M scope cl ex s3 H3 C) E0 ifs wt/\QE .D (blk X M scope cl ex s3 H3 C) E0 elt we)(hc:X.calm=true:=by rfl)(ok:Qje X.N X.env.scope M scope cap=true:=by rfl)(hf:Qlh cap ix=true:=by rfl)(hs:∀x,foldedSetIterable iter X.env x=pure x:=by intro _;rfl):QE .F X E (.ListComp elt [⟨tg,iter,ifs,0⟩] scope pos) (dComp cap wi wg wt we):=⟨QtP hc ok hf hi.h (λcl ex s3 H3 C=>⟨(hb cl ex s3 H3 C).1.h,(hb cl ex s3 H3 C).2.1.h,(hb cl ex s3 H3 C).2.2.h⟩) hs⟩
theorem Yf  : QSs X E [] Quw:=⟨QpD⟩
theorem Ja{st:Z6}{w:DS}(h:QS X E st w):QSs X E [st] w:=⟨QtB h.h⟩
theorem QF{st:Z6}{rest:List Z6}{w w':DS}(h:QS X E st w)(h':QSs X E rest w'):QSs X E (st::rest) (QzS w w'):=⟨QpJ h.h h'.h⟩
theorem Ze(i:Nat){x:Str}{e:Q5}{pos pos':Pos}{we:DE}(he:QE .D X E e we)(hN:X.N.Nodup)(hi:X.N[i]? = some x:=by rfl)(hx:Loc X.env.scope x:=by first | exact QR rfl | exact Q2 rfl)(hs:swapsWith e (some (.Name x pos')) pos.line X.env=pure false:=by rfl)(hf:X.fn x=true∨X.env.scope.names.lookup x=some .local:=by first | exact .inl rfl | exact .inr rfl | assumption):QS X E (.Assign [.Name x pos'] e pos) (Qzf i we):=⟨QmO (Qa2 hN hi hx he.h hs hf)⟩
theorem Qgu(i:Nat){x:Str}{e:Q5}{pos pos':Pos}{we:DE}(he:QE .F X E e we)(hN:X.N.Nodup)(hi:X.N[i]? = some x:=by rfl)(hx:Loc X.env.scope x:=by first | exact QR rfl | exact Q2 rfl)(hs:swapsWith e (some (.Name x pos')) pos.line X.env=pure false:=by rfl)(hf:X.fn x=true∨X.env.scope.names.lookup x=some .local:=by first | exact .inl rfl | exact .inr rfl | assumption):QS X E (.Assign [.Name x pos'] e pos) (Qxf i we):=⟨QpF (Qa2 hN hi hx he.h hs hf)⟩
theorem Qta(i:Nat){x:Str}{e:Q5}{pos pos':Pos}{we:DE}(he:QE .F X E e we)(hN:X.N.Nodup)(hi:X.N[i]? = some x:=by rfl)(hx:Loc X.env.scope x:=by first | exact QR rfl | exact Q2 rfl)(hs:swapsWith e (some (.Name x pos')) pos.line X.env=pure false:=by rfl)(hf:X.fn x=true∨X.env.scope.names.lookup x=some .local:=by first | exact .inl rfl | exact .inr rfl | assumption):QS X E (.Assign [.Name x pos'] e pos) (Qxe i we):=⟨QpE (Qa2 hN hi hx he.h hs hf)⟩
theorem Qmz{tg e:Q5}{pos:Pos}{ix:List Nat}{we:DE}{wg:DG}(he:QE .D X E e we)(hg:QG ix X tg wg)(hs:swapsWithSole [tg] e pos.line X.env=pure false:=by rfl)(hw:swappedStores [tg] e X.env=pure none:=by rfl)(h1:(assignEach [tg] X.env).map (·.2)=[assign tg X.env]:=by rfl):QS X E (.Assign [tg] e pos) (Qz3 we wg):=⟨QtI (Qr7 he.h hg.h hs hw h1)⟩
theorem Z7{e:Q5}{pos:Pos}{we:DE}(h:QE .D X E e we):QS X E (.Return (some e) pos) (Qzh we):=⟨Qtz h.h⟩
theorem Qbn{e:Q5}{pos:Pos}{we:DE}(h:QE .F X E e we):QS X E (.Return (some e) pos) (Qxh we):=⟨QpH h.h⟩
theorem Qmx(i:Nat){x:Str}{pos pos2:Pos}(hN:X.N[i]? = some x:=by rfl)(hv:Vis X.env.scope x:=by first | exact QR rfl | exact Q2 (QR rfl) | exact Q2 (Q2 rfl))(hd:(x == ("__debug__" : Str))=false:=by decide)(hcd:(x == ("__classdict__" : Str))=false:=by decide):QS X E (.Return (some (.Name x pos)) pos2) (Qux i):=⟨QpG (pv i hN hv hd hcd)⟩
theorem QbQ{c:Q5}{a b:List Z6}{pos:Pos}{t:DT}{w w':DS}(hc:QT X E c t)(ha:QSs X E a w)(hb:QSs X E b w'):QS X E (.If c a b pos) (dIf t w w'):=⟨Qv2 hc.h ha.h hb.h⟩
theorem Qmy(i:Nat){x:Str}{e:Q5}{we:DE}{op:QcN}{ti:TIp}{rD:Qb->Qb->(Qb->Prop)->Prop}{pos pos':Pos}(ho:PIp X op ti)(hd:QrM ti rD)(he:QE .P X E e we)(hN:X.N.Nodup)(hi:X.N[i]? = some x:=by rfl)(hx:Loc X.env.scope x:=by first | exact QR rfl | exact Q2 rfl)(hf:X.fn x=true∨X.env.scope.names.lookup x=some .local:=by first | exact .inl rfl | exact .inr rfl | assumption):QS X E (.AugAssign (.Name x pos') op e pos) (Qzl i rD we):=⟨QtH hd (QvV hN hi hx he.h (PIp.len ho) hf)⟩
theorem QvO{y:Str}{e:Q5}{we:DE}{apos cpos pos npos:Pos}(i:Nat)(he:QE .D X E e we)(hN:X.N[i]? = some y:=by rfl)(hv:Vis X.env.scope y:=by first | exact QR rfl | exact Q2 (QR rfl) | exact Q2 (Q2 rfl))(hd:(y == ("__debug__" : Str))=false:=by decide)(hcd:(y == ("__classdict__" : Str))=false:=by decide)(hst:notStar e=true:=by rfl)(hbase:attributeBase (.Name y npos) "append" X.env (eval (.Name y npos) X.env)=eval (.Name y npos) X.env:=by rfl)(hfew:((backTo cpos (starEach [e] X.env)).all (λx => !x.1)&&(backToKw cpos (keywordEach [] X.env)).all (λx=>x.1.isSome)&&decide ([e].length+([]:List QcR).length+(if([]:List QcR).isEmpty then 0 else 1)<30))=true:=by rfl)(hline:(apos.endLine == cpos.line)=true:=by rfl)(hsw:swapsWith (.Call (.Attribute (.Name y npos) "append" apos) [e] [] cpos) none pos.line X.env=pure false:=by rfl):QS X E (.Expr (.Call (.Attribute (.Name y npos) "append" apos) [e] [] cpos) pos) (Qzm i we):=⟨QtJ (Qgy (QkV PySem.F.plainAttrs_list PySem.F.slot_list_append PySem.F.type_list_append QhU (pv i hN hv hd hcd) (Qcy he.h J3 hst) hbase hfew hline (ZZ hst) rfl) hsw)⟩
theorem QvN{y:Str}{e:Q5}{we:DE}{apos cpos pos npos:Pos}(i:Nat)(he:QE .P X E e we)(hN:X.N[i]? = some y:=by rfl)(hv:Vis X.env.scope y:=by first | exact QR rfl | exact Q2 (QR rfl) | exact Q2 (Q2 rfl))(hd:(y == ("__debug__" : Str))=false:=by decide)(hcd:(y == ("__classdict__" : Str))=false:=by decide)(hst:notStar e=true:=by rfl)(hbase:attributeBase (.Name y npos) "extend" X.env (eval (.Name y npos) X.env)=eval (.Name y npos) X.env:=by rfl)(hfew:((backTo cpos (starEach [e] X.env)).all (λx => !x.1)&&(backToKw cpos (keywordEach [] X.env)).all (λx=>x.1.isSome)&&decide ([e].length+([]:List QcR).length+(if([]:List QcR).isEmpty then 0 else 1)<30))=true:=by rfl)(hline:(apos.endLine == cpos.line)=true:=by rfl)(hsw:swapsWith (.Call (.Attribute (.Name y npos) "extend" apos) [e] [] cpos) none pos.line X.env=pure false:=by rfl):QS X E (.Expr (.Call (.Attribute (.Name y npos) "extend" apos) [e] [] cpos) pos) (Qzj i we):=⟨QtG (Qgy (QkV PySem.F.plainAttrs_list PySem.F.slot_list_extend PySem.F.type_list_extend Qno (pv i hN hv hd hcd) (Qcy he.h J3 hst) hbase hfew hline (ZZ hst) rfl) hsw)⟩
theorem Qtc{y:Str}{e k:Q5}{we wk:DE}{op:QcN}{ti:TIp}{rD:Qb->Qb->(Qb->Prop)->Prop}{pos tpos npos:Pos}(i:Nat)(ho:PIp X op ti)(hd:QrM ti rD)(hk:QE .P X E k wk)(he:QE .P X E e we)(hN:X.N[i]? = some y:=by rfl)(hv:Vis X.env.scope y:=by first | exact QR rfl | exact Q2 (QR rfl) | exact Q2 (Q2 rfl))(hdd:(y == ("__debug__" : Str))=false:=by decide)(hcd:(y == ("__classdict__" : Str))=false:=by decide)(ha:∀ov iv new,augStore k ov iv new=(do holding [new,ov,iv] (setItem ov iv new);release [new,ov,iv] [];pure .next):=by intros;rfl):QS X E (.AugAssign (.Subscript (.Name y npos) k tpos) op e pos) (QuA i rD wk we):=⟨QpK hd (Qtl (pv i hN hv hdd hcd) hk.h Qrr he.h (PIp.len ho) QjE ha)⟩
theorem QbO{tg iter:Q5}{body:List Z6}{pos:Pos}{ix:List Nat}{wi:DI}{wg:DG}{wb:DS}(hp:Qf7 (model X.prog X.w) X.A X.env X.xe)(hc:X.calm=true)(hi:QI .D X E tg iter wi)(hg:QG ix X tg wg)(hb:QSs X E body wb)(hs:∀x,foldedSetIterable iter X.env x=pure x:=by intro _;rfl):QS X E (.For tg iter body [] pos) (dFor wi wg wb):=⟨QtF hp hc hi.h hg.h hb.h hs⟩
theorem Qgv{x:Str}{C:Addr}{e0:Q5}{we:DE}{np cpos pos:Pos}(hxe:∀e s1,wpAny (model X.prog X.w) X.A (leaving X.env e) (λ_ s2=>Rx.CXE X.prog X.w X.outer X.H₀ X.s₀ E e s2) (λe' s2=>Rx.CXE X.prog X.w X.outer X.H₀ X.s₀ E e' s2) s1->X.xe e s1)(hm:X.mg x=some (.ref C))(q:PySem.W.excIn X.K C Rx.mroV "ValueError.__new__" = true)(ha:QE .P X E e0 we)(hstk:X.stack=X.env::X.outer:=by rfl)(hfr:X.env.frame=some X.env.locals:=by rfl)(hex:X.ex=[]:=by rfl)(hc:X.calm=true:=by rfl)(hg:Gl X x:=by rfl)(he:starEach [e0] X.env=[(false,eval e0 X.env)]:=by rfl)(hd:(x == ("__debug__" : Str))=false:=by decide):QS X E (.Raise (some (.Call (.Name x np) [e0] [] cpos)) none pos) (Qsv C we):=⟨QmP (Rx.Qpo hxe hstk hfr hex hc hg hm q ha.h he hd)⟩
theorem Qtb{e:Q5}{we:DE}{pos:Pos}(he:QE .P X E e we)(hs:swapsWith e none pos.line X.env=pure false:=by rfl):QS X E (.Expr e pos) (Qxk we):=⟨QpI (Qgy he.h hs)⟩
theorem Qr3{st:Z6}{w:DS}(h:QS X.nox E0 st w):QS X E st (λD δ=>w { D with ex:=XF } δ):=⟨QtC h.h⟩
end
section
variable{P:QP}{w:JH}{K:PySem.W.Frag}{mg:Str->Option Value}{base:Zl}
theorem okQ{x qual:Str}{st:Z6}{f:Addr}{fd:QL}{N ps:List Str}{k:Nat}{fD:DF}(fr:Bool)(F:Fun K x qual st f fd)(S:Jx N ps (Qs st))(len:∀args R EX,fD args R EX->args.length=ps.length)
  (hbody:∀(cdv:Value)(A:Js)(outer:List Env)(s:Shared)(H:Hp)(E:XK),Room k (A.deeper (envOfC qual (Qs st) s.heap.objs.size f cdv)) ->
   ∃wd,QSs (cxOf CX0 P w K mg base N qual (Qs st) f cdv A outer s H E).nox E0 (Jv st) wd/\∀args R EX,fD args R EX->wd (QnT fr R XF) (stD N args)):FnOk P w K mg base CX0 (k+1) f fd ps (Zh fr fD):=
 okD fr F S len λcdv A outer s H E hr=>let ⟨wd,h,q⟩:=hbody cdv A outer s H E hr;⟨wd,h.h,q⟩
theorem QxT{x qual:Str}{st:Z6}{f:Addr}{fd:QL}{N ps:List Str}{k:Nat}{fD:DF}(fr:Bool)(F:Fun K x qual st f fd)(S:Jx N ps (Qs st))(len:∀args R EX,fD args R EX->args.length=ps.length)
  (hbody:∀(cdv:Value)(A:Js)(outer:List Env)(s:Shared)(H:Hp)(E:XK),Room k (A.deeper (envOfC qual (Qs st) s.heap.objs.size f cdv)) ->
   ∃wd,QSs (cxOf (Rx.CXE P w) P w K mg base N qual (Qs st) f cdv A outer s H E) E (Jv st) wd/\∀args R EX,fD args R EX->wd (QnT fr R EX) (stD N args)):FnOk P w K mg base (Rx.CXE P w) (k+1) f fd ps (Zh fr fD):=
 QAv fr F S len λcdv A outer s H E hr=>let ⟨wd,h,q⟩:=hbody cdv A outer s H E hr;⟨wd,h.h,q⟩
theorem QAu{x qual:Str}{st:Z6}{f:Addr}{fd:QL}{N:List Str}{p:Str}{k:Nat}(F:Fun K x qual st f fd)(S:Jx N [p] (Qs st))
  (hbody:∀(cdv:Value)(A:Js)(outer:List Env)(s:Shared)(H:Hp)(E:XK),Room k (A.deeper (envOfC qual (Qs st) s.heap.objs.size f cdv)) ->
   ∃wd,QSs (cxOf CX0 P w K mg base N qual (Qs st) f cdv A outer s H E).nox E0 (Jv st) wd/\wd Qw6 (stD N [.scr])):FnOk P w K mg base CX0 (k+1) f fd [p] (Qfx K):=
 QyZ F S λcdv A outer s H E hr=>let ⟨wd,h,q⟩:=hbody cdv A outer s H E hr;⟨wd,h.h,q⟩
end
section
variable{K:PySem.W.Frag}{σ σ4:L2.St}{δ δ4:Sts}{cap:List (Option Nat)}{ix:List Nat}{A1:Addr->Prop}{H3 H5 H6:Hp}
end
section
variable{X:Cx}{E:XK}
end
section
variable{X:Cx}{E:XK}
end
section
open Rs PySem.W PySem.Calls
variable{X:Cx}
end
def QAL(a b:DI):DI:=λδ R EX=>a δ R EX∨b δ R EX
theorem QyH{X:Cx}{E:XK}{m:Md}{tg e:Q5}{a b:DI}(h:QI m X E tg e a)(h':QI m X E tg e b):QI m X E tg e (QAL a b):=⟨λpins s σ H R I ⟨F,δ,R',EX,rel,hw,k,o⟩=>by
 rcases hw with hw | hw
 ·exact h.h pins s σ H R I ⟨F,δ,R',EX,rel,hw,k,o⟩
 ·exact h'.h pins s σ H R I ⟨F,δ,R',EX,rel,hw,k,o⟩⟩
end Dl
namespace PySem
namespace AutoSeq1
open PyProof
end AutoSeq1
end PySem
namespace L2
end L2
namespace Dl
open L2 _root_.Rd Rk
section
variable{X:Cx}{E:XK}
end
theorem Qn4{K:PySem.W.Frag}{E:XK}{cap:List (Option Nat)}{ix:List Nat}{wi:DI}{wg:DG}{wt:DT}{we:DE}(hf:Qlh cap ix=true)(σ:L2.St)(H:Hp)(Q:VK)(h:tX .F K E (dComp cap wi wg wt we) σ H Q) :
  tComp cap (tI .P K E wi) (tG ix K wg) (tT K E0 wt) (tX .D K E0 we) σ H Q:=by
 obtain⟨F,δ,R,EX,rel,hw,k,o⟩:=h;refine⟨F,δ,_,EX,rel,hw,λitems hC J H1 rel1 kp1 ⟨ln,it⟩ p hp=>?_,o⟩;unfold Qjj at hC;obtain⟨Iv,i0,step,fin⟩:=hC;have hpn:¬Qai σ δ p:=λz=>by obtain⟨xs,e⟩:=rel1.isl (Qaz (F:=F) z);rw[hp] at e;cases e
 let A1:Addr->Prop:=λa=>Av F σ δ a∨a=p
 have hP:∀a,Qai σ δ a->A1 a:=λa z=>.inl (Qaz z)
 have hN:∀a,A1 a->Av F σ δ a∨H1 a=none:=λa z=>z.elim .inl λz=>.inr (by rw[z];exact hp)
 have dmK:∀{H2:Hp},Kp σ δ H1 H2->(∃ys,H2 p=some (.lst ys))->∀a,A1 a->∃xs,H2 a=some (.lst xs):=λ{H2} k2 e2 a z=>by
  rcases z with z | z
  ·exact(rel1.kp k2).isl z
  ·rw[z];exact e2
 refine Qi0 items.length (λi H2=>i<=items.length/\∃acc,Iv i acc/\acc.length<=i/\Lp σ δ A1 p H1 H2 acc) ⟨QC _,[],i0,Ql _,Kp.same rel1 (Jy hp),[],JK,.nil⟩ (λi H2 hi ⟨_,acc,iv,hl,lp⟩=>?_) λH2 ⟨_,acc,iv,hl,lp⟩=>?_
 ·obtain⟨k2,ys,e2,q2⟩:=lp;obtain⟨go,_⟩:=it H2 A1 (λb o n e=>k2.1 b o n e) hN (dmK k2 ⟨ys,e2⟩);have hd:items[i]? = some items[i]:=Qf hi;obtain⟨g1,g2⟩:=go i _ hd;refine⟨g1,λx H3 y kk hk=>?_⟩;obtain⟨s3,dx⟩:=g2 x H3 y;have k23:=Kp.same (rel1.kp k2) s3;have lp3:Lp σ δ A1 p H1 H3 acc:=Lp.step hP hpn ⟨k2,ys,e2,q2⟩ k23;refine QlU hf rel1 (λa z=>.inl z) hN (dmK lp3.kp ⟨ys,s3 _ _ e2⟩) lp3.kp dx (step i acc _ hd iv) (λσ4 δ4 H5 h5 r5 k5 pots=>?_) λh5 H5 k5=>hk _ ⟨hi,acc,h5,by omega,lp3.step hP hpn k5⟩
  exact Qss (.inr rfl) hP hp hpn (lp3.step hP hpn k5) (by omega) r5 pots h5 λe he H' lp'=>hk _ ⟨hi,acc++[e],he,by rw[Qq];show _+1<=_;omega,lp'⟩
 ·obtain⟨k2,ys,e2,q2⟩:=lp;obtain⟨_,st⟩:=it H2 A1 (λb o n e=>k2.1 b o n e) hN (dmK k2 ⟨ys,e2⟩);refine⟨st,k _ (fin acc iv) (.ref p) H2 (rel1.kp k2) (kp1.trans k2) ⟨.lst (λz=>?_) e2 (q2.mv (λ_ _ _ e=>e) λa z=>.inl (.inl z)),λl e1 _=>?_⟩⟩
  ·obtain⟨xs,e⟩:=rel1.isl z;rw[hp] at e;cases e
  ·cases e1;exact Qcz kp1 hp
theorem QAJ{K:PySem.W.Frag}{E:XK}{w:DE}(σ:L2.St)(H:Hp)(Q:VK)(h:tX .D K E w σ H Q):tX .F K E w σ H Q:=by
 obtain⟨F,δ,R,EX,rel,hw,k,o⟩:=h;exact⟨F,δ,R,EX,rel,hw,λd hd v H' r kp vk=>k d hd v H' r kp vk.1,o⟩
section
variable{X:Cx}{E:XK}
theorem QeK(M:List Str)(cap:List (Option Nat))(i:Nat){elt tg iter:Q5}{ifs:List Q5}{scope:Qbk}{pos py spos:Pos}{y:Str}{ix:List Nat}{wi:DI}{wg:DG}{wt:DT}{we:DE}(hN:X.N.Nodup)(hi:QI .P X E tg iter wi)(hb:∀cl ex s3 H3 C,QG ix (blk X M scope cl ex s3 H3 C) tg wg/\QTs (blk X M scope cl ex s3 H3 C) E0 ifs wt/\QE .D (blk X M scope cl ex s3 H3 C) E0 elt we)(hiy:X.N[i]? = some y:=by rfl)(hly:X.env.scope.names.lookup y=some .local:=by rfl)(hc:X.calm=true:=by rfl)(ok:Qje X.N X.env.scope M scope cap=true:=by rfl)(hf:Qlh cap ix=true:=by rfl)(hs:∀x,foldedSetIterable iter X.env x=pure x:=by intro _;rfl)(hsw:swapsWith (.ListComp elt [⟨tg,iter,ifs,0⟩] scope pos) (some (.Name y py)) spos.line X.env=pure true:=by rfl):QS X E (.Assign [.Name y py] (.ListComp elt [⟨tg,iter,ifs,0⟩] scope pos) spos) (Qzf i (dComp cap wi wg wt we)):=
 ⟨QmO (PS.imp (PS.imp (Qpp hN hiy hly hc ok hi.h (λcl ex s3 H3 C=>⟨(hb cl ex s3 H3 C).1.h,(hb cl ex s3 H3 C).2.1.h,(hb cl ex s3 H3 C).2.2.h⟩) hs hsw) λD σ H q=>Qn4 (E:=E) hf σ H _ q) λD σ H q=>QAJ σ H _ q)⟩
end
section
variable{X:Cx}{E:XK}
end
theorem Qby(L:List (Int×Int)):nds (L.map Rk.pairD)=true:=QiS.mpr λd hd=>by
 obtain⟨i,_,rfl⟩:=Qy.mp hd;rfl
def rkD:Qb->Nat
 |.int _=>0
 |.tuple _=>1
 |_=>2
def Qfn(i j:Int):Ordering:=if i<j then .lt else if i=j then .eq else .gt
def QAN(i j:Nat):Ordering:=if i<j then .lt else if i=j then .eq else .gt
def thn(o:Ordering)(p:Ordering):Ordering:=match o with
 |.eq=>p
 |o=>o
mutual
def Qcn:Qb->Qb->Ordering
 |.int i,.int j=>Qfn i j
 |.tuple a,.tuple b=>Qbz a b
 |x,y=>QAN (rkD x) (rkD y)
def Qbz:List Qb->List Qb->Ordering
 |[],[]=>.eq
 |[],_::_=>.lt
 |_::_,[]=>.gt
 |x::xs,y::ys=>thn (Qcn x y) (Qbz xs ys)
end
def isL:Ordering->Bool
 |.lt=>true
 |_=>false
def ltD(x y:Qb):Bool:=isL (Qcn x y)
def Quf(x y:List Qb):Bool:=isL (Qbz x y)
def sw:Ordering->Ordering
 |.lt=>.gt
 |.gt=>.lt
 |.eq=>.eq
def QfX:Ordering->Bool
 |.gt=>false
 |_=>true
theorem Qvj(a b:Ordering):sw (thn a b)=thn (sw a) (sw b):=by cases a<;>rfl
theorem QuC(i j:Int):Qfn j i=sw (Qfn i j):=by
 unfold Qfn;by_cases h:i<j
 ·rw[if_neg (by omega),if_neg (by omega),if_pos h];rfl
 ·by_cases h2:i=j
  ·rw[if_neg (by omega),if_pos h2.symm,if_neg h,if_pos h2];rfl
  ·rw[if_pos (by omega),if_neg h,if_neg h2];rfl
theorem QuD(i j:Int):QfX (Qfn i j)=decide (i<=j):=by
 unfold Qfn;by_cases h:i<j
 ·rw[if_pos h];exact(decide_eq_true (by omega)).symm
 ·by_cases h2:i=j
  ·rw[if_neg h,if_pos h2];exact(decide_eq_true (by omega)).symm
  ·rw[if_neg h,if_neg h2];exact(decide_eq_false (by omega)).symm
mutual
theorem QdJ:∀(x y:Qb),Qcn y x=sw (Qcn x y)
 |.int i,.int j=>QuC i j
 |.tuple a,.tuple b=>Qkl a b
 |.int _,.tuple _=>rfl
 |.tuple _,.int _=>rfl
 |.int _,.none=>rfl
 |.int _,.bool _=>rfl
 |.int _,.str _=>rfl
 |.int _,.list _=>rfl
 |.int _,.dict _=>rfl
 |.tuple _,.none=>rfl
 |.tuple _,.bool _=>rfl
 |.tuple _,.str _=>rfl
 |.tuple _,.list _=>rfl
 |.tuple _,.dict _=>rfl
 |.none,y=>by cases y<;>rfl
 |.bool _,y=>by cases y<;>rfl
 |.str _,y=>by cases y<;>rfl
 |.list _,y=>by cases y<;>rfl
 |.dict _,y=>by cases y<;>rfl
theorem Qkl:∀(xs ys:List Qb),Qbz ys xs=sw (Qbz xs ys)
 |[],[]=>rfl
 |[],_::_=>rfl
 |_::_,[]=>rfl
 |x::xs,y::ys=>by
  show thn (Qcn y x) (Qbz ys xs)=sw (thn (Qcn x y) (Qbz xs ys));rw[QdJ x y,Qkl xs ys,Qvj]
end
theorem QwI{a c:Ordering}(hab:QfX a=true)(h:QfX (sw c)=true->QfX (sw a)=true)(ha:a=.lt):c=.lt:=by
 subst ha;cases c with
 |lt=>rfl
 |eq=>cases h rfl
 |gt=>cases h rfl
mutual
theorem QgY:∀(x y z:Qb),QfX (Qcn x y)=true->QfX (Qcn y z)=true->QfX (Qcn x z)=true
 |.int i,.int j,.int k,h1,h2=>by
  have h1:QfX (Qfn i j)=true:=h1;have h2:QfX (Qfn j k)=true:=h2;show QfX (Qfn i k)=true;rw[QuD] at h1 h2 ⊢;have a:=of_decide_eq_true h1;have b:=of_decide_eq_true h2;exact decide_eq_true (by omega)
 |.tuple a,.tuple b,.tuple c,h1,h2=>Qkk a b c h1 h2
 |.int _,y,.tuple _,h1,h2=>rfl
 |.int _,.tuple _,.int _,h1,h2=>by cases h2
 |.tuple _,.int _,z,h1,h2=>by cases h1
 |.tuple _,.tuple _,.int _,h1,h2=>by cases h2
 |.int _,y,.none,_,_=>rfl
 |.int _,y,.bool _,_,_=>rfl
 |.int _,y,.str _,_,_=>rfl
 |.int _,y,.list _,_,_=>rfl
 |.int _,y,.dict _,_,_=>rfl
 |.tuple _,y,.none,_,_=>rfl
 |.tuple _,y,.bool _,_,_=>rfl
 |.tuple _,y,.str _,_,_=>rfl
 |.tuple _,y,.list _,_,_=>rfl
 |.tuple _,y,.dict _,_,_=>rfl
 |.int _,.none,.int _,h1,h2=>by cases h2
 |.int _,.bool _,.int _,h1,h2=>by cases h2
 |.int _,.str _,.int _,h1,h2=>by cases h2
 |.int _,.list _,.int _,h1,h2=>by cases h2
 |.int _,.dict _,.int _,h1,h2=>by cases h2
 |.tuple _,.none,.int _,h1,h2=>by cases h2
 |.tuple _,.bool _,.int _,h1,h2=>by cases h2
 |.tuple _,.str _,.int _,h1,h2=>by cases h2
 |.tuple _,.list _,.int _,h1,h2=>by cases h2
 |.tuple _,.dict _,.int _,h1,h2=>by cases h2
 |.tuple _,.none,.tuple _,h1,h2=>by cases h2
 |.tuple _,.bool _,.tuple _,h1,h2=>by cases h2
 |.tuple _,.str _,.tuple _,h1,h2=>by cases h2
 |.tuple _,.list _,.tuple _,h1,h2=>by cases h2
 |.tuple _,.dict _,.tuple _,h1,h2=>by cases h2
 |.none,y,z,h1,h2=>by cases y<;>cases z<;>first | rfl | (cases h1;done) | (cases h2;done)
 |.bool _,y,z,h1,h2=>by cases y<;>cases z<;>first | rfl | (cases h1;done) | (cases h2;done)
 |.str _,y,z,h1,h2=>by cases y<;>cases z<;>first | rfl | (cases h1;done) | (cases h2;done)
 |.list _,y,z,h1,h2=>by cases y<;>cases z<;>first | rfl | (cases h1;done) | (cases h2;done)
 |.dict _,y,z,h1,h2=>by cases y<;>cases z<;>first | rfl | (cases h1;done) | (cases h2;done)
 termination_by x y z=>sizeOf x+sizeOf y+sizeOf z
theorem Qkk:∀(xs ys zs:List Qb),QfX (Qbz xs ys)=true->QfX (Qbz ys zs)=true->QfX (Qbz xs zs)=true
 |[],_,[],_,_=>rfl
 |[],_,_::_,_,_=>rfl
 |_::_,[],_,h1,_=>by cases h1
 |_::_,_::_,[],_,h2=>by cases h2
 |x::xs,y::ys,z::zs,h1,h2=>by
  have h1:QfX (thn (Qcn x y) (Qbz xs ys))=true:=h1;have h2:QfX (thn (Qcn y z) (Qbz ys zs))=true:=h2;show QfX (thn (Qcn x z) (Qbz xs zs))=true;have a1:QfX (Qcn x y)=true:=by cases e:Qcn x y<;>rw[e] at h1<;>first | rfl | cases h1
  have a2:QfX (Qcn y z)=true:=by cases e:Qcn y z<;>rw[e] at h2<;>first | rfl | cases h2
  have a3:=QgY x y z a1 a2;cases e1:Qcn x y with
  |gt=>rw[e1] at a1;cases a1
  |lt=>
   have:Qcn x z=.lt:=QwI (a:=Qcn x y) a1 (λq=>by
    rw[<- QdJ x z] at q;rw[<- QdJ x y];exact QgY y z x a2 q) e1
   rw[this];rfl
  |eq=>
   cases e2:Qcn y z with
   |gt=>rw[e2] at a2;cases a2
   |lt=>
    have:Qcn x z=.lt:=QwI (a:=Qcn y z) a2 (λq=>by
     rw[<- QdJ x z] at q;rw[<- QdJ y z];exact QgY z x y q a1) e2
    rw[this];rfl
   |eq=>
    rw[e1] at h1;rw[e2] at h2;cases e3:Qcn x z with
    |gt=>rw[e3] at a3;cases a3
    |lt=>rfl
    |eq=>exact Qkk xs ys zs h1 h2
 termination_by x y z=>sizeOf x+sizeOf y+sizeOf z
end
theorem QwT(o:Ordering):isL (sw o) = !QfX o:=by cases o<;>rfl
theorem Qsk(x y:Qb):ltD y x = !QfX (Qcn x y):=by unfold ltD;rw[QdJ x y,QwT]
theorem Qj2(x y:Qb)(h:ltD x y=true):ltD y x=false:=by
 rw[Qsk];unfold ltD at h;cases e:Qcn x y<;>rw[e] at h<;>first | rfl | cases h
theorem QwG(x y z:Qb)(h1:ltD y x=false)(h2:ltD z y=false):ltD z x=false:=by
 rw[Qsk] at h1 h2 ⊢;rw[QgY x y z (by simpa using h1) (by simpa using h2)];rfl
mutual
def Qip:Qb->Qb->Bool
 |.int _,.int _=>true
 |.tuple a,.tuple b=>Qc4 a b
 |_,_=>false
def Qc4:List Qb->List Qb->Bool
 |x::xs,y::ys=>Qip x y&&Qc4 xs ys
 |_,_=>true
end
def isE:Ordering->Bool
 |.eq=>true
 |_=>false
theorem Qun(a b:Ordering):isE (thn a b)=(isE a&&isE b):=by cases a<;>rfl
mutual
theorem QnP:∀(x y:Qb),Qip x y=true->Q6 x y=isE (Qcn x y)
 |.int i,.int j,_=>by
  show(i == j)=isE (Qfn i j);unfold Qfn;by_cases h:i=j
  ·subst h;simp[isE]
  ·rw[beq_eq_false_iff_ne.mpr h];split
   ·rfl
   ·rfl
 |.tuple a,.tuple b,h=>QnN a b h
 |.int _,.tuple _,h=>by cases h
 |.tuple _,.int _,h=>by cases h
 |.int _,.none,h=>by cases h
 |.int _,.bool _,h=>by cases h
 |.int _,.str _,h=>by cases h
 |.int _,.list _,h=>by cases h
 |.int _,.dict _,h=>by cases h
 |.tuple _,.none,h=>by cases h
 |.tuple _,.bool _,h=>by cases h
 |.tuple _,.str _,h=>by cases h
 |.tuple _,.list _,h=>by cases h
 |.tuple _,.dict _,h=>by cases h
 |.none,y,h=>by cases y<;>cases h
 |.bool _,y,h=>by cases y<;>cases h
 |.str _,y,h=>by cases y<;>cases h
 |.list _,y,h=>by cases y<;>cases h
 |.dict _,y,h=>by cases y<;>cases h
theorem QnN:∀(xs ys:List Qb),Qc4 xs ys=true->QdN xs ys=isE (Qbz xs ys)
 |[],[],_=>rfl
 |[],_::_,_=>rfl
 |_::_,[],_=>rfl
 |x::xs,y::ys,h=>by
  have h:=Qu.mp (show(Qip x y&&Qc4 xs ys)=true from h);show(Q6 x y&&QdN xs ys)=isE (thn (Qcn x y) (Qbz xs ys));rw[QnP x y h.1,QnN xs ys h.2,Qun]
end
end Dl
namespace Rt
open PySem.Calls Dl
theorem Qe1:∀{ds:List Qb}{d:Qb},d∈ds->d.depth<=Jc ds
 |x::ds,d,h=>by
  show d.depth<=max x.depth (Jc ds);rcases Qz.mp h with z | z
  ·subst z;exact Nat.le_max_left _ _
  ·exact QQ (Qe1 z) (Qf8 _ _)
theorem readsAll_len{h:Zl}:∀{vs:List Value}{ds:List Qb}{as:List Addr},Yg h vs ds as->vs.length=ds.length
 |_,_,_,.nil=>rfl
 |_,_,_,.cons _ r=>by rw[QU,QU,readsAll_len r]
section
open PySem.SeqAt
open PySem.AutoSeq1 (wpAny_loadPart')
open PySem.MeetsSeq PySem.MeetsSeq2 PySem.MeetsSeq3
theorem QdR{l b:Addr}{items items2:Array Value}{n n2:Nat}{dd dd2:Option Addr}{sl sl2:Array (Option Value)}{ds es:List Qb}{as bs:List Addr}{N:Nat}(hk:Qc4 ds es=true)(hc1:Q4 ds=true)(hc2:Q4 es=true)(hd:Jc ds<=N)
  (ih:∀(x y:Qb)(A:Js)(s:Shared)(v u:Value)(p q:List Addr),Qbs s.heap v x p->Qbs s.heap u y q->x.canLay0=true->y.canLay0=true->Qip x y=true->x.depth<=N->A.units+2*N+2<cLine->∀(prog:QP)(w:JH)(E Q:Value->Shared->Prop),Q (.bool (ltD x y)) s->wpAny (model prog w) A (richCompare .Lt v u) Q E s) :
  Meets (QcT.«tuple.__lt__» ⟨[.ref l,.ref b],[]⟩)
   (λA R s=>s.heap.get? l=some { cls:=.type "tuple",dict:=dd,data:=.seq items n,slots:=sl }/\s.heap.get? b=some { cls:=.type "tuple",dict:=dd2,data:=.seq items2 n2,slots:=sl2 }/\Yg s.heap items.toList ds as/\Yg s.heap items2.toList es bs/\A.units+2*N+4<cLine /\
    R (.ok (.ret (.bool (Quf ds es)))) s):=
 .of_wp λprog w A R s h=>by
  obtain⟨hp,g,d,tk,os⟩:=s;obtain⟨hl,hb,hr1,hr2,hu,h⟩:=h;have f2:=AutoSeq1.sub_tuple_tuple;have hu1:A.in1.units+2*N+2<cLine:=by show A.units+1+2*N+2<cLine;omega
  have z1:items.size=ds.length:=by rw[<- readsAll_len hr1];simp
  have z2:items2.size=es.length:=by rw[<- readsAll_len hr2];simp
  wp_walk using QaO hl,QaO hb,wpAny_forIn_list _ (λrest b s'=>b.1=none/\s'=⟨hp,g,d,tk,os⟩/\∃(vs ws:List Value)(xs ys:List Qb)(p q:List Addr),rest=vs.zip ws /\
   Yg hp vs xs p/\Yg hp ws ys q/\Qc4 xs ys=true/\Q4 xs=true/\Q4 ys=true/\Jc xs<=N/\xs.length+items2.size=ys.length+items.size/\R (.ok (.ret (.bool (Quf xs ys)))) ⟨hp,g,d,tk,os⟩) _
  case turn=>
   rintro⟨y,x⟩ rest b s' ⟨hb',rfl,vs,ws,xs,ys,p,q,hz,hvi,hwi,hkk,c1,c2,hdd,hlen,hR⟩;cases hvi with
   |nil=>rw[List.zip_nil_left] at hz;cases hz
   |@cons v0 vs0 d1 ds1 as1 as2 r1 hvi'=>
    cases hwi with
    |nil=>rw[List.zip_nil_right] at hz;cases hz
    |@cons u0 us0 d2 ds2 bs1 bs2 r2 hwi'=>
     rw[Qeb] at hz;injection hz with hyx hrest
     injection hyx with hy hx
     subst hy hx;have hkk:=Qu.mp (show(Qip d1 d2&&Qc4 ds1 ds2)=true from hkk);simp only[Q4,Jr] at c1 c2;have dm1:d1.depth<=N:=QQ (Qe1 (ds:=d1::ds1) (.head _)) hdd;have dm2:Jc ds1<=N:=QQ (show Jc ds1<=max d1.depth (Jc ds1) from Qf8 _ _) hdd;simp only[QU] at hlen;have he:=Qfg d1 d2 A.in1 ⟨hp,g,d,tk,os⟩ y x _ _ r1 r2 c1.1 c2.1 (by omega);have hR:R (.ok (.ret (.bool (isL (thn (Qcn d1 d2) (Qbz ds1 ds2)))))) ⟨hp,g,d,tk,os⟩:=hR;rw[QnP d1 d2 hkk.1] at he;have hri:=λE Q=>ih d1 d2 A.in1 ⟨hp,g,d,tk,os⟩ y x _ _ r1 r2 c1.1 c2.1 hkk.1 dm1 hu1 prog w E Q
     unfold ltD at hri;cases e1:Qcn d1 d2 with
     |lt=>
      rw[e1] at he hR hri;refine Qa (he prog w _ _ ?_)
      wp_walk using hri
      exact⟨_,rfl,hR⟩
     |gt=>
      rw[e1] at he hR hri;refine Qa (he prog w _ _ ?_)
      wp_walk using hri
      exact⟨_,rfl,hR⟩
     |eq=>
      rw[e1] at he hR;refine Qa (he prog w _ _ ?_)
      wp_walk
      exact⟨rfl,rfl,_,_,_,_,_,_,hrest,hvi',hwi',hkk.2,c1.2,c2.2,dm2,by omega,hR⟩
  case fin=>
   rintro⟨b1,b2⟩ s' ⟨hb',rfl,vs,ws,xs,ys,p,q,hz,hvi,hwi,hkk,c1,c2,hdd,hlen,hR⟩;simp only at hb';subst hb';have hv:Quf xs ys=decide (items.size<items2.size):=by
    cases hvi with
    |nil=>
     cases hwi with
     |nil=>
      simp only[QcH] at hlen;exact(decide_eq_false (by omega)).symm
     |cons r2 hw=>
      simp only[QcH,QU] at hlen;exact(decide_eq_true (by omega)).symm
    |cons r1 hv=>
     cases hwi with
     |nil=>
      simp only[QcH,QU] at hlen;exact(decide_eq_false (by omega)).symm
     |cons r2 hw=>
      rw[Qeb] at hz;cases hz
   rw[hv] at hR
   wp_walk
   exact⟨_,rfl,by simpa [Qyp] using hR⟩
  case h=>
   exact⟨rfl,rfl,items.toList,items2.toList,ds,es,as,bs,rfl,hr1,hr2,hk,hc1,hc2,hd,by omega,h⟩
end
end Rt
namespace Rt
open PySem.Calls PySem.W Dl
mutual
def okK:Qb->Bool
 |.int _=>true
 |.tuple ds=>Qg9 ds
 |_=>false
def Qg9:List Qb->Bool
 |[]=>true
 |d::ds=>okK d&&Qg9 ds
end
mutual
theorem Qdr{h h':Zl}(k:∀b o,h.get? b=some o->h'.get? b=some o):∀(d:Qb)(v:Value)(as:List Addr),okK d=true->Qbs h v d as->Qbs h' v d as
 |.int _,_,_,_,.int i t=>.int i t
 |.tuple ds,_,_,hk,.tuple (vs:=vs) e c d r=>.tuple (k _ _ e) c d (QaR k ds _ _ hk r)
 |.none,_,_,hk,_=>by cases hk
 |.bool _,_,_,hk,_=>by cases hk
 |.str _,_,_,hk,_=>by cases hk
 |.list _,_,_,hk,_=>by cases hk
 |.dict _,_,_,hk,_=>by cases hk
theorem QaR{h h':Zl}(k:∀b o,h.get? b=some o->h'.get? b=some o):∀(ds:List Qb)(vs:List Value)(as:List Addr),Qg9 ds=true->Yg h vs ds as->Yg h' vs ds as
 |[],_,_,_,.nil=>.nil
 |d::ds,_,_,hk,.cons r rs=>by
  have hk:=Qu.mp (show(okK d&&Qg9 ds)=true from hk);exact .cons (Qdr k d _ _ hk.1 r) (QaR k ds _ _ hk.2 rs)
end
theorem Qs4:∀(N:Nat)(x y:Qb)(A:Js)(s:Shared)(v u:Value)(p q:List Addr),Qbs s.heap v x p->Qbs s.heap u y q->x.canLay0=true->y.canLay0=true->Qip x y=true->x.depth<=N->A.units+2*N+2<cLine->∀(prog:QP)(w:JH)(E Q:Value->Shared->Prop),Q (.bool (ltD x y)) s->wpAny (model prog w) A (richCompare .Lt v u) Q E s:=by
 intro N;have intz:∀(i j:Int)(A:Js)(s:Shared)(v u:Value)(p q:List Addr),Qbs s.heap v (.int i) p->Qbs s.heap u (.int j) q->∀(prog:QP)(w:JH)(E Q:Value->Shared->Prop),Q (.bool (ltD (.int i) (.int j))) s->wpAny (model prog w) A (richCompare .Lt v u) Q E s:=by
  intro i j A s v u p q r1 r2 prog w E Q h;cases r1;cases r2;refine HT.Qpe A s i _ j _ prog w E Q ?_
  have e:ltD (.int i) (.int j)=decide (i<j):=by
   show isL (Qfn i j)=_;unfold Qfn;by_cases z:i<j
   ·rw[if_pos z,decide_eq_true z];rfl
   ·rw[if_neg z,decide_eq_false z];split<;>rfl
  rw[e] at h;exact h
 induction N with
 |zero=>
  intro x y A s v u p q r1 r2 c1 c2 hk hd hu prog w E Q h;cases x<;>cases y<;>first | (cases hk;done) | skip
  ·exact intz _ _ A s v u p q r1 r2 prog w E Q h
  ·unfold Jp at hd;omega
 |succ N ih=>
  intro x y A s v u p q r1 r2 c1 c2 hk hd hu prog w E Q h;cases x<;>cases y<;>first | (cases hk;done) | skip
  ·exact intz _ _ A s v u p q r1 r2 prog w E Q h
  ·rename_i ds es
   cases r1 with
   |@tuple a o vs n _ _ ho hc hd' ra=>
    cases r2 with
    |@tuple b o2 vs2 n2 _ _ ho2 hc2 hd2 rb=>
     obtain⟨cls,dd,data,sl⟩:=o;obtain⟨cls2,dd2,data2,sl2⟩:=o2;simp only at hc hd' hc2 hd2;subst hc hd' hc2 hd2;have dd3:Jc ds<=N:=by unfold Jp at hd;omega
     exact richCompare_meets_room (op:=.Lt) ⟨_,ho,rfl⟩ ⟨_,ho2,rfl⟩ PySem.F.slot_tuple_lt PySem.F.entry_tuple_lt (PySem.F.args_tuple_lt_2 _ _) (QdR (N:=N) hk c1 c2 dd3 ih)
      ⟨ho,ho2,ra,rb,by omega,show ZW (Quf ds es)≠Value.notImplemented/\Q (.bool (Quf ds es)) s from⟨(λx=>nomatch x),h⟩⟩ (by omega)
theorem Qk0{N:Nat}{ds es:List Qb}{A:Js}{s:Shared}{v u:Value}{p q:List Addr}(r1:Qbs s.heap v (.tuple ds) p)(r2:Qbs s.heap u (.tuple es) q)(c1:Q4 ds=true)(c2:Q4 es=true)(hk:Qc4 ds es=true)(hd:Jc ds<=N)(hu:A.units+2*N+4<cLine){prog:QP}{w:JH}{E:Value->Shared->Prop}{C:Bool->Shared->Prop}(h:C (Quf ds es) s):wpAny (model prog w) A (oneLt' true v u) C E s:=by
 cases r1 with
 |@tuple a o vs n _ _ ho hc hd' ra=>
  cases r2 with
  |@tuple b o2 vs2 n2 _ _ ho2 hc2 hd2 rb=>
   obtain⟨cls,dd,data,sl⟩:=o;obtain⟨cls2,dd2,data2,sl2⟩:=o2;simp only at hc hd' hc2 hd2;subst hc hd' hc2 hd2;rw[oneLt'_eq];simp only[if_true];refine Qa (wpAny_cRoomFor (by omega) ?_);refine Qa (wpAny_callSpecialIfBound?_slot ⟨_,ho,rfl⟩ PySem.F.slot_tuple_lt (Qa8 PySem.F.slot_tuple_lt ⟨_,ho,rfl⟩ PySem.F.entry_tuple_lt (PySem.F.args_tuple_lt_2 _ _) (QdR (N:=N) hk c1 c2 hd λx y=>Qs4 N x y) ⟨ho,ho2,ra,rb,hu,?_⟩));exact Zp h
section
variable{prog:QP}{w:JH}{A:Js}{E:Value->Shared->Prop}{s:Shared}
theorem Qsh{N:Nat}{x y:Qb}{v u:Value}{p q:List Addr}(r1:Qbs s.heap v x p)(r2:Qbs s.heap u y q)(c1:x.canLay0=true)(c2:y.canLay0=true)(hk:Qip x y=true)(hd:x.depth<=N)(hu:A.units+2*N+2<cLine){C:Bool->Shared->Prop}(h:C (ltD x y) s):wpAny (model prog w) A (oneLt' false v u) C E s:=by
 refine kat_one v u ?_
 exact Qs4 N x y A s v u p q r1 r2 c1 c2 hk hd hu prog w E _ h
theorem Qnq(i j:Int):ltD (.int i) (.int j)=decide (i<j):=by
 show isL (Qfn i j)=_;unfold Qfn;by_cases z:i<j
 ·rw[if_pos z,decide_eq_true z];rfl
 ·rw[if_neg z,decide_eq_false z];split<;>rfl
def Qus:List Qb->Prop
 |.int _::_=>True
 |_=>False
theorem Qsm{b:Bool}{n1 n2 N:Nat}{C:Bool->Shared->Prop}(hu:A.units+2*N+2<cLine):∀(vs us:List Value)(xs ys:List Qb)(p q:List Addr)(i:Nat),Yg s.heap vs xs p->Yg s.heap us ys q->Q4 xs=true->Q4 ys=true->Qc4 xs ys=true->Jc xs<=N->(b=true->i=0->Qus xs)->xs.length+n2=ys.length+n1 ->
  C (Quf xs ys) s->KatLex prog w A b (decide (n1<n2)) C (vs.zip us) i s
 |[],us,xs,ys,p,q,i,r1,r2,c1,c2,hk,hd,hb,hl,h=>by
  cases r1;refine kat_nil ?_
  cases r2 with
  |nil=>rw[show decide (n1<n2)=false from decide_eq_false (by simp at hl;omega)];exact h
  |cons r rs=>rw[show decide (n1<n2)=true from decide_eq_true (by simp at hl;omega)];exact h
 |v::vs,[],xs,ys,p,q,i,r1,r2,c1,c2,hk,hd,hb,hl,h=>by
  cases r2;cases r1;refine kat_nil ?_
  rw[show decide (n1<n2)=false from decide_eq_false (by simp at hl;omega)];exact h
 |v::vs,u::us,xs,ys,p,q,i,r1,r2,c1,c2,hk,hd,hb,hl,h=>by
  cases r1 with
  |@cons _ _ d1 ds1 as1 as2 r1 rs1=>
   cases r2 with
   |@cons _ _ d2 ds2 bs1 bs2 r2 rs2=>
    have hk:=Qu.mp (show(Qip d1 d2&&Qc4 ds1 ds2)=true from hk);simp only[Q4,Jr] at c1 c2;have dm1:d1.depth<=N:=QQ (Qe1 (ds:=d1::ds1) (.head _)) hd;have dm2:Jc ds1<=N:=QQ (show Jc ds1<=max d1.depth (Jc ds1) from Qf8 _ _) hd;have h:C (isL (thn (Qcn d1 d2) (Qbz ds1 ds2))) s:=h;have one:C (ltD d1 d2) s->wpAny (model prog w) A (oneLt' (b&&i == 0) v u) C (λ_ _=>False) s:=λhc=>by
     cases e:(b&&i == 0) with
     |false=>exact Qsh (N:=N) r1 r2 c1.1 c2.1 hk.1 dm1 hu hc
     |true=>
      have e:=Qu.mp e;have hh:=hb e.1 (beq_iff_eq.mp e.2);cases d1<;>first | exact hh.elim | skip
      cases d2<;>first | (cases hk.1;done) | skip
      cases r1;cases r2;rw[Qnq] at hc;exact oneLt_int hc
    refine kat_cons (Qfg d1 d2 A s v u _ _ r1 r2 c1.1 c2.1 (by omega) prog w _ _ ?_);rw[QnP d1 d2 hk.1];cases e1:Qcn d1 d2 with
    |lt=>rw[e1] at h;exact kat_no (one (by unfold ltD;rw[e1];exact h))
    |gt=>rw[e1] at h;exact kat_no (one (by unfold ltD;rw[e1];exact h))
    |eq=>
     rw[e1] at h;refine kat_yes (Qsm hu vs us ds1 ds2 _ _ (i+1) rs1 rs2 c1.2 c2.2 hk.2 dm2 (λ_ z=>by omega) (by simp only[QU] at hl;omega) h)
def QrL(ds:List Qb)(κ:Yv):Prop:=κ=general'∨κ=oneType'∨κ=tuples' false∨(κ=tuples' true/\∀d∈ds,∃es,d=.tuple es/\Qus es)
theorem QwL{N:Nat}{ds:List Qb}{κ:Yv}{x y:Qb}{v u:Value}{p q:List Addr}(su:QrL ds κ)(hx:x∈ds)(r1:Qbs s.heap v x p)(r2:Qbs s.heap u y q)(c1:x.canLay0=true)(c2:y.canLay0=true)(hk:Qip x y=true)(tb:∀b,κ=tuples' b->∃es,x=.tuple es)(hd:x.depth<=N)(hu:A.units+2*N+4<cLine){C:Bool->Shared->Prop}(h:C (ltD x y) s) :
  wpAny (model prog w) A (keyLt' κ v u) C E s:=by
 have tup:∀b,κ=tuples' b->(b=true->∃es,x=.tuple es/\Qus es)->wpAny (model prog w) A (keyLt' κ v u) C E s:=λb hb hh=>by
  subst hb;obtain⟨es,rfl⟩:=tb b rfl;cases y<;>first | (cases hk;done) | skip
  rename_i fs
  cases r1 with
  |@tuple a o vs n _ _ ho hc hd' ra=>
   cases r2 with
   |@tuple b2 o2 vs2 n2 _ _ ho2 hc2 hd2 rb=>
    have dd3:Jc es<=N:=by unfold Jp at hd;omega
    refine kat_lt ho hd' ho2 hd2 (Qsm (N:=N) (by omega) _ _ es fs _ _ 0 ra rb c1 c2 hk dd3 (λe _=>?_) ?_ h)
    ·obtain⟨es',e',hh⟩:=hh e;cases e';exact hh
    ·have e1:=readsAll_len ra;have e2:=readsAll_len rb;rw[Qo] at e1 e2;omega
 rcases su with rfl | rfl | rfl | ⟨rfl,hall⟩
 ·exact Qsh (N:=N) r1 r2 c1 c2 hk hd (by omega) h
 ·cases x<;>cases y<;>first | (cases hk;done) | skip
  ·cases r1;cases r2;rw[Qnq] at h;exact oneLt_int h
  ·have dd3:∀{es:List Qb},(Yd es).depth<=N->Jc es<=N:=λ{es} h=>by unfold Jp at h;omega
   exact Qk0 (N:=N) r1 r2 c1 c2 hk (dd3 hd) hu h
 ·exact tup false rfl λe=>by cases e
 ·exact tup true rfl λ_=>hall x hx
end
section
variable{M:QkB}{A:Js}{E:Value->Shared->Prop}{s:Shared}
theorem QfQ{α β:Type}{f:α->Sem β}{g:α->β}:∀(l:List α){Q:List β->Shared->Prop},(∀v∈l,∀(Q':β->Shared->Prop),Q' (g v) s->wpAny M A (f v) Q' E s)->Q (l.map g) s->wpAny M A (l.mapM f) Q E s
 |[],_,_,h=>by rw[List.mapM_nil];exact Qk h
 |x::l,Q,hf,h=>by
  rw[List.mapM_cons];exact Qa (hf x (.head _) _ (Qa (QfQ l (Q:=λbs s'=>wpAny M A (pure (g x::bs)) Q E s') (λv hv=>hf v (.tail _ hv)) (Qk h))))
end
def Qio(h:Zl)(v:Value):Option Value:=match v with
 |.ref a=>(match h.get? a with
  |some o=>(match o.data with
   |.seq xs _=>xs[0]?
   |_=>none)
  |none=>none)
 |_=>none
def tyV(h:Zl)(v:Value):Value:=match v with
 |.int _ _=>.type "int"
 |.ref a=>(match h.get? a with
  |some o=>o.cls
  |none=>.none)
 |_=>.none
theorem Yz:∀{ds:List Qb},Qg9 ds=true->∀d∈ds,okK d=true
 |x::ds,h,d,hd=>by
  have h:=Qu.mp (show(okK x&&Qg9 ds)=true from h);rcases Qz.mp hd with z | z
  ·rw[z];exact h.1
  ·exact Yz h.2 d z
theorem QiP:∀{ds:List Qb},(∀d∈ds,okK d=true)->Qg9 ds=true
 |[],_=>rfl
 |x::ds,h=>by
  show(okK x&&Qg9 ds)=true;rw[h x (.head _),QiP λd hd=>h d (.tail _ hd)];rfl
theorem Z3{h:Zl}:∀{vs:List Value}{ds:List Qb}{as:List Addr},Yg h vs ds as->∀v∈vs,∃d∈ds,∃bs,Qbs h v d bs
 |_,_,_,.cons (d:=d) r rs,v,hv=>by
  rcases Qz.mp hv with z | z
  ·rw[z];exact⟨d,.head _,_,r⟩
  ·obtain⟨d',hd,bs,r'⟩:=Z3 rs v z;exact⟨d',.tail _ hd,bs,r'⟩
theorem QcZ{h:Zl}:∀{vs:List Value}{ds:List Qb}{as:List Addr},Yg h vs ds as->∀d∈ds,∃v∈vs,∃bs,Qbs h v d bs
 |_,_,_,.cons (d:=d) (v:=v) r rs,d',hd=>by
  rcases Qz.mp hd with z | z
  ·rw[z];exact⟨v,.head _,_,r⟩
  ·obtain⟨v',hv,bs,r'⟩:=QcZ rs d' z;exact⟨v',.tail _ hv,bs,r'⟩
section
variable{prog:QP}{w:JH}{A:Js}{E:Value->Shared->Prop}{s:Shared}
theorem Qiw{v:Value}{d:Qb}{bs:List Addr}(r:Qbs s.heap v d bs)(hk:okK d=true){Q:Value->Shared->Prop}(q:Q (tyV s.heap v) s):wpAny (model prog w) A (typeOf v) Q E s:=by
 cases r<;>first | (cases hk;done) | skip
 ·exact Qk q
 ·rename_i a o vs n xs ho hc hd ra
  refine wpAny_typeOf_ref ho ?_
  have e:tyV s.heap (.ref a)=o.cls:=by unfold tyV;simp only[ho]
  rw[e] at q;exact q
theorem Qj6{vs:List Value}{ds:List Qb}{as:List Addr}{Q:Yv->Shared->Prop}(ra:Yg s.heap vs ds as)(hk:Qg9 ds=true)(ht:∀d∈ds,∃es,d=.tuple es)(h:∀κ,QrL ds κ->Q κ s):wpAny (model prog w) A (keyKind' vs.toArray) Q E s:=by
 have rd:=Z3 ra;have fs:∀v∈vs,∀(Q':Option Value->Shared->Prop),Q' (Qio s.heap v) s->wpAny (model prog w) A (firstOfTuple' v) Q' E s:=λv hv Q' q=>by
  obtain⟨d,hd,bs,r⟩:=rd v hv;obtain⟨es,rfl⟩:=ht d hd;cases r with
  |@tuple a o xs n _ _ ho hc hd' r'=>
   rw[kas_first_eq];refine Qa (wpAny_typeOf_ref ho ?_);rw[hc];rw[if_neg (by decide)];refine Qa (listItems_at ho hd' (Qk ?_));have e:Qio s.heap (.ref a)=xs[0]? := by unfold Qio;simp only[ho,hd']
   rw[<- e];exact q
 rw[keyKind'_eq,QaK,map_eq_pure_bind];refine Qa (Qa (QfQ (g:=Qio s.heap) vs fs (Qk ?_)));by_cases z:((vs.map (Qio s.heap)).toArray.all λx=>x.isSome)=true
 ·rw[if_pos z];refine Qa (Yj ?_);have hfm:((vs.map (Qio s.heap)).toArray.filterMap id)=(vs.filterMap (Qio s.heap)).toArray:=by simp[Qau]
  have heads:∀u∈vs.filterMap (Qio s.heap),∃d bs,Qbs s.heap u d bs/\okK d=true:=λu hu=>by
   obtain⟨v,hv,e⟩:=Yw.mp hu;obtain⟨d,hd,bs,r⟩:=rd v hv;obtain⟨es,rfl⟩:=ht d hd;have ko:=Yz hk _ hd;cases r with
   |@tuple a o xs n _ _ ho hc hd' r'=>
    have e2:Qio s.heap (.ref a)=xs[0]? := by unfold Qio;simp only[ho,hd']
    rw[e2] at e;have hm:u∈xs.toList:=by rw[<- ZO] at e;exact QV e
    obtain⟨d2,hd2,bs2,r2⟩:=Z3 r' u hm;exact⟨d2,bs2,r2,Yz ko _ hd2⟩
  rw[hfm,Qkt,QaK,map_eq_pure_bind];refine Qa (Qa (Qa (QfQ (g:=tyV s.heap) _ (λu hu Q' q=>?_) (Qk ?_))))
  ·obtain⟨d,bs,r,ko⟩:=heads u hu;exact Qiw r ko q
  ·have fin:∀o:Option Value,(o.any (· != Yl "tuple")=true->∀u∈vs.filterMap (Qio s.heap),tyV s.heap u≠Yl "tuple")->Q (tuples' (o.any (· != Yl "tuple"))) s:=λo ho=>by
    cases e:o.any (· != Yl "tuple") with
    |false=>exact h _ (.inr (.inr (.inl rfl)))
    |true=>
     refine h _ (.inr (.inr (.inr ⟨rfl,λd hd=>?_⟩)));obtain⟨es,rfl⟩:=ht d hd;obtain⟨v,hv,bs,r⟩:=QcZ ra _ hd;refine⟨es,rfl,?_⟩;have ko:=Yz hk _ hd;cases r with
     |@tuple a oo xs n _ _ ho' hc hd' r'=>
      have e2:Qio s.heap (.ref a)=xs[0]? := by unfold Qio;simp only[ho',hd']
      have some1:(Qio s.heap (.ref a)).isSome=true:=by
       have z':=Qee.mp z (Qio s.heap (JT a)) (by simp;exact⟨_,hv,rfl⟩);exact z'
      rw[e2] at some1;obtain⟨u,hu⟩:=Qhk.mp some1;have hl:=(Array.getElem?_eq_some_iff.mp hu).1;have nt:=ho e u (Yw.mpr ⟨_,hv,by rw[e2];exact hu⟩);have hu':xs.toList[0]? = some u:=by rw[ZO];exact hu
      cases hx:xs.toList with
      |nil=>rw[hx] at hu';cases hu'
      |cons u0 us=>
       rw[hx] at hu' r';have e0:u0=u:=by simpa using hu'
       subst e0;cases r' with
       |@cons _ _ d1 ds1 as1 as2 r1 rs1=>
        have ko1:=(Qu.mp (show(okK d1&&Qg9 ds1)=true from ko)).1;cases r1<;>first | (cases ko1;done) | skip
        ·trivial
        ·rename_i a2 o2 vs2 n2 xs2 ho2 hc2 hd2 ra2
         exfalso
         apply nt
         unfold tyV;simp only[ho2];exact hc2
   cases hg:((vs.filterMap (Qio s.heap)).map (tyV s.heap)).toArray[0]? with
   |none=>exact Qk (Qk (fin none λe=>by cases e))
   |some t=>
    dsimp only
    refine Qk (Qk (fin _ λe u hu=>?_));split at e
    ·rename_i hall
     have ne:(t != Yl "tuple")=true:=e;have te:(tyV s.heap u == t)=true:=by
      have:=Qee.mp hall (tyV s.heap u) (by simp;exact⟨u,by simpa using Yw.mp hu,rfl⟩);exact this
     rw[eq_of_beq te]
     simpa using ne
    ·cases e
 ·rw[if_neg z];split
  ·exact Qk (h _ (.inl rfl))
  ·rw[Qkt,QaK,map_eq_pure_bind];refine Qa (Qa (Qa (QfQ (g:=tyV s.heap) _ (λv hv Q' q=>?_) (Qk ?_))))
   ·obtain⟨d,hd,bs,r⟩:=rd v hv;exact Qiw r (Yz hk _ hd) q
   ·have fin:∀b:Bool,wpAny (model prog w) A (pure (if b=true then oneType' else general')) Q E s:=λb=>by
     cases b
     ·exact Qk (h _ (.inl rfl))
     ·exact Qk (h _ (.inr (.inl rfl)))
    split
    ·exact Qk (fin _)
    ·exact Qk (fin _)
end
end Rt
namespace Rt
open PySem.Calls PySem.W Dl Rs
section
variable{prog:QP}{w:JH}{A:Js}{E:Value->Shared->Prop}{s:Shared}
def prs(vs:List Value):Array Keyed:=vs.toArray.zip vs.toArray
theorem Qem(vs:List Value):(prs vs).toList=vs.zip vs:=by unfold prs;rw[Array.toList_zip]
theorem Qtm(vs:List Value):(prs vs).toList.map (·.2)=vs:=by rw[Qem];exact List.map_snd_zip (Ql _)
theorem QcW:∀{vs:List Value}{p:Keyed},p∈vs.zip vs->p.1=p.2/\p.2∈vs
 |v::vs,p,h=>by
  rw[Qeb] at h;rcases Qz.mp h with z | z
  ·rw[z];exact⟨rfl,.head _⟩
  ·exact⟨(QcW z).1,.tail _ (QcW z).2⟩
theorem QgN{a:Addr}{vs:List Value}{n:Nat}{P:PySem.Fin->Shared->Prop}(ho:s.heap.get? a=some (seqObj "list" vs.toArray n))(hz:vs.length<=sizeLine){c:Keyed->Keyed->Bool}(oc:Ord c)
  (hkind:∀h':Zl,Kept a s.heap h'->∀(Q':Yv->Shared->Prop)(E':Value->Shared->Prop),(∀κ,Asks prog w A { s with heap:=h' } κ (prs vs) c->Q' κ { s with heap:=h' })->wpAny (model prog w) A (keyKind' vs.toArray) Q' E' { s with heap:=h' })
  (h:∀arr:Array Keyed,arr.Perm (prs vs)->Sg c arr 0 arr.size->∀(h':Zl)(e:Nat),Kept a s.heap h'->h'.get? a=some (seqObj "list" (arr.toList.map (·.2)).toArray e)->P (.done (.ret .none)) { s with heap:=h' }) :
  wpAny (model prog w) A (QcT.«list.sort» ⟨[.ref a],[]⟩) P E s:=by
 have ha:a<s.heap.objs.size:=Qv ho;obtain⟨e1,ho1⟩:∃e1,(s.heap.update a (Yr λ_=>(#[]:Array Value))).get? a=some (seqObj "list" #[] e1):=⟨_,Qku ho λ_=>#[]⟩
 have K3:Kept a s.heap (((s.heap.update a (Yr λ_=>(#[]:Array Value))).push (seqObj "tuple" vs.toArray 0)).push (seqObj "list" #[] 0)):=(Qgf _).trans ((QhG _).trans (QhG _));have ho6:(((s.heap.update a (Yr λ_=>(#[]:Array Value))).push (seqObj "tuple" vs.toArray 0)).push (seqObj "list" #[] 0)).get? a=some (seqObj "list" #[] e1):=Qe _ (Qe _ ho1);rw[list_sort_plain];refine Qa (listItems_at ho rfl ?_);refine Qa (QoI ho rfl ?_ (by rw[Qp];exact hz) (QC _));refine Qa (Qu0 ho1 rfl ?_);refine Qa (wpAny_newTuple ?_ (by show vs.length<=_;exact hz));refine Qa (wpAny_newList ?_ (QC _));refine Z2 ?_
 show wpAny (model prog w) A _ P E { s with heap:=((s.heap.update a (Yr λ_=>(#[]:Array Value))).push (seqObj "tuple" vs.toArray 0)).push (seqObj "list" #[] 0) }
 dsimp only
 generalize (((s.heap.update a (Yr λ_=>(#[]:Array Value))).push (seqObj "tuple" vs.toArray 0)).push (seqObj "list" #[] 0))=h3 at K3 ho6 ⊢;have out:∀arr:Array Keyed,arr.map (·.2)=(arr.toList.map (·.2)).toArray:=λarr=>by
  apply Qfj.mp
  rw[Array.toList_map]
 have psz:(prs vs).size=vs.length:=by rw[<- Qo,Qem,List.length_zip,QcQ]
 by_cases h2:vs.toArray.size<2
 ·rw[if_pos h2,if_pos h2];refine Qa (Qk ?_);rw[StateT.run_pure];refine Qa (Qk ?_)
  dsimp only
  have f:Sg c (prs vs) 0 (prs vs).size:=λi j _ hij hj=>by
   rw[psz] at hj;rw[Qp] at h2;rw[show i=j by omega];exact oc.irr _
  refine Qa (Qu0 ho6 rfl ?_);refine Qa (QoI ho6 rfl ?_ (QC _) (by rw[QuW];show(prs vs).size<=_;rw[(Qef (prs vs)).size_eq,psz];omega));simp only[bne_self_eq_false,Yx,if_false];show wpAny _ _ (ret Zs) _ _ { s with heap:=h3.update a (Yr λ_=>Array.map (λx=>x.snd) (prs vs)) };rw[out];exact Qk (h (prs vs) (Qef (prs vs)) (f) _ _ (K3.trans (Qgf _)) (Qku ho6 λ_=>_))
 ·rw[if_neg h2,if_neg h2];refine Qa (hkind h3 K3 _ _ λκ hA=>?_);refine Qa (J6 (Qis (a₀:=prs vs) (κ:=κ) (st:=Qx8 κ (prs vs) #[] 7 none) (Q:=λ_ st'=>SB κ (prs vs) st'/\Sg c (arrOf st') 0 (prs vs).size) hA ⟨Qef _,rfl,rfl⟩ rfl λst' b g=>⟨b,g⟩) ?_ λ_ _ e=>e);rintro⟨⟨⟩,st'⟩ s' ⟨rfl,b,g⟩
  dsimp only
  rw[b.failed];have g2:Sg c (arrOf st') 0 (arrOf st').size:=by rw[b.size];exact g
  refine Qa (Qu0 ho6 rfl ?_);refine Qa (QoI ho6 rfl ?_ (QC _) (by rw[QuW];show(arrOf st').size<=_;rw[(b.perm).size_eq,psz];omega));simp only[bne_self_eq_false,Yx,if_false];show wpAny _ _ (ret Zs) _ _ { s with heap:=h3.update a (Yr λ_=>Array.map (λx=>x.snd) (arrOf st')) };rw[out];exact Qk (h (arrOf st') (b.perm) (g2) _ _ (K3.trans (Qgf _)) (Qku ho6 λ_=>_))
theorem Qgn{Q:Value->Shared->Prop}{l:Addr}{T:String}{o:Obj}{vs:List Value}{n:Nat}(hT:T = "list" ∨ T = "tuple")(ho:s.heap.get? l=some o)(hc:o.cls=.type T)(hd:o.data=.seq vs.toArray n)(hz:vs.length<=sizeLine)
  (h:∀h':Zl,(∀b x,s.heap.get? b=some x->h'.get? b=some x)->∀(P:PySem.Fin->Shared->Prop)(E':Value->Shared->Prop),(∀s2,Q (.ref h'.objs.size) s2->P (.done (.ret .none)) s2) ->
   wpAny (model prog w) A.in1.in1 (QcT.«list.sort» ⟨[.ref h'.objs.size],[]⟩) P E' { s with heap:=h'.push (seqObj "list" vs.toArray 0) }) :
  wpAny (model prog w) A (call (.builtin "sorted") [.ref l]) Q E s:=by
 refine Calls.call_function_entry kind_sorted plain_sorted entry_sorted (args_sorted1 _) ?_
 unfold QcT.«sorted»;refine Qa (m:=checkCount "sorted" 1 1 _) (Qk ?_);refine Qa (wpAny_collect_seq (items:=vs.toArray) l hT ho hc hd (λh' kp=>?_) (by rw[Qp];exact hz));refine Qa (wpAny_newList ?_ (by rw[List.toList_toArray];exact hz));have hoL:(h'.push (seqObj "list" vs.toArray 0)).get? h'.objs.size=some (seqObj "list" vs.toArray 0):=QK _ rfl;show wpAny _ _ _ _ _ { s with heap:=h'.push (seqObj "list" vs.toArray 0) };refine Qa (Z2 (ZV slot_list_sort ⟨_,hoL,rfl⟩ entry_list_sort ?body (args_list_sort _)));exact h h' kp _ _ λs2 hq=>⟨_,rfl,Qk ⟨_,rfl,hq⟩⟩
open Classical in
noncomputable def rdV (h:Zl) (v:Value):Qb:=if q:∃d as,Qbs h v d as/\d.canLay0=true then q.choose else .none
theorem Qmp{h:Zl}{v:Value}{d:Qb}{as:List Addr}(r:Qbs h v d as)(c:d.canLay0=true):rdV h v=d:=by
 unfold rdV;have q:∃d as,Qbs h v d as/\d.canLay0=true:=⟨d,as,r,c⟩
 rw[dif_pos q];obtain⟨as',r',c'⟩:=q.choose_spec;exact(Qa6 d _ v as as' c r r').symm
theorem QdU{α β:Type}(f:α->β){l m:List β}(p:l.Perm m):∀{T:List α},m=T.map f->∃T':List α,T'.Perm T/\l=T'.map f:=by
 induction p with
 |nil=>intro T e;exact⟨T,QoA _,e⟩
 |@cons x l1 l2 _ ih=>
  intro T e;cases T with
  |nil=>cases e
  |cons t T=>
   rw[JC] at e;injection e with e1 e2
   obtain⟨T',p',e'⟩:=ih e2;exact⟨t::T',p'.cons t,by rw[JC,<- e1,<- e']⟩
 |@swap x y l=>
  intro T e;cases T with
  |nil=>cases e
  |cons t T=>
   cases T with
   |nil=>rw[JC] at e;injection e with e1 e2;cases e2
   |cons t2 T=>
    rw[JC,JC] at e;injection e with e1 e2
    injection e2 with e3 e4
    exact⟨t2::t::T,List.Perm.swap t t2 T,by rw[JC,JC,<- e1,<- e3,<- e4]⟩
 |@trans l1 l2 l3 _ _ ih1 ih2=>
  intro T e;obtain⟨T2,p2,e2⟩:=ih2 e;obtain⟨T1,p1,e1⟩:=ih1 e2;exact⟨T1,p1.trans p2,e1⟩
end
mutual
theorem Qja:∀(d:Qb),Qip d d=true->okK d=true
 |.int _,_=>rfl
 |.tuple ds,h=>Qkj ds h
 |.none,h=>by cases h
 |.bool _,h=>by cases h
 |.str _,h=>by cases h
 |.list _,h=>by cases h
 |.dict _,h=>by cases h
theorem Qkj:∀(ds:List Qb),Qc4 ds ds=true->Qg9 ds=true
 |[],_=>rfl
 |d::ds,h=>by
  have h:=Qu.mp (show(Qip d d&&Qc4 ds ds)=true from h);show(okK d&&Qg9 ds)=true;rw[Qja d h.1,Qkj ds h.2];rfl
end
mutual
theorem Qdx:∀(d:Qb),okK d=true->d.canLay0=true
 |.int _,_=>rfl
 |.tuple ds,h=>QjU ds h
 |.none,h=>by cases h
 |.bool _,h=>by cases h
 |.str _,h=>by cases h
 |.list _,h=>by cases h
 |.dict _,h=>by cases h
theorem QjU:∀(ds:List Qb),Qg9 ds=true->Q4 ds=true
 |[],_=>rfl
 |d::ds,h=>by
  have h:=Qu.mp (show(okK d&&Qg9 ds)=true from h);simp only[Q4,Qdx d h.1,QjU ds h.2,Bool.and_self]
end
structure Qch (ds:List Qb):Prop where
 cmp:∀x∈ds,∀y∈ds,Qip x y=true
 dep:∀x∈ds,x.depth<=20
end Rt
namespace L2
open PySem.Calls _root_.Rd _root_.Rk _root_.Rs Rt Dl
structure Trp where
 x:V
 v:Value
 d:Qb
theorem Qvi{H:Hp}:∀{xs:List V}{ds:List Qb}{vs:List Value},Dats H xs ds->Vals xs vs->∃T:List Trp,xs=T.map (·.x)/\vs=T.map (·.v)/\ds=T.map (·.d)/\∀t∈T,Dat H t.x t.d/\RelV t.x t.v
 |_,_,_,.nil,.nil=>⟨[],rfl,rfl,rfl,λ_ h=>nomatch h⟩
 |_,_,_,.cons q qs,.cons r rs=>by
  obtain⟨T,e1,e2,e3,h⟩:=Qvi qs rs;refine⟨⟨_,_,_⟩::T,by rw[e1];rfl,by rw[e2];rfl,by rw[e3];rfl,λt ht=>?_⟩;rcases Qz.mp ht with z | z
  ·rw[z];exact⟨q,r⟩
  ·exact h t z
theorem QrX{H:Hp}:∀{T:List Trp},(∀t∈T,Dat H t.x t.d/\RelV t.x t.v)->Dats H (T.map (·.x)) (T.map (·.d))/\Vals (T.map (·.x)) (T.map (·.v))
 |[],_=>⟨.nil,.nil⟩
 |t::T,h=>by
  obtain⟨a,b⟩:=QrX (T:=T) λt ht=>h t (.tail _ ht)
  exact⟨.cons (h t (.head _)).1 a,.cons (h t (.head _)).2 b⟩
def Qms:List V->Hp->VK->Prop:=λxs H Q=>∃(l:Addr)(vs:List V)(ds:List Qb),xs=[.ref l]/\(H l=some (.lst vs)∨H l=some (.tup vs))/\Dats H vs ds/\Qch ds /\
 ∀(t:Addr)(ys:List V)(es:List Qb)(H2:Hp),Same H H2->H t=none->H2 t=some (.lst ys)->Dats H2 ys es->es.Perm ds->es.Pairwise (λa b=>ltD b a=false)->(∀y∈ys,y∈vs)->Q (.ref t) H2
section
variable{X:Cx}
theorem Qll(hu:X.A.units+60<cLine):CallR X (.builtin "sorted") Qms:=by
 intro pins s σ H xs us Q I r h;obtain⟨l,vs,ds,rfl,hl,dts,so,q⟩:=h;obtain⟨u,rfl,ru⟩:=vals1 r;cases ru;have hu2:X.A.in1.in1.units+2*20+4<cLine:=by show X.A.units+1+1+2*20+4<cLine;omega
 obtain⟨T,o,its,n,hT,ho,hc,hd,rv,hz⟩:∃(T:String)(o:Obj)(its:List Value)(n:Nat),(T = "list" ∨ T = "tuple")/\s.heap.get? l=some o/\o.cls=.type T/\o.data=.seq its.toArray n/\Vals vs its/\vs.length<=sizeLine:=by
  rcases hl with hl | hl
  ·obtain⟨hz,its,n,rv,ho⟩:=I.hok l _ hl;exact⟨"list",_,its,n,.inl rfl,ho,rfl,rfl,rv,hz⟩
  ·obtain⟨hz,its,rv,o,ho,hc,n,hd⟩:=I.hok l _ hl;exact⟨"tuple",o,its,n,.inr rfl,ho,hc,hd,rv,hz⟩
 have li:=rv.length;obtain⟨⟨as,ra⟩,cl⟩:=YA I.hok ds vs its dts rv;have okds:Qg9 ds=true:=QiP λd hd=>Qja d (so.cmp d hd d hd)
 refine Qgn hT ho hc hd (by omega) λh' kp P E' hP=>?_
 have ra':=QaR kp ds its as okds ra
 let c:Keyed->Keyed->Bool:=λx y=>ltD (rdV h' x.1) (rdV h' y.1)
 have oc:Ord c:=⟨λx y=>Qj2 _ _,λx y z=>QwG _ _ _⟩;refine QgN (s:={ s with heap:=h'.push (seqObj "list" its.toArray 0) }) (c:=c) (QK _ rfl) (by omega) oc (λh2 k2 Q' E' hq=>?_) λarr pm sg h2 e k2 e2=>hP _ ?_
 ·have kk:∀b x,h'.get? b=some x->h2.get? b=some x:=λb x e=>k2 b x (QY (Qv e)) (Qe _ e)
  have ra2:=QaR kk ds its as okds ra';have asks:∀κ,QrL ds κ->(∀b,κ=tuples' b->∀d∈ds,∃es,d=.tuple es)->Asks X.prog X.w X.A.in1.in1 { s with heap:=h2 } κ (prs its) c:=λκ su tb=>by
   refine⟨oc,λx y hx hy C E'' hC=>?_⟩;rw[Qem] at hx hy;obtain⟨ex,hx⟩:=QcW hx;obtain⟨ey,hy⟩:=QcW hy;obtain⟨d1,m1,b1,r1⟩:=Z3 ra2 x.2 hx;obtain⟨d2,m2,b2,r2⟩:=Z3 ra2 y.2 hy;obtain⟨d1',m1',b1',r1'⟩:=Z3 ra' x.2 hx;obtain⟨d2',m2',b2',r2'⟩:=Z3 ra' y.2 hy;have k1:=Yz okds d1 m1;have k2:=Yz okds d2 m2;have c1:=Qdx d1 k1;have c2:=Qdx d2 k2;have c1':=Qdx d1' (Yz okds d1' m1');have c2':=Qdx d2' (Yz okds d2' m2');have q1:d1'=d1:=Qa6 d1' d1 x.2 _ _ c1' (Qdr kk d1' _ _ (Yz okds d1' m1') r1') r1;have q2:d2'=d2:=Qa6 d2' d2 y.2 _ _ c2' (Qdr kk d2' _ _ (Yz okds d2' m2') r2') r2;subst q1 q2;have hC:C (ltD (rdV h' x.1) (rdV h' y.1)) { s with heap:=h2 }:=hC;rw[ex,ey,Qmp r1' c1',Qmp r2' c2'] at hC;rw[ex,ey];exact QwL (N:=20) su m1 r1 r2 c1 c2 (so.cmp _ m1 _ m2) (λb e=>tb b e _ m1) (so.dep _ m1) hu2 hC
  cases ds with
  |nil=>
   cases ra2;exact Qj6 (s:={ s with heap:=h2 }) .nil rfl (λd hd=>nomatch hd) λκ su=>hq κ (asks κ su λb _ d hd=>nomatch hd)
  |cons d0 ds0=>
   have sh:(∀d∈d0::ds0,∃es,d=.tuple es)∨∀d∈d0::ds0,∃i,d=.int i:=by
    cases d0 with
    |int i=>exact .inr λd hd=>by have:=so.cmp _ (.head _) d hd;cases d<;>first | exact⟨_,rfl⟩ | (cases this;done)
    |tuple es=>exact .inl λd hd=>by have:=so.cmp _ (.head _) d hd;cases d<;>first | exact⟨_,rfl⟩ | (cases this;done)
    |_=>have:=so.cmp _ (.head _) _ (.head _);cases this
   rcases sh with sh | sh
   ·exact Qj6 (s:={ s with heap:=h2 }) ra2 okds sh λκ su=>hq κ (asks κ su λb _=>sh)
   ·have one:QrL (d0::ds0) oneType':=.inr (.inl rfl);by_cases l2:its.length<2
    ·have hk1:∀v∈its,∀(Q'':Option Value->Shared->Prop),Q'' none { s with heap:=h2 }->wpAny (model X.prog X.w) X.A.in1.in1 (firstOfTuple' v) Q'' E' { s with heap:=h2 }:=λv hv Q'' q''=>by
      obtain⟨d,hd,bs,r⟩:=Z3 ra2 v hv;obtain⟨i,rfl⟩:=sh d hd;cases r;exact Qk q''
     have hk2:∀v∈its,∀(Q'':Value->Shared->Prop),Q'' (Rt.tyV h2 v) { s with heap:=h2 }->wpAny (model X.prog X.w) X.A.in1.in1 (typeOf v) Q'' E' { s with heap:=h2 }:=λv hv Q'' q''=>by
      obtain⟨d,hd,bs,r⟩:=Z3 ra2 v hv;exact Qiw (s:={ s with heap:=h2 }) r (Yz okds d hd) q''
     rw[keyKind'_eq,QaK,map_eq_pure_bind];refine Qa (Qa (QfQ (g:=λ_=>(none:Option Value)) its hk1 (Qk ?_)));cases its with
     |nil=>cases ra2
     |cons v0 vs0=>
      rw[if_neg (by simp)];rw[if_neg (by simp)];rw[Qkt,QaK,map_eq_pure_bind];refine Qa (Qa (Qa (QfQ (g:=Rt.tyV h2) _ hk2 (Qk ?_))));have fin:∀b:Bool,wpAny (model X.prog X.w) X.A.in1.in1 (pure (if b=true then oneType' else general')) Q' E' { s with heap:=h2 }:=λb=>by
       have ni:∀{κ:Yv},(∀b',κ≠tuples' b')->∀b',κ=tuples' b'->∀d∈d0::ds0,∃es,d=Yd es:=λh b' e=>(h b' e).elim
       cases b
       ·exact Qk (hq _ (asks _ (.inl rfl) (ni λb' e=>by cases e)))
       ·exact Qk (hq _ (asks _ (.inr (.inl rfl)) (ni λb' e=>by cases e)))
      split
      ·exact Qk (fin _)
      ·exact Qk (fin _)
    ·have ia:∀{vs:List Value}{ds:List Qb}{as:List Addr},Yg h2 vs ds as->(∀d∈ds,∃i,d=Q7 i)->∃ns,IntsAre vs ns:=by
      intro vs ds as ra hs;induction vs generalizing ds as with
      |nil=>exact⟨[],.nil⟩
      |cons v vs ih=>
       cases ra with
       |cons r rs=>
        obtain⟨i,rfl⟩:=hs _ (.head _);obtain⟨ns,hn⟩:=ih rs λd hd=>hs d (.tail _ hd)
        cases r;exact⟨i::ns,.cons _ _ hn⟩
     obtain⟨ns,hn⟩:=ia ra2 sh
     match its,hn,l2 with
     |v1::v2::vs',hn,_=>
      rw[keyKind_ints hn];exact Qk (hq _ (asks _ one λb e=>by cases e))
     |[_],_,l2=>exact absurd (Nat.lt_succ_self 1) l2
     |[],_,l2=>exact absurd (Nat.zero_lt_two) l2
 ·have I1:Inv X pins σ H { s with heap:=h' }:=I.kept (t':=s.toks) kp;have hf:H h'.objs.size=none:=I1.hok.fresh (Ql _);have pv:(arr.toList.map (·.2)).Perm its:=by
   have:=(YT.mp pm).map (·.2)
   rwa [Qtm] at this
  obtain⟨Tr,t1,t2,t3,th⟩:=Qvi dts rv;obtain⟨Tr',p',e'⟩:=QdU Trp.v (l:=arr.toList.map (·.2)) (by rw[<- t2];exact pv) (T:=Tr) rfl;have th':∀t∈Tr',Dat H t.x t.d/\RelV t.x t.v:=λt ht=>th t (p'.mem_iff.mp ht)
  obtain⟨dts',rv'⟩:=QrX th';have ll:(Tr'.map (·.x)).length<=sizeLine:=by
   have:=p'.length_eq;rw[Qh,this,<- Qh (f:=Trp.x),<- t1];exact hz
  have I2:Inv X pins σ (upd H h'.objs.size (.lst (Tr'.map (·.x)))) { s with heap:=h2 }:=
   I1.laid (t':=s.toks) (λb x e'=>k2 b x (QY (Qv e')) (Qe _ e')) (Ql _) (show ObjOk X.prog X.w _ _ _ (.lst _) from⟨ll,_,e,by rw[e'];exact rv',e2⟩)
  refine⟨.ref h'.objs.size,_,I2,rfl,q _ _ (Tr'.map (·.d)) _ (Jy hf) hf JK (dts'.same (Jy hf)) (by rw[t3];exact p'.map _) ?_ λy hy=>?_⟩
  ·-- in order
   have len:arr.toList.length=Tr'.length:=by have:=congrArg List.length e';rwa [Qh,Qh] at this
   rw[ZI];intro i j hi hj hij;rw[Qh] at hi hj;rw[QsJ,QsJ];have ka:∀(k:Nat)(hk:k<Tr'.length),rdV h' (kx arr k).1=Tr'[k].d:=λk hk=>by
    have hk':k<arr.size:=by rw[<- Qo,len];exact hk
    have m:=QeS hk';have m2:=(YT.mp pm).mem_iff.mp m;rw[Qem] at m2;have e3:=(QcW m2).1;have e4:(kx arr k).2=Tr'[k].v:=by
     have h5:(arr.toList.map (·.2))[k]? = some (kx arr k).2:=by rw[QD,Qa4 hk'];rfl
     rw[e',QD,Qf hk] at h5;exact(Qw h5).symm
    rw[e3,e4];obtain⟨dt,rv0⟩:=th' _ (Qcl hk);obtain⟨⟨bs,rr⟩,cc⟩:=Z8 I1.hok _ _ _ dt rv0;exact Qmp rr cc
   have g:ltD (rdV h' (kx arr j).1) (rdV h' (kx arr i).1)=false:=sg i j (QC _) (by omega) (by rw[<- Qo,len];exact hj);rw[ka i hi,ka j hj] at g;exact g
  ·obtain⟨t,ht,rfl⟩:=Qy.mp hy;rw[t1];exact Qy.mpr ⟨t,p'.mem_iff.mp ht,rfl⟩
end
end L2
namespace Dl
open L2 _root_.Rd Rk Rt
theorem Qxb{A:Addr->Prop}{H:Hp}{xs:List V}{ds:List Qb}(q:DAs A H xs ds){v:V}(hv:v∈xs):∃d∈ds,DA A H v d:=by
 obtain⟨i,hi⟩:=Zd.mp hv;obtain⟨d,hd,h⟩:=q.getV i v hi;exact⟨d,QV hd,h⟩
theorem QhZ{A:Addr->Prop}{H:Hp}:∀{ys:List V}{es:List Qb},Dats H ys es->(∀y∈ys,∃d,DA A H y d/\nd d=true/\d.canLay0=true/\Dat H y d)->(∀y d e,y∈ys->Dat H y d->Dat H y e->d=e)->DAs A H ys es
 |_,_,.nil,_,_=>.nil
 |_,_,.cons (x:=x) (d:=d) q qs,h,u=>by
  obtain⟨d',h1,_,_,h4⟩:=h x (.head _);have:d=d':=u x d d' (.head _) q h4;subst this;exact .cons h1 (QhZ qs (λy hy=>h y (.tail _ hy)) λy d e hy=>u y d e (.tail _ hy))
mutual
theorem Qke{H:Hp}:∀(d e:Qb)(x:V),Dat H x d->Dat H x e->d=e
 |.none,e,_,.non,h=>by cases h;rfl
 |.bool _,e,_,.bl _,h=>by cases h;rfl
 |.int _,e,_,.int _,h=>by cases h;rfl
 |.str _,e,_,.str _ _,h=>by cases h;rfl
 |.tuple ds,e,_,.tup (xs:=xs) e1 q,h=>by
  cases h with
  |@tup a ys es e2 q'=>
   rw[e1] at e2;cases e2;rw[Qe3 ds es xs q q']
  |@lst a ys es e2 q'=>rw[e1] at e2;cases e2
 |.list ds,e,_,.lst (xs:=xs) e1 q,h=>by
  cases h with
  |@tup a ys es e2 q'=>rw[e1] at e2;cases e2
  |@lst a ys es e2 q'=>
   rw[e1] at e2;cases e2;rw[Qe3 ds es xs q q']
 |.dict _,_,_,q,_=>nomatch q
theorem Qe3{H:Hp}:∀(ds es:List Qb)(xs:List V),Dats H xs ds->Dats H xs es->ds=es
 |[],es,_,.nil,h=>by cases h;rfl
 |d::ds,es,_,.cons q qs,h=>by
  cases h with
  |@cons x xs e es q' qs'=>rw[Qke d e _ q q',Qe3 ds es _ qs qs']
end
mutual
theorem QhP:∀(d:Qb),okK d=true->nd d=true
 |.int _,_=>rfl
 |.tuple ds,h=>QiQ ds h
 |.none,h=>by cases h
 |.bool _,h=>by cases h
 |.str _,h=>by cases h
 |.list _,h=>by cases h
 |.dict _,h=>by cases h
theorem QiQ:∀(ds:List Qb),Qg9 ds=true->nds ds=true
 |[],_=>rfl
 |d::ds,h=>by
  have h:=Qu.mp (show(okK d&&Qg9 ds)=true from h);show(nd d&&nds ds)=true;rw[QhP d h.1,QiQ ds h.2];rfl
end
@[irreducible] def Qhw:List Qb->(Qb->Prop)->Prop
 |[.list ds],Q=>Qch ds/\∀es:List Qb,es.Perm ds->es.Pairwise (λa b=>ltD b a=false)->Q (.list es)
 |[.tuple ds],Q=>Qch ds/\∀es:List Qb,es.Perm ds->es.Pairwise (λa b=>ltD b a=false)->Q (.list es)
 |_,_=>False
theorem Qo0{ds:List Qb}{Q:Qb->Prop}(h:Qch ds)(k:∀es:List Qb,es.Perm ds->es.Pairwise (λa b=>ltD b a=false)->Q (.list es)):Qhw [.list ds] Q/\Qhw [.tuple ds] Q:=by
 unfold Qhw;exact⟨⟨h,k⟩,h,k⟩
theorem QrD:Qc9 Qms Qhw:=λA P H vs ds R Q ln dm q h k=>by
 have go:∀(l:Addr)(xs:List V)(ds:List Qb),(H l=some (.lst xs)∨H l=some (.tup xs))->DAs A H xs ds->Qch ds->(∀es:List Qb,es.Perm ds->es.Pairwise (λa b=>ltD b a=false)->R (.list es))->Qms [.ref l] H Q:=λl xs ds hl qq so hR=>by
  have okds:Qg9 ds=true:=QiP λd hd=>Qja d (so.cmp d hd d hd)
  refine⟨l,xs,ds,rfl,hl,Qbh _ _ (QiQ ds okds) qq,so,λt ys es H2 s n e2 dts pm pw sub=>?_⟩;have dm2:∀a,A a->∃xs,H2 a=some (.lst xs):=λa z=>by obtain⟨xs,e⟩:=dm a z;exact⟨xs,s _ _ e⟩
  refine k _ (hR es pm pw) _ H2 s (.lst (λz=>?_) e2 (QhZ dts (λy hy=>?_) λy d e _=>Qke d e y)) (Qb6 n)
  ·obtain⟨xs,e⟩:=dm t z;rw[n] at e;cases e
  ·obtain⟨d,hd,da⟩:=Qxb qq (sub y hy);have ok:=Yz okds d hd;exact⟨d,da.same s,QhP d ok,Qdx d ok,Qh0 d y (QhP d ok) (da.same s)⟩
 unfold Qhw at h;split at h
 ·obtain⟨v,rfl,hv⟩:=pd1 q;obtain⟨l,xs,rfl,e,qq⟩:=hv.list;exact go l xs _ (.inl e) qq h.1 h.2
 ·obtain⟨v,rfl,hv⟩:=pd1 q;obtain⟨l,xs,rfl,e,qq⟩:=hv.tuple;exact go l xs _ (.inr e) qq h.1 h.2
 ·exact h.elim
end Dl
namespace L2
open PySem.Calls _root_.Rd _root_.Rk Rt
section
variable{X:Cx}
def ddI(ns:List Int):List Int:=ns.foldl Qcs []
theorem Qrv(ns:List Int):firstMet (λi=>ns.getD i 0) ns.length=ddI ns:=by
 unfold firstMet ddI
 congr 1
 apply QaL
 intro i;rw[QD];by_cases h:i<ns.length
 ·rw[Zk h,Qf h];show some (ns.getD i 0)=_;rw[JE,Qf h];rfl
 ·rw[Jn (by simpa using h),Jn (by omega)];rfl
def QyB(K:PySem.W.Frag):List V->Hp->VK->Prop:=λxs H Q=>∃(l:Addr)(ns:List Int),xs=[.ref l]/\SqL K H l (ns.map V.int)/\ns.length<=4000 /\
 ∀(t:Addr)(H2:Hp),Same H H2->H t=none->H2 t=some (.set (λk=>(ddI ns).any (· == k)) (ddI ns).length)->Q (.ref t) H2
theorem Qoc(hc:X.calm=true):CallR X (.type "set") (QyB X.K):=by
 intro pins s σ H xs us Q I r h;obtain⟨p,ns,rfl,hp,hn,q⟩:=h;obtain⟨u,rfl,ru⟩:=vals1 r;cases ru;obtain⟨its,rv,pl,hz⟩:=I.list hp;have hi:IntsAre its ns:=intsAre_of rv;have hl:=hi.length;refine PySem.call_set_list (items:=its.toArray) (ns:=ns) (I.ok.hd hc) pl.isList (by simpa using hi) (by rw[Qp,hl];unfold scanBound;omega) λh' tk hS hk=>?_
 have ez:its.toArray.size=ns.length:=by rw[Qp];exact hl
 rw[ez,Qrv] at hS;have hf:H s.heap.objs.size=none:=I.hok.fresh (Ql _);refine⟨.ref s.heap.objs.size,upd H s.heap.objs.size (.set (λk=>(ddI ns).any (· == k)) (ddI ns).length),I.laid (t':=tk) (λb x e=>hk b x (Qv e) e) (Ql _) hS,rfl,q _ _ (Jy hf) hf JK⟩
def Qs6:List V->Hp->VK->Prop:=λxs H Q=>∃(a:Addr)(S:Int->Bool)(n:Nat),xs=[.ref a]/\H a=some (.set S n)/\n<=4000/\Q (.int n) H
theorem Qjg:CallR X (.builtin "len") Qs6:=by
 intro pins s σ H xs us Q I r h;obtain⟨a,S,n,rfl,ha,hn,q⟩:=h;obtain⟨u,rfl,ru⟩:=vals1 r;cases ru;obtain⟨o,es,ep,t,ho,hex,hd,hel,hmem,hb,hf,hz⟩:=I.hok a _ ha;have hz:es.size=n:=hz;refine PySem.call_len_set ho hex hd hf (by
                       rw[hz];have:(4000:Int)<2^63:=by decide
                       omega) ?_
 rw[hz];exact⟨.int n,H,I.tok _,⟨_,rfl⟩,q⟩
theorem Qkd:∀(ns σ:List Int),(ns.foldl Qcs σ).length<=σ.length+ns.length/\(σ.Nodup->((ns.foldl Qcs σ).length=σ.length+ns.length↔(σ++ns).Nodup))
 |[],σ=>⟨Ql _,λh=>by simp[h]⟩
 |n::ns,σ=>by
  rw[QcJ,QU];by_cases z:σ.any (· == n)=true
  ·have e:Qcs σ n=σ:=by unfold Qcs;rw[if_pos z]
   rw[e];obtain⟨a,b⟩:=Qkd ns σ;refine⟨by omega,λhs=>⟨λq=>by omega,λq=>?_⟩⟩;obtain⟨x,hx,hn⟩:=Qae.mp z;have hn:=beq_iff_eq.mp hn;subst hn;exact absurd rfl ((ZX.mp q).2.2 x hx x (.head _))
  ·have e:Qcs σ n=σ++[n]:=by unfold Qcs;rw[if_neg z]
   rw[e];obtain⟨a,b⟩:=Qkd ns (σ++[n]);rw[Qq] at a b;have nm:n∉σ:=λhx=>z (Qae.mpr ⟨n,hx,by simp⟩)
   refine⟨by simp only[QcG] at a;omega,λhs=>?_⟩;have hs2:(σ++[n]).Nodup:=ZX.mpr ⟨hs,by simp,λx hx y hy=>by rw[Jo.mp hy];exact λe=>nm (e ▸ hx)⟩;have:=b hs2;rw[QZ] at this;have e3:σ++n::ns=σ++([n]++ns):=rfl;rw[e3,<- this];simp only[QcG];omega
theorem Qzd(ns:List Int):(ddI ns).length<=ns.length:=by have:=(Qkd ns []).1;unfold ddI;simpa using this
theorem QgU(ns:List Int):(ddI ns).length=ns.length↔ns.Nodup:=by have:=(Qkd ns []).2 (by simp);unfold ddI;simpa using this
def QzD:R2:=λx y H Q=>∃d e,Dat H x d/\Dat H y e/\Dl.Qip d e=true/\d.depth<=20/\Q (.bl (Dl.ltD d e)) H
theorem QmY(hu:X.A.units+60<cLine):OpR X (compareOp .Lt) QzD:=by
 intro pins s σ H x y v u Q I rx ry h;obtain⟨d,e,qx,qy,hk,hd,q⟩:=h;obtain⟨⟨as,ra⟩,ca⟩:=Z8 I.hok d x v qx rx;obtain⟨⟨bs,rb⟩,cb⟩:=Z8 I.hok e y u qy ry;exact Qs4 20 d e X.A s v u as bs ra rb ca cb hk hd (by omega) _ _ _ _ ⟨.bl _,H,I,rfl,q⟩
end
end L2
namespace Dl
open L2 _root_.Rd Rk Rt
@[irreducible] def anyD:List Qb->(Qb->Prop)->Prop
 |[.list ds],Q=>∃bs,Qb8 ds=some bs/\Q (.bool (bs.any id))
 |_,_=>False
def QAz:Qb->Qb->(Qb->Prop)->Prop:=λd e Q=>(okK d=true/\okK e=true/\Qip d e=true/\d.depth<=20)/\Q (.bool (ltD d e))
theorem Qnf:OpD QzD QAz:=λA P H x y d1 d2 R Q ln dm hx hy h k=>by
 obtain⟨⟨h1,h2,h3,h4⟩,hR⟩:=h;exact⟨d1,d2,hx.dat (QhP d1 h1),hy.dat (QhP d2 h2),h3,h4,k _ hR _ H (Same.refl H) (.bl _) QaN⟩
section
variable{X:Cx}{E:XK}
def Qn0(w:DE):DE:=λδ Q EX=>w δ (λd=>match d with
 |.list ds=>∃ns,Qc6 ds=some ns/\ns.length<=4000/\Q (.int (ddI ns).length)
 |_=>False) EX
theorem bt_set:bootBuiltins "set" = some (.type "set"):=by decide +kernel
theorem QmU{e:Q5}{w:DE}{p p2 pos pos2:Pos}(hg:Gl X "len")(hm:X.mg "len" = none)(hg2:Gl X "set")(hm2:X.mg "set" = none)(h:PE X e (tX .P X.K E w))(hc:X.calm=true)(hs:notStar e=true):PE X (.Call (.Name "len" p) [.Call (.Name "set" p2) [e] [] pos2] [] pos) (tX .F X.K E (Qn0 w)):=by
 refine PE.imp (ZB Qjg hg hm YC (Qcy (QhK (Qoc hc) hg2 hm2 bt_set (Qcy h J3 hs) (he:=ZZ hs)) J3)) λσ H Q ⟨F,δ,R,EX,rel,hw,k,o⟩=>?_
 refine⟨F,δ,_,EX,rel,hw,λd hd v H1 rel1 kp1 vk=>?_,o⟩;cases d<;>first | exact(show False from hd).elim | skip
 obtain⟨ns,hn,hl,hR⟩:=hd;rw[Qi6 hn] at vk;obtain⟨l,xs,rfl,e,q⟩:=DP.list vk;rw[QgX q] at e;refine⟨l,ns,rfl,SqL.of e,hl,λt H2 s2 n2 e2=>⟨t,_,_,rfl,e2,?_,?_⟩⟩
 ·have:=Qzd ns;omega
 ·exact k _ hR _ H2 (rel1.same s2) (kp1.trans (Kp.same rel1 s2)) ⟨.int _,YU⟩
theorem Qgw{e:Q5}{w:DE}{p p2 pos pos2:Pos}(hg:Gl X "len")(hm:X.mg "len" = none)(hg2:Gl X "set")(hm2:X.mg "set" = none)(h:QE .P X E e w)(hc:X.calm=true:=by rfl)(hs:notStar e=true:=by rfl):QE .F X E (.Call (.Name "len" p) [.Call (.Name "set" p2) [e] [] pos2] [] pos) (Qn0 w):=⟨QmU hg hm hg2 hm2 h.h hc hs⟩
end
end Dl
namespace Rk
open L2 _root_.Rd Dl
def inW(d:Qb)(a b:Int):Bool:=match d with
 |.int i=>decide (a<=i)&&decide (i<=b)
 |_=>false
theorem QhX{i a b:Int}(h1:a<=i)(h2:i<=b):inW (.int i) a b=true:=by
 show(decide (a<=i)&&decide (i<=b))=true;rw[decide_eq_true h1,decide_eq_true h2];rfl
theorem Qrn{d:Qb}{a b:Int}(h:inW d a b=true):∃i,d=.int i/\a<=i/\i<=b:=by
 cases d<;>first | (cases h;done) | skip
 rename_i i
 have h:=Qu.mp (show(decide (a<=i)&&decide (i<=b))=true from h);exact⟨i,rfl,of_decide_eq_true h.1,of_decide_eq_true h.2⟩
def QeA:DF:=λargs R _=>∃d a b,args=[.v d,.v (.int a),.v (.int b)]/\R (.bool (inW d a b))
theorem QjX(ns:List Int):nds (ns.map Q7)=true:=QiS.mpr λd hd=>by
 obtain⟨i,_,rfl⟩:=Qy.mp hd;rfl
theorem Qkh(xs:List Qb)(k:Int)(h:0<=k):Dl.cutD xs none (some k)=xs.take k.toNat:=by
 unfold Dl.cutD;obtain⟨j,rfl⟩:∃j:Nat,k=j:=⟨k.toNat,by omega⟩
 rw[HT.Qgq,HT.Qml,ZJ,QlK,QN];by_cases z:j<=xs.length
 ·rw[YH z]
 ·rw[Nat.min_eq_right (by omega),Ym,Ys (by omega)]
end Rk
namespace Rx
open PySem.Calls L2
section
variable{X:Cx}{e:Q5}{st:Z6}{rest:List Z6}{pos:Pos}{te:TX}{t u:TSX}
theorem Qtj(he:PEX X e te):PSX X (.Return (some e) pos) (λD σ H Ex=>te σ H D.rt Ex):=by
 intro pins s σ H D Ex I h;exact Qhd (thn (he pins s σ H _ _ I h) λv s1 ⟨x,H1,I1,r1,q1⟩=>⟨x,σ,H1,I1,r1,q1⟩)
theorem Qpm:PSXs X [] (λD σ H _=>D.nx σ H):=λpins s σ H D Ex I h=>Y6 ⟨σ,H,I,h⟩
theorem QmD(h1:PSX X st t)(h2:PSXs X rest u):PSXs X (st::rest) (λD σ H Ex=>t { D with nx:=λσ' H'=>σ'=σ/\u D σ H' Ex } σ H Ex):=by
 intro pins s σ H D Ex I h;refine Qbr (thn (h1 pins s σ H _ Ex I h) λf s1 q=>?_);cases f with
 |next=>
  obtain⟨σ1,H1,I1,rfl,q1⟩:=q;exact h2 pins s1 σ1 H1 D Ex I1 q1
 |ret v=>exact q
 |brk=>exact q
 |cont=>exact q
end
end Rx
namespace L2
open Dl
end L2
namespace Dl
open L2 _root_.Rd Rk
def tXx(m:Md)(K:PySem.W.Frag)(w:DE):Rx.TX:=λσ H Q Ex=>∃(F:Fm)(δ:Sts)(R:Qb->Prop)(EX:XP),Rel K F σ H δ/\w δ R EX/\(∀d,R d->∀v H',Rel K F σ H' δ->Kp σ δ H H'->Vok m F σ δ H H' v d->Q v H')/\∀C,EX C->∀H',Rel K F σ H' δ->Kp σ δ H H'->Ex C H'
structure EndsX (K:PySem.W.Frag) (F:Fm) (σ:L2.St) (H:Hp) (δ:Sts) (DD:Qc8) (D:L2.Ends) (Ex:Addr->Hp->Prop):Prop where
 nx:∀δ',DD.nx δ'->δ'=δ/\∀H',Rel K F σ H' δ->Kp σ δ H H'->D.nx σ H'
 rt:∀d,DD.rt d->∀v H',Ke F H'->DA F.A0 H' v d->D.rt v H'
 rtF:∀d,DD.rtF d->∀v H',Ke F H'->DA F.A0 H' v d->FrV F.H0 H' v->D.rt v H'
 ex:∀C,DD.ex C->∀H',Rel K F σ H' δ->Kp σ δ H H'->Ex C H'
def tSx(K:PySem.W.Frag)(w:DS):Rx.TSX:=λD σ H Ex=>∃(F:Fm)(δ:Sts)(DD:Qc8),Rel K F σ H δ/\w DD δ/\EndsX K F σ H δ DD D Ex
structure QX (m:Md) (X:Cx) (e:Q5) (w:DE):Prop where h:Rx.PEX X e (tXx m X.K w)
structure QSX (X:Cx) (st:Z6) (w:DS):Prop where h:Rx.PSX X st (tSx X.K w)
structure QSXs (X:Cx) (sts:List Z6) (w:DS):Prop where h:Rx.PSXs X sts (tSx X.K w)
theorem EndsX.step{K:PySem.W.Frag}{F:Fm}{σ:L2.St}{H H1:Hp}{δ:Sts}{DD:Qc8}{D:L2.Ends}{Ex:Addr->Hp->Prop}(h:EndsX K F σ H δ DD D Ex)(k:Kp σ δ H H1):EndsX K F σ H1 δ DD D Ex:=
 ⟨λδ' h'=>⟨(h.nx δ' h').1,λH' r k'=>(h.nx δ' h').2 H' r (k.trans k')⟩,h.rt,h.rtF,λC hC H' r k'=>h.ex C hC H' r (k.trans k')⟩
section
variable{X:Cx}
theorem PEX.imp{e:Q5}{t t':Rx.TX}(h:Rx.PEX X e t)(i:∀σ H Q Ex,t' σ H Q Ex->t σ H Q Ex):Rx.PEX X e t':=λpins s σ H Q Ex I q=>h pins s σ H Q Ex I (i σ H Q Ex q)
theorem PSX.imp{e:Z6}{t t':Rx.TSX}(h:Rx.PSX X e t)(i:∀D σ H Ex,t' D σ H Ex->t D σ H Ex):Rx.PSX X e t':=λpins s σ H D Ex I q=>h pins s σ H D Ex I (i D σ H Ex q)
theorem PSXs.imp{e:List Z6}{t t':Rx.TSX}(h:Rx.PSXs X e t)(i:∀D σ H Ex,t' D σ H Ex->t D σ H Ex):Rx.PSXs X e t':=λpins s σ H D Ex I q=>h pins s σ H D Ex I (i D σ H Ex q)
def Qxl(f:DF)(wa:DSl):DE:=λδ Q EX=>wa δ (λargs=>f args Q EX) XF
variable{k:Nat}{f:Addr}{fd:QL}{ps:List Str}{x:Str}{p pos:Pos}{e:Q5}{es:List Q5}{fD:DF}{wa:DSl}
theorem Qh8{m:Md}{fr:Bool}{K:PySem.W.Frag}{F:Fm}{σ:L2.St}{δ:Sts}{H H1:Hp}{R:Qb->Prop}{EX:XP}{Q:VK}{Ex:Addr->Hp->Prop}{vs:List V}{args:List Sl}(hm:∀{v:V}{d:Qb}{H':Hp},DA (Av F σ δ) H' v d->(fr=true->FrV H H' v)->Vok m F σ δ H H' v d)
  (k:∀d,R d->∀v H',Rel K F σ H' δ->Kp σ δ H H'->Vok m F σ δ H H' v d->Q v H')(kx:∀C,EX C->∀H',Rel K F σ H' δ->Kp σ δ H H'->Ex C H')(rel1:Rel K F σ H1 δ)(kp1:Kp σ δ H H1)(q:YR (Qjk (Av F σ δ) (Qai σ δ) H1) vs args)(ha:fD args R EX) :
  Zh fr fD vs H1 Q λcv _ H2=>∃C,cv=.ref C/\Ex C H2:=by
 refine⟨Av F σ δ,Qai σ δ,args,R,EX,λa ha=>rel1.isl ha,λp hp=>⟨Qaz hp,(Kp.refl rel1).2 p hp⟩,q,ha,λd hd v H' kq dv fr=>?_,λC hC H' kq=>⟨C,rfl,kx C hC H' (rel1.kp kq) (kp1.trans kq)⟩⟩;exact k d hd v H' (rel1.kp kq) (kp1.trans kq) (hm dv λz l e1 e2=>Qcz kp1 (fr z l e1 e2))
theorem Qu9(G:FnOk X.prog X.w X.K X.mg X.base (Rx.CXE X.prog X.w) k f fd ps (Zh false fD))(hr:Room k X.A)(hg:Gl X x)(hm:X.mg x=some (.ref f))(hk:PySem.W.keepIn X.K (.ref f)=true)(hb:Binds X.K fd ps [])(ha:QAs X.nox E0 (e::es) wa)(hex:X.ex=[]:=by rfl)
  (hdb:(x == ("__debug__" : Str))=false:=by decide)(he:starEach (e::es) X.env=(false,eval e X.env)::starEach es X.env:=by rfl)(hpl:(backTo pos (starEach es X.env)).any (·.1)=false:=by rfl) :
  QX .D X (.Call (.Name x p) (e::es) [] pos) (Qxl fD wa):=by
 refine⟨PEX.imp (Rx.Qpt G hr hg hm hk hb hex ha.h hdb he hpl) λσ H Q Ex ⟨F,δ,R,EX,rel,hw,k,kx⟩=>?_⟩;exact⟨F,δ,_,XF,rel,hw,λargs ha vs H1 rel1 kp1 q=>Qh8 (m:=.D) (λh _=>h) k kx rel1 kp1 q ha,QpV⟩
structure QFs (X:Cx) (es:List Q5) (fs:List (Addr×DF)):Prop where h:PA X.nox es (λσ H Q=>Q (fs.map λp=>V.ref p.1) H)
theorem QwX:QFs X [] []:=⟨J3⟩
theorem QnG{fs:List (Addr×DF)}{n:Str}{npos:Pos}(f:Addr)(fD:DF)(hg:Gl X.nox n)(hm:X.nox.mg n=some (.ref f))(hr:QFs X es fs)(hd:(n == ("__debug__" : Str))=false:=by decide):QFs X (.Name n npos::es) ((f,fD)::fs):=
 ⟨Qcy (X:=X.nox) (QmM (v:=.ref f) hg hm rfl hd) hr.h rfl⟩
def Qxm(fs:List (Addr×DF))(wk:DE)(wa:DSl):DE:=λδ Q EX=>wk δ (λd=>match d with
 |.int i=>∃p,atI fs i=some p/\wa δ (λargs=>p.2 args Q EX) XF
 |_=>False) XF
theorem QuI{α β:Type}{xs:List α}{i:Int}{a:α}(g:α->β)(h:atI xs i=some a):atI (xs.map g) i=some (g a):=by
 unfold atI at h ⊢;rw[Qh];cases e:ixN xs.length i with
 |none=>rw[e] at h;cases h
 |some j=>rw[e] at h;show(xs.map g)[j]? = _;rw[QD,show xs[j]? = some a from h];rfl
theorem QrJ{α:Type}{xs:List α}{i:Int}{a:α}(h:atI xs i=some a):a∈xs:=by
 unfold atI at h;cases e:ixN xs.length i with
 |none=>rw[e] at h;cases h
 |some j=>rw[e] at h;exact QV h
theorem QsM{fs:List (Addr×DF)}{ls:List Q5}{ix:Q5}{wk:DE}{lpos spos:Pos}(hl:QFs X ls fs)(hM:∀q∈fs,Rx.QAa X q.1 (Zh false q.2))(hk:QE .P X.nox E0 ix wk)(ha:QAs X.nox E0 (e::es) wa)(hn:fs.length<=1000:=by simp)(hix:Qg2 ix:=by exact λ_ _=>rfl)(hex:X.ex=[]:=by rfl)
  (hfe:eval (.Call (.Subscript (.List ls lpos) ix spos) (e::es) [] pos) X.env=(do callWith pos (<- eval (.Subscript (.List ls lpos) ix spos) X.env) [] (backTo pos (starEach (e::es) X.env)) (backToKw pos (keywordEach [] X.env))):=by rfl)
  (he:starEach (e::es) X.env=(false,eval e X.env)::starEach es X.env:=by rfl)(hpl:(backTo pos (starEach es X.env)).any (·.1)=false:=by rfl) :
  QX .D X (.Call (.Subscript (.List ls lpos) ix spos) (e::es) [] pos) (Qxm fs wk wa):=by
 refine⟨PEX.imp (Rx.QmJ (M:=λf sp=>∃q∈fs,f=q.1/\sp=Zh false q.2) (λf sp ⟨q,hq,e1,e2⟩=>by rw[e1,e2];exact hM q hq) (QkU (X:=X.nox) QdD (QbH hl.h) hk.h hix) hex ha.h hfe he hpl) λσ H Q Ex ⟨F,δ,R,EX,rel,hw,k,kx⟩=>?_⟩;refine⟨by rw[Qh];exact hn,λl H0 s0 n0 e0=>⟨F,δ,_,XF,rel.same s0,hw,λd hd v H1 rel1 kp1 vk=>?_,QpV⟩⟩;cases d<;>first | exact(show False from hd).elim | skip
 obtain⟨q,hq,hw2⟩:=hd;have npl:¬Qai σ δ l:=λz=>by obtain⟨xs,e⟩:=rel.isl (Qaz (F:=F) z);rw[n0] at e;cases e
 refine⟨l,_,_,.ref q.1,rfl,DP.int vk,SqL.of (kp1.1 _ _ npl e0),QuI (λp:Addr×DF=>V.ref p.1) hq,q.1,_,rfl,⟨q,QrJ hq,rfl,rfl⟩,?_⟩;have K1:=(Kp.same rel s0).trans kp1;exact⟨F,δ,_,XF,rel1,hw2,λargs ha vs H2 rel2 kp2 qa=>Qh8 (m:=.D) (λh _=>h) k kx rel2 (K1.trans kp2) qa ha,QpV⟩
theorem Qr0{w:DE}(h:QX .D X e w):QSX X (.Return (some e) pos) (Qzh w):=by
 refine⟨PSX.imp (Rx.Qtj h.h) λD σ H Ex ⟨F,δ,DD,rel,hw,en⟩=>?_⟩;exact⟨F,δ,_,DD.ex,rel,hw,λd hd v H' r' kp vk=>en.rt d hd v H' r'.ke (Qry vk),en.ex⟩
def QAM(t:DT)(a b:DS):DS:=λD δ=>t δ (λc=>if c=true then a D δ else b D δ) XF
theorem Qyz{c:Q5}{a b:List Z6}{t:DT}{w w':DS}(hc:QT X.nox E0 c t)(ha:QSXs X a w)(hb:QSXs X b w'):QSX X (.If c a b pos) (QAM t w w'):=by
 refine⟨PSX.imp (Rx.QvT hc.h ha.h hb.h) λD σ H Ex ⟨F,δ,DD,rel,hw,en⟩=>?_⟩;exact⟨F,δ,_,XF,rel,hw,λb hb H' r' kp=>QdW hb (λz=>⟨F,δ,DD,r',z,en.step kp⟩) λz=>⟨F,δ,DD,r',z,en.step kp⟩,QpV⟩
theorem QsW:QSXs X [] Quw:=⟨PSXs.imp Rx.Qpm λD σ H Ex ⟨F,δ,DD,rel,hw,en⟩=>(en.nx δ hw).2 H rel (Kp.refl rel)⟩
theorem Ql0{st:Z6}{w:DS}(h:QSX X st w):QSXs X [st] w:=⟨Rx.Qpl h.h⟩
def Qzg(a b:DS):DS:=λD δ=>a { D with nx:=λδ'=>δ'=δ/\b D δ } δ
theorem QoW{st:Z6}{rest:List Z6}{w w':DS}(h:QSX X st w)(h':QSXs X rest w'):QSXs X (st::rest) (Qzg w w'):=by
 refine⟨PSXs.imp (Rx.QmD h.h h'.h) λD σ H Ex ⟨F,δ,DD,rel,hw,en⟩=>?_⟩;exact⟨F,δ,_,rel,hw,λδ' ⟨e1,h2⟩=>⟨e1,λH' r' kp=>⟨rfl,F,δ,DD,r',h2,en.step kp⟩⟩,en.rt,en.rtF,en.ex⟩
def QAK(ks:Addr->Str->Prop)(w:DS):DS:=λD δ=>w { D with nx:=λδ'=>δ'=δ/\D.nx δ,ex:=λC=>∃wd,ks C wd/\YV (.str wd)=true/\D.rt (.str wd) } δ
structure QH (X:Cx) (i:Nat) (hx:Q5) (sp:Sp):Prop where h:∀e,PE (Rx.mkd X e) hx (λσ H Q=>(Qdk (Qhs i) QoU) σ H λvs H1=>sp vs H1 Q E0)
theorem Qtf{i:Nat}{sp:Sp}{y:Str}{pos2:Pos}(G:Rx.FnM X.prog X.w X.K X.mg X.base 1 f fd ps sp)(hr:Room 1 X.A)(hm:X.mg x=some (.ref f))(hk:PySem.W.keepIn X.K (.ref f)=true)(hb:Binds X.K fd ps [])(hg:Gl X x:=by rfl)(hN:X.N[i]? = some y:=by rfl)(hv:Vis X.env.scope y:=by first | exact QR rfl | exact Q2 (QR rfl) | exact Q2 (Q2 rfl))(hd:(y == ("__debug__" : Str))=false:=by decide)(hcd:(y == ("__classdict__" : Str))=false:=by decide)(hdb:(x == ("__debug__" : Str))=false:=by decide) :
  QH X i (.Call (.Name x p) [.Name y pos2] [] pos) sp:=⟨λe=>Rx.Qpy (X:=Rx.mkd X e) G (Rx.Room.m hr e) hg hm hk hb (Qcy (X:=Rx.mkd X e) (pv (X:=Rx.mkd X e) i hN hv hd hcd) J3 rfl) hdb rfl rfl⟩
theorem QvL{E:XK}{R:Addr}{i:Nat}{n r:Str}{body:List Z6}{hx:Q5}{w:DS}{ks:Addr->Str->Prop}{sp:Sp}{np hp hpos pos:Pos}(hb:QSXs X body w)(hN:X.N.Nodup)(hm:X.mg r=some (.ref R))(hh:QH X i hx sp)
  (hk:∀{C:Addr}{wd:Str},ks C wd->∀{H1:Hp}{Q:VK}{σ:L2.St},i < σ.length->(∀H',Same H1 H'->Q (.str wd) H')->Rx.ByC X.K C R/\∀a,H1 a=none->(Qdk (Qhs i) QoU) (σ.set i (some (.ref a))) (upd H1 a (Rx.exO a C)) λvs H2=>sp vs H2 Q E0)
  (hstk:X.stack=X.env::X.outer:=by rfl)(hfr:X.env.frame=some X.env.locals:=by rfl)(hi:X.N[i]? = some n:=by rfl)(hl:X.env.scope.names.lookup n=some .local:=by rfl)(hg:Gl X r:=by rfl)(hd:(r == ("__debug__" : Str))=false:=by decide) :
  QS X E (.Try body [.ExceptHandler (some (.Name r np)) (some n) [.Return (some hx) hp] hpos] [] [] pos) (QAK ks w):=by
 refine⟨λpins s σ H D I ⟨F,δ,DD,rel,hw,en⟩=>Rx.Qtk hstk hfr hb.h hN hi hl hg hm hh.h hd pins s σ H D I ?_⟩;have hlen:i < σ.length:=by rw[I.len];exact(Qx.mp hi).1
 refine⟨F,δ,_,rel,hw,λδ' ⟨e1,h1⟩=>⟨e1,λH' r' kp=>en.nx.go δ h1 σ H' r' (Stp.kp kp)⟩,en.rt,en.rtF,λC ⟨wd,hks,cl,hr⟩ H' r' kp=>?_⟩;exact hk hks hlen λH2 s2=>en.rt _ hr _ H2 (r'.same s2).ke (.str wd cl)
end
end Dl
namespace Rk
open L2 _root_.Rd Dl Rt
def Qba:List Qb->Bool
 |x::y::r=>ltD x y&&Qba (y::r)
 |_=>true
def QwF:Qb->Bool
 |.tuple [a,b]=>ltD a b
 |_=>false
theorem Qxo(d:Qb)(ds:List Qb):Dl.cutD (d::ds) (some 1) none=ds:=by
 unfold Dl.cutD;rw[HT.Qgq,show(1:Int)=((1:Nat):Int) from rfl,HT.Qml];rw[YH (by rw[QU];omega),List.drop_one,List.tail_cons,QU,QbM,Ym]
theorem Qew:∀ds:List Qb,(QkH ds (Dl.cutD ds (some 1) none)).all QwF=Qba ds
 |[]=>by
  have h:(QkH ([]:List Qb) (Dl.cutD [] (some 1) none))=[]:=by unfold QkH;rfl
  rw[h];rfl
 |[x]=>by rw[Qxo];rfl
 |x::y::r=>by
  have ih:=Qew (y::r);rw[Qxo] at ih ⊢;show(QwF (.tuple [x,y])&&(QkH (y::r) r).all QwF)=_;rw[ih];rfl
theorem QjI:∀ds:List Qb,Qba ds=(JX (ds.length - 1)).all λk=>ltD (ds.getD k .none) (ds.getD (k+1) .none)
 |[]=>rfl
 |[x]=>rfl
 |x::y::r=>by
  have ih:=QjI (y::r);show(ltD x y&&Qba (y::r))=_;rw[ih,show(x::y::r).length - 1=(r.length+1 - 1)+1 by simp,List.range_succ_eq_map,Qjo,Qlz];rfl
def Qou(ds:List Qb):Prop:=∀x∈ds,okK x=true/\x.depth<=20/\∀y∈ds,Qip x y=true
def QiI:DF:=λargs R _=>∃ds:List Qb,(args=[.v (.tuple ds)]∨args=[.v (.list ds)])/\Qou ds/\R (.bool (Qba ds))
def QfW(h w:Int):Qb->Bool
 |.tuple [a,b]=>inW a 0 (h - 1)&&inW b 0 (w - 1)
 |_=>false
theorem QwS{h w:Int}{d:Qb}(q:QfW h w d=true):∃p:Int×Int,d=pairD p/\0<=p.1/\p.1<h/\0<=p.2/\p.2<w:=by
 cases d<;>first | (cases q;done) | skip
 rename_i ds
 match ds,q with
 |[a,b],q=>
  have q:=Qu.mp (show(inW a 0 (h - 1)&&inW b 0 (w - 1))=true from q);obtain⟨i,rfl,i1,i2⟩:=Qrn q.1;obtain⟨j,rfl,j1,j2⟩:=Qrn q.2;exact⟨(i,j),rfl,i1,by show i<h;omega,j1,by show j<w;omega⟩
 |[],q=>cases q
 |[_],q=>cases q
 |_::_::_::_,q=>cases q
theorem QwR{h w:Int}{p:Int×Int}(h1:0<=p.1)(h2:p.1<h)(h3:0<=p.2)(h4:p.2<w):QfW h w (pairD p)=true:=by
 show(inW (.int p.1) 0 (h - 1)&&inW (.int p.2) 0 (w - 1))=true;rw[QhX h1 (by omega),QhX h3 (by omega)];rfl
def toP:Qb->Int×Int
 |.tuple [.int a,.int b]=>(a,b)
 |_=>(0,0)
theorem Qen{h w:Int}{ds:List Qb}(q:ds.all (QfW h w)=true):∃L:List (Int×Int),ds=L.map pairD/\∀p∈L,0<=p.1/\p.1<h/\0<=p.2/\p.2<w:=by
 induction ds with
 |nil=>exact⟨[],rfl,λ_ h=>nomatch h⟩
 |cons d ds ih=>
  rw[Qjo,Jr] at q;obtain⟨p,rfl,hp⟩:=QwS q.1;obtain⟨L,rfl,hL⟩:=ih q.2;refine⟨p::L,rfl,λx hx=>?_⟩;rcases Qz.mp hx with z | z
  ·rw[z];exact hp
  ·exact hL x z
theorem Qb1(L:List (Int×Int)):(L.map pairD).map toP=L:=by
 rw[Jt]
 conv=>rhs;rw[<- List.map_id L]
 rfl
theorem Qe0(p:Int×Int):(pairD p).depth<=1:=by
 show Jc [.int p.1,.int p.2]+1<=1;simp[Jc,Jp]
theorem Qe2{n:Nat}:∀{ds:List Qb},(∀d∈ds,d.depth<=n)->Jc ds<=n
 |[],_=>QC _
 |d::ds,h=>by
  show max d.depth (Jc ds)<=n;exact Nat.max_le.mpr ⟨h d (.head _),Qe2 λd hd=>h d (.tail _ hd)⟩
theorem Qb7(L:List (Int×Int)):Qou (L.map pairD):=λx hx=>by
 obtain⟨p,_,rfl⟩:=Qy.mp hx;refine⟨rfl,QQ (Qe0 p) (by decide),λy hy=>?_⟩;obtain⟨q,_,rfl⟩:=Qy.mp hy;rfl
theorem Qe5:∀(L M:List (Int×Int)),Qc4 (L.map pairD) (M.map pairD)=true
 |[],[]=>rfl
 |[],_::_=>rfl
 |_::_,[]=>rfl
 |_::L,_::M=>by show(true&&Qc4 (L.map pairD) (M.map pairD))=true;rw[Qe5 L M];rfl
theorem QeZ(L:List (Int×Int)):(Yd (L.map pairD)).depth<=2:=by
 show Jc (L.map pairD)+1<=2;have:=Qe2 (n:=1) (ds:=L.map pairD) λd hd=>by obtain⟨p,_,rfl⟩:=Qy.mp hd;exact Qe0 p
 omega
def stT(L:List (Int×Int)):Qb:=.tuple (L.map pairD)
theorem QeG(Ls:List (List (Int×Int))):Qch (Ls.map stT):=⟨λx hx y hy=>by
 obtain⟨L,_,rfl⟩:=Qy.mp hx;obtain⟨M,_,rfl⟩:=Qy.mp hy;exact Qe5 L M,λx hx=>by
 obtain⟨L,_,rfl⟩:=Qy.mp hx;exact QQ (QeZ L) (by decide)⟩
def plt(p q:Int×Int):Prop:=p.1<q.1∨(p.1=q.1/\p.2<q.2)
instance plt_dec (p q:Int×Int):Decidable (plt p q):=by unfold plt;exact inferInstance
theorem QgK(p q:Int×Int):ltD (pairD p) (pairD q)=decide (plt p q):=by
 show isL (thn (Qfn p.1 q.1) (thn (Qfn p.2 q.2) .eq))=_;unfold Qfn plt;by_cases h1:p.1<q.1
 ·rw[if_pos h1];exact(decide_eq_true (.inl h1)).symm
 ·rw[if_neg h1];by_cases h2:p.1=q.1
  ·rw[if_pos h2];by_cases h3:p.2<q.2
   ·rw[if_pos h3];exact(decide_eq_true (.inr ⟨h2,h3⟩)).symm
   ·rw[if_neg h3];have:decide (p.1<q.1∨p.1=q.1/\p.2<q.2)=false:=decide_eq_false (by omega);rw[this];split<;>rfl
  ·rw[if_neg h2];exact(decide_eq_false (by omega)).symm
theorem QeY(p q:Int×Int):Q6 (pairD p) (pairD q)=decide (p=q):=by
 show((p.1 == q.1)&&((p.2 == q.2)&&true))=_;obtain⟨a,b⟩:=p;obtain⟨c,d⟩:=q;by_cases h1:a=c
 ·by_cases h2:b=d
  ·subst h1 h2;simp
  ·simp[h1,h2]
 ·simp[h1]
theorem Qif(cs:List (Int×Int))(p:Int×Int):((cs.map pairD).any λc=>Q6 c (pairD p))=decide (p∈cs):=by
 rw[Qyj,YG,Qae,decide_eq_true_iff];constructor
 ·rintro⟨c,hc,h⟩;have:c=p:=of_decide_eq_true (by rw[<- QeY];exact h);rw[<- this];exact hc
 ·intro h;refine⟨p,h,?_⟩;show Q6 (pairD p) (pairD p)=true;rw[QeY];simp
def QAE(h w:Int):Qb->Bool
 |.tuple ds=>ds.all (QfW h w)&&Qba ds
 |_=>false
def apB(L:List (Int×Int)):Bool:=decide (L.map (·.1)).Nodup&&decide (L.map (·.2)).Nodup
def bdD(h w:Int)(cs:List (Int×Int)):Qb:=.tuple [.int h,.int w,.tuple (cs.map pairD)]
def inC(cs:List (Int×Int))(e:Qb):Bool:=(cs.map pairD).any λc=>Q6 c e
def QfV(h w:Int)(cs:List (Int×Int)):Qb->Bool
 |.tuple ds=>(ds.all (QfW h w)&&Qba ds)&&(ds.all (inC cs)&&apB (ds.map toP))
 |_=>false
def QmG:DF:=λargs R _=>∃(h w:Int)(d:Qb),args=[.v (.int h),.v (.int w),.v d]/\R (.bool (QfW h w d))
def Qn8:DF:=λargs R _=>∃(h w:Int)(d:Qb),args=[.v (.int h),.v (.int w),.v d]/\R (.bool (QAE h w d))
def Qop:DF:=λargs R _=>∃L:List (Int×Int),args=[.v (.tuple (L.map pairD))]/\L.length<=4000/\R (.bool (apB L))
def QaM(d:Qb):Prop:=∀ds,d=.tuple ds->ds.length<=1000
def Ql5:DF:=λargs R _=>∃(h w:Int)(cs:List (Int×Int))(d:Qb),args=[.v (bdD h w cs),.v d]/\QaM d/\R (.bool (QfV h w cs d))
theorem ZA{d:Qb}(h:(match d with | .tuple _=>false | _=>true)=true):QaM d:=λls e=>by subst e;cases h
theorem QeH{ds:List Qb}(h:ds.length<=1000):QaM (.tuple ds):=λls e=>by cases e;exact h
theorem Qi1{L:List (Int×Int)}(h:∀p∈L,0<=p.1/\p.1<6/\0<=p.2):(L.map (λp:Int×Int=>p.1)++L.map (λp:Int×Int=>6+p.2)).Nodup↔(L.map (·.1)).Nodup/\(L.map (·.2)).Nodup:=by
 rw[ZX];have e:(L.map (λp:Int×Int=>6+p.2)).Nodup↔(L.map (·.2)).Nodup:=by
  rw[show(L.map (λp=>6+p.2))=(L.map (λp=>p.2)).map (6+·) by rw[Jt];rfl];constructor
  ·intro q;exact Qyk (S:=λa b=>a≠b) (6+·) (λa b hab e=>hab (by rw[e])) q
  ·intro q;exact Qhn (6+·) (λa b hab e=>hab (by omega)) q
 rw[e];constructor
 ·rintro⟨a,b,_⟩;exact⟨a,b⟩
 ·rintro⟨a,b⟩;refine⟨a,b,λx hx y hy e=>?_⟩;obtain⟨p,hp,rfl⟩:=Qy.mp hx;obtain⟨q,hq,rfl⟩:=Qy.mp hy;have:=h p hp;have:=h q hq;omega
theorem QdM(ns:List Int):Qc6 (ns.map Q7)=some ns:=Dl.ints_map ns
def inL(n:Int):Qb->Bool
 |.int i=>decide (0<=i)&&decide (i<n)
 |_=>false
theorem QnE(n:Int)(d:Qb):inL n d=inW d 0 (n - 1):=by
 cases d<;>first | rfl | skip
 rename_i i
 show(decide (0<=i)&&decide (i<n))=(decide (0<=i)&&decide (i<=n - 1));rw[show decide (i<n)=decide (i<=n - 1) from decide_eq_decide.mpr (by omega)]
def Qs2(ds:List Qb):Qb->Bool
 |.int k=>ltD (ds.getD k.toNat .none) (ds.getD (k.toNat+1) .none)
 |_=>false
theorem Qhy(ds:List Qb):(QjG 0 ((ds.length:Int) - 1).toNat).all (Qs2 ds)=Qba ds:=by
 rw[QjI];unfold QjG;rw[Qlz,show(((ds.length:Nat):Int) - 1).toNat=ds.length - 1 by omega];refine congrArg (List.all _) (funext λk=>?_);show ltD (ds.getD (0+(k:Int)).toNat .none) (ds.getD ((0+(k:Int)).toNat+1) .none)=_;rw[show(0+(k:Int)).toNat=k by omega]
def Qd4(r n:Nat)(f:Nat->Nat->Bool):List (Int×Int):=((JX n).filter (f r)).map λ(c:Nat)=>((r:Int),(c:Int))
def cellsF(h w:Nat)(f:Nat->Nat->Bool):List (Int×Int):=(JX h).flatMap λr=>Qd4 r w f
def QsR(f:Nat->Nat->Bool)(i j:Nat)(b:Bool):Nat->Nat->Bool:=λr c=>if r=i/\c=j then b else f r c
theorem Qar(h w:Nat)(f:Nat->Nat->Bool):cellsF (h+1) w f=cellsF h w f++Qd4 h w f:=by
 unfold cellsF;rw[Qg3,QdP];simp
theorem Qmm(r n:Nat)(f:Nat->Nat->Bool):Qd4 r (n+1) f=Qd4 r n f++(if f r n=true then[((r:Int),(n:Int))] else[]):=by
 unfold Qd4;rw[Qg3,QoO,Jj]
 congr 1
 by_cases z:f r n=true
 ·rw[if_pos z];simp[z]
 ·rw[if_neg z];simp[z]
theorem QfG{r n:Nat}{f g:Nat->Nat->Bool}(h:∀c,c<n->f r c=g r c):Qd4 r n f=Qd4 r n g:=by
 unfold Qd4
 congr 1
 exact List.filter_congr λc hc=>h c (Z9.mp hc)
theorem Qh2{h w:Nat}{f g:Nat->Nat->Bool}(q:∀r c,r<h->c<w->f r c=g r c):cellsF h w f=cellsF h w g:=by
 induction h with
 |zero=>rfl
 |succ h ih=>rw[Qar,Qar,ih λr c hr=>q r c (by omega),QfG λc hc=>q h c (by omega) hc]
theorem Qlk{h w i j:Nat}{f:Nat->Nat->Bool}{b:Bool}(hi:h<=i):cellsF h w (QsR f i j b)=cellsF h w f:=Qh2 λr c hr _=>if_neg λz=>by omega
theorem Qpa{i n j:Nat}{f:Nat->Nat->Bool}{b:Bool}(hj:n<=j):Qd4 i n (QsR f i j b)=Qd4 i n f:=QfG λc hc=>if_neg λz=>by omega
theorem Qc1{r n:Nat}{f:Nat->Nat->Bool}{p:Int×Int}:p∈Qd4 r n f↔∃c:Nat,c<n/\f r c=true/\p=((r:Int),(c:Int)):=by
 unfold Qd4;rw[Qy];constructor
 ·rintro⟨c,hc,rfl⟩;have hc:=Ji.mp hc;exact⟨c,Z9.mp hc.1,hc.2,rfl⟩
 ·rintro⟨c,hc,hf,rfl⟩;exact⟨c,Ji.mpr ⟨Z9.mpr hc,hf⟩,rfl⟩
theorem QfP{h w:Nat}{f:Nat->Nat->Bool}{p:Int×Int}:p∈cellsF h w f↔∃r c:Nat,r<h/\c<w/\f r c=true/\p=((r:Int),(c:Int)):=by
 unfold cellsF;rw[Yo];constructor
 ·rintro⟨r,hr,hp⟩;obtain⟨c,hc,hf,rfl⟩:=Qc1.mp hp;exact⟨r,c,Z9.mp hr,hc,hf,rfl⟩
 ·rintro⟨r,c,hr,hc,hf,rfl⟩;exact⟨r,Z9.mpr hr,Qc1.mpr ⟨c,hc,hf,rfl⟩⟩
theorem Qh3{h w:Nat}{f:Nat->Nat->Bool}{p:Int×Int}(q:p∈cellsF h w f):0<=p.1/\p.1<h/\0<=p.2/\p.2<w:=by
 obtain⟨r,c,hr,hc,_,rfl⟩:=QfP.mp q;exact⟨Qeu _,by show(r:Int)<h;omega,Qeu _,by show(c:Int)<w;omega⟩
theorem Qgr(r n:Nat)(f:Nat->Nat->Bool):(Qd4 r n f).length<=n:=by
 unfold Qd4;rw[Qh];exact QQ (QcI _ _) (by rw[JN];exact Ql _)
theorem QdK(w:Nat)(f:Nat->Nat->Bool):∀h,(cellsF h w f).length<=h*w
 |0=>QC _
 |h+1=>by
  have:=QdK w f h;have:=Qgr h w f;rw[Qar,Qq,QlJ];omega
theorem QeW(r n:Nat)(f:Nat->Nat->Bool):(Qd4 r n f).filter (λp=>decide (p.1=(r:Int)))=Qd4 r n f:=List.filter_eq_self.mpr λp hp=>by
 obtain⟨c,_,_,rfl⟩:=Qc1.mp hp;exact decide_eq_true rfl
theorem QeX{r k n:Nat}(h:r≠k)(f:Nat->Nat->Bool):(Qd4 r n f).filter (λp=>decide (p.1=(k:Int)))=[]:=QaG.mpr λp hp=>by
 obtain⟨c,_,_,rfl⟩:=Qc1.mp hp;show ¬decide ((r:Int)=(k:Int))=true;rw[decide_eq_false (by omega)];exact Qt
theorem Qf2(w k:Nat)(f:Nat->Nat->Bool):∀h,(cellsF h w f).filter (λp=>decide (p.1=(k:Int)))=if k<h then Qd4 k w f else[]
 |0=>rfl
 |h+1=>by
  rw[Qar,QoO,Qf2 w k f h];by_cases z:k=h
  ·subst z;rw[if_neg (by omega),QeW,if_pos (by omega)];rfl
  ·rw[QeX (λe=>z e.symm),Je];by_cases z2:k<h
   ·rw[if_pos z2,if_pos (by omega)]
   ·rw[if_neg z2,if_neg (by omega)]
theorem Qtg(r n:Nat)(f:Nat->Nat->Bool):(Qd4 r n f).Pairwise plt:=by
 unfold Qd4;refine Qhn (R:=λa b=>a<b) _ (λa b hab=>.inr ⟨rfl,by show(a:Int)<b;omega⟩) ?_
 exact JV _ List.pairwise_lt_range
theorem QhF(w:Nat)(f:Nat->Nat->Bool):∀h,(cellsF h w f).Pairwise plt
 |0=>.nil
 |h+1=>by
  rw[Qar];refine Jk.mpr ⟨QhF w f h,Qtg h w f,λp hp q hq=>?_⟩;obtain⟨r,c,hr,_,_,rfl⟩:=QfP.mp hp;obtain⟨c',_,_,rfl⟩:=Qc1.mp hq;exact .inl (by show(r:Int)<h;omega)
theorem Qr9{p q:Int×Int}(h:plt p q):p≠q:=λe=>by subst e;rcases h with z | z<;>omega
def Qi3:DF:=λargs R _=>∃m:Int,args=[.pot,.v (.int m)]/\1<=m/\m<=6/\∀(h w:Nat)(f:Nat->Nat->Bool),1<=h->(h:Int)<=m->1<=w->(w:Int)<=m->R (bdD h w (cellsF h w f))
def QiZ:DF:=λargs R _=>∃(d:Qb)(h w:Int),args=[.v d,.v (.int h),.v (.int w)]/\R (.bool (QfW h w d))
def QiY:DF:=λargs R _=>∃ds:List Qb,(args=[.v (.tuple ds)]∨args=[.v (.list ds)])/\Qou ds/\ds.length<=1000/\R (.bool (Qba ds))
def QiX:DF:=λargs R _=>∃(h w:Int)(cs:List (Int×Int))(d:Qb),args=[.v (bdD h w cs),.v d]/\h<=6/\QaM d/\R (.bool (QfV h w cs d))
def Qcm(cs:List (Int×Int))(r:Int):List (Int×Int):=cs.filter λp=>decide (p.1=r)
def Qd7(cells L:List (Int×Int)):List (List (Int×Int)):=(cells.filter λc => !decide (c.2∈L.map (·.2))).map λc=>L++[c]
def stsN(cs:List (Int×Int)):Nat->List (List (Int×Int))
 |0=>[[]]
 |i+1=>stsN cs i++(stsN cs i).flatMap (Qd7 (Qcm cs i))
theorem QgT(cells L:List (Int×Int)):(Qd7 cells L).length<=cells.length:=by
 unfold Qd7;rw[Qh];exact QcI _ _
theorem Qeq{α β:Type}{f:α->List β}{k:Nat}:∀{xs:List α},(∀x∈xs,(f x).length<=k)->(xs.flatMap f).length<=xs.length*k
 |[],_=>QC _
 |x::xs,h=>by
  have h1:=h x (.head _);have h2:=Qeq (xs:=xs) λy hy=>h y (.tail _ hy)
  rw[ZY,Qq,QU,QlJ];omega
theorem Qgl{cs:List (Int×Int)}{k:Nat}(h:∀r,(Qcm cs r).length<=k):∀i,(stsN cs i).length<=(k+1)^i
 |0=>Ql _
 |i+1=>by
  have h1:=Qgl h i;have h2:=Qeq (xs:=stsN cs i) (k:=k) λL _=>QQ (QgT (Qcm cs i) L) (h i)
  show(stsN cs i++(stsN cs i).flatMap (Qd7 (Qcm cs i))).length<=_;rw[Qq,Nat.pow_succ,Nat.mul_add,Nat.mul_one];have h3:(stsN cs i).length*k<=(k+1)^i*k:=Qde k h1;omega
theorem Qbg{cells L M:List (Int×Int)}:M∈Qd7 cells L↔∃c∈cells,c.2∉L.map (·.2)/\M=L++[c]:=by
 unfold Qd7;rw[Qy];constructor
 ·rintro⟨c,hc,rfl⟩;have hc:=Ji.mp hc;exact⟨c,hc.1,by simpa using hc.2,rfl⟩
 ·rintro⟨c,hc,hn,rfl⟩;exact⟨c,Ji.mpr ⟨hc,by simpa using hn⟩,rfl⟩
theorem QcX{cs:List (Int×Int)}:∀i,∀L∈stsN cs i,L.length<=i
 |0,L,h=>by rw[Jo.mp h];exact Ql _
 |i+1,L,h=>by
  rcases Jm.mp (show L∈stsN cs i++(stsN cs i).flatMap (Qd7 (Qcm cs i)) from h) with z | z
  ·exact Nat.le_succ_of_le (QcX i L z)
  ·obtain⟨M,hM,hL⟩:=Yo.mp z;obtain⟨c,_,_,rfl⟩:=Qbg.mp hL;have:=QcX i M hM;rw[Qq];exact Nat.succ_le_succ this
theorem QiD(cs:List (Int×Int)):∀i,[]∈stsN cs i
 |0=>.head _
 |i+1=>Jm.mpr (.inl (QiD cs i))
theorem QvB(cs:List (Int×Int))(r:Int):(cs.map pairD).filterMap (λd=>if(toP d).1=r then some d else none)=(Qcm cs r).map pairD:=by
 unfold Qcm;induction cs with
 |nil=>rfl
 |cons c cs ih=>
  rw[JC];by_cases z:c.1=r
  ·rw[QbU (by show(if c.1=r then _ else _)=_;rw[if_pos z]),ih,Yi (by simpa using z)];rfl
  ·rw[QbV (by show(if c.1=r then _ else _)=_;rw[if_neg z]),ih,Qat (by simpa using z)]
theorem Qw2(cells L:List (Int×Int)):(cells.map pairD).filterMap (λd=>if(toP d).2∈L.map (·.2) then none else some (.tuple (L.map pairD++[d])))=(Qd7 cells L).map stT:=by
 unfold Qd7;induction cells with
 |nil=>rfl
 |cons c cs ih=>
  rw[JC];by_cases z:c.2∈L.map (·.2)
  ·rw[QbV (by show(if c.2∈L.map (·.2) then _ else _)=_;rw[if_pos z]),ih,Qat (by simpa using z)]
  ·rw[QbU (by show(if c.2∈L.map (·.2) then _ else _)=_;rw[if_neg z]),ih,Yi (by simpa using z)];show Yd (L.map pairD++[pairD c])::_=Yd ((L++[c]).map pairD)::_;rw[Jj];rfl
theorem Qoq(ns:List Int)(i:Int):((ns.map Q7).any λe=>Q6 e (.int i))=decide (i∈ns):=by
 rw[Qyj,YG,Qae,decide_eq_true_iff];constructor
 ·rintro⟨c,hc,h⟩;have:c=i:=by simpa [Q6] using h
  rw[<- this];exact hc
 ·intro h;refine⟨i,h,?_⟩;show(i == i)=true;simp
theorem QeI(w h:Nat)(f:Nat->Nat->Bool)(r:Int):(Qcm (cellsF h w f) r).length<=w:=by
 by_cases z:0<=r
 ·obtain⟨k,rfl⟩:∃k:Nat,r=k:=⟨r.toNat,by omega⟩
  unfold Qcm;rw[Qf2];split
  ·exact Qgr _ _ _
  ·exact QC _
 ·have:Qcm (cellsF h w f) r=[]:=QaG.mpr λp hp e=>by
   have:=Qh3 hp;have:=of_decide_eq_true e;omega
  rw[this];exact QC _
def Qrh:DF:=λargs R _=>args=[.pot]/\∀d,QaM d->R d
def QgM:DF:=λargs R _=>∃(h:Nat)(w:Int)(cs:List (Int×Int)),args=[.v (bdD h w cs)]/\h<=6/\(∀r,(Qcm cs r).length<=6)/\∀Ls:List (List (Int×Int)),Ls.Perm (stsN cs h)->(Ls.map stT).Pairwise (λa b=>ltD b a=false)->R (.list (Ls.map stT))
theorem QAt{i:Nat}(h:i<6):7^i*7<=823543:=by
 have:7^i<=7^5:=Yb (by decide) (by omega);have e:(7:Nat)^5=16807:=rfl;omega
theorem YK{ds:List Qb}{k:Nat}(h:ds.length<=k)(hk:k<=1000):QaM (.tuple ds):=QeH (QQ h hk)
def toI:Qb->Int
 |.int i=>i
 |_=>0
theorem QoY{h w:Int}{cs:List (Int×Int)}{d:Qb}(q:QfV h w cs d=true):∃L,d=stT L/\∀p∈L,0<=p.1/\p.1<h/\0<=p.2/\p.2<w:=by
 cases d<;>first | (cases q;done) | skip
 rename_i ds
 have q:=Qu.mp (show((ds.all (QfW h w)&&Qba ds)&&(ds.all (inC cs)&&apB (ds.map toP)))=true from q);obtain⟨L,rfl,hL⟩:=Qen (Qu.mp q.1).1;exact⟨L,rfl,hL⟩
theorem Qmn:∀{L:List (Int×Int)},L.Pairwise plt->Qba (L.map pairD)=true
 |[],_=>rfl
 |[_],_=>rfl
 |p::q::L,h=>by
  have h:=QbC.mp h;show(ltD (pairD p) (pairD q)&&Qba ((q::L).map pairD))=true;rw[QgK,decide_eq_true (h.1 q (.head _)),Qmn h.2];rfl
theorem QsX{h w:Int}{cs L:List (Int×Int)}(hb:∀p∈cs,0<=p.1/\p.1<h/\0<=p.2/\p.2<w)(hin:∀p∈L,p∈cs)(ha:apB L=true)(hp:L.Pairwise plt):QfV h w cs (stT L)=true:=by
 show(((L.map pairD).all (QfW h w)&&Qba (L.map pairD))&&((L.map pairD).all (inC cs)&&apB ((L.map pairD).map toP)))=true;have e1:(L.map pairD).all (QfW h w)=true:=Zw.mpr λd hd=>by
  obtain⟨p,hp,rfl⟩:=Qy.mp hd;have:=hb p (hin p hp);exact QwR this.1 this.2.1 this.2.2.1 this.2.2.2
 have e2:(L.map pairD).all (inC cs)=true:=Zw.mpr λd hd=>by
  obtain⟨p,hp,rfl⟩:=Qy.mp hd;unfold inC;rw[Qif];exact decide_eq_true (hin p hp)
 rw[Qb1,ha,Qmn hp,e1,e2];rfl
theorem Qru{α β:Type}{g:α->Option β}{p:α->Bool}{k:α->β}:∀{xs:List α},(∀x∈xs,g x=if p x=true then some (k x) else none)->xs.filterMap g=(xs.filter p).map k
 |[],_=>rfl
 |x::xs,h=>by
  have ih:=Qru (xs:=xs) λy hy=>h y (.tail _ hy)
  by_cases z:p x=true
  ·rw[QbU (by rw[h x (.head _),if_pos z]),ih,Yi z];rfl
  ·rw[QbV (by rw[h x (.head _),if_neg z]),ih,Qat z]
@[irreducible] def Qrg:List Qb->(Qb->Prop)->Prop:=Que
theorem Qkn:Qc9 (λxs H Q=>∃i j,xs=[.int i,.int j]/\Q (.int (if j<i then j else i)) H) Qrg:=by unfold Qrg;exact Qn9
theorem Qnp{i j k:Int}{Q:Qb->Prop}(e:(if j<i then j else i)=k)(h:Q (.int k)):Qrg [.int i,.int j] Q:=by
 unfold Qrg;show Q (.int (if j<i then j else i));rw[e];exact h
theorem Qj9(g:Int×Int->Bool)(cs:List (Int×Int)):(cs.map pairD).filterMap (λd=>if g (toP d)=true then some d else none)=(cs.filter g).map pairD:=by
 rw[Qau];exact Qru (p:=g) (k:=pairD) λp _=>rfl
end Rk
namespace Rv
theorem Qvs:isSubtype (.type "range_iterator") (.type "reversed")=pure false:=by rw[isSubtype_type];kernel_rfl
section
variable{prog:QP}{w:JH}{A:Js}{E:Value->Shared->Prop}{s:Shared}
def Qhz(a b:Int):Obj:={ cls:=.type "range_iterator",data:=.fields #[rawInt (a+(ZN a b 1 - 1)*1),rawInt (ZN a b 1),rawInt (-1)] }
theorem Qlo{r:Addr}{j:Int}{t u v:Tok}{Q:Value->Shared->Prop}(hr:IsRange s.heap r 0 j 1 t u v)(h0 : -1000<=j)(h1:j<=1000)
  (h:Q (.ref s.heap.objs.size) { s with heap:=s.heap.push (Qhz 0 j) }):wpAny (model prog w) A (call (.builtin "range.__reversed__") [.ref r]) Q E s:=by
 refine ZV Qdh ⟨_,hr,rfl⟩ F.entry_range_reversed ?_ (F.args_range_reversed_1 _)
 unfold QcT.«range.__reversed__»;refine Qa (Y5 (a:=JT r) rfl ?_);refine Qa ?_
 unfold Qyr;refine Qa (JZ hr rfl (x:=.int 0 t) rfl ?_);refine Qa (Y5 (a:=some 0) rfl ?_);refine Qa (JZ hr rfl (x:=.int j u) rfl ?_);refine Qa (Y5 (a:=some j) rfl ?_);refine Qa (JZ hr rfl (x:=.int 1 v) rfl ?_);refine Qa (Y5 (a:=some 1) rfl ?_);refine Qk ?_
 dsimp only
 have hz:ZN 0 j 1=if 0<j then j else 0:=by rw[QoH];split<;>omega
 have fit:∀x:Int,-2000<=x->x<=2000->JI x=true:=λx a b=>by
  unfold JI;simp only[Jr,decide_eq_true_eq];omega
 have hs:(JI 0&&JI j&&JI 1&&JI (-1)&&JI (0 - 1)&&JI (ZN 0 j 1))=true:=by
  rw[fit 0 (by decide) (by decide),fit j (by omega) (by omega),fit 1 (by decide) (by decide),fit (-1) (by decide) (by decide),fit (0 - 1) (by decide) (by decide),fit _ (by rw[hz];split<;>omega) (by rw[hz];split<;>omega)];rfl
 rw[hs,if_neg (by decide),if_pos rfl];exact Qa (JS (Qk ⟨_,rfl,h⟩))
theorem QrI{r:Addr}{j:Int}{t u v:Tok}{Q:Value->Shared->Prop}(hr:IsRange s.heap r 0 j 1 t u v)(h0 : -1000<=j)(h1:j<=1000)
  (h:Q (.ref s.heap.objs.size) { s with heap:=s.heap.push (Qhz 0 j) }):codeAny (model prog w) A (.call (.builtin "reversed.__new__") ⟨[.type "reversed",.ref r],[]⟩) (wants Q E) s:=by
 have hT:s.TypeIs (.ref r) "range" := ⟨_,hr,rfl⟩;refine codeAny_of_tree ?_
 show wpAny _ A.in1 (do checkBuiltinCall "reversed.__new__" ⟨[.type "reversed",.ref r],[]⟩;again (.builtin "reversed.__new__" ⟨[.type "reversed",.ref r],[]⟩)) _ _ s;refine Qa (Y5 (F.newCall_reversed_1 _) (Qk ⟨plainId_quiet QrV _,codeAny_builtin F.entry_reversed_new ?_⟩));rw[Around.under_plainId QrV _];unfold QcT.«reversed.__new__»;refine Qa (Y5 (newClass_reversed _) ?_)
 dsimp only
 refine Qa (Y5 (a:=()) (by first | rfl | kernel_rfl) ?_);refine Qa (Y5 (a:=()) (by first | rfl | kernel_rfl) ?_)
 try dsimp only
 refine Qa (wpAny_specialOf hT Qdh.lookup ?_)
 try dsimp only
 refine Qa (Y5 (Qdh.bind _) ?_)
 try dsimp only
 first
 |rw[if_neg (show ¬((Qap "range.__reversed__" == Zs)=true) from Qt)]
 |(show wpAny _ _ (if(Qap "range.__reversed__" == Zs)=true then _ else _) _ _ _;rw[if_neg (show ¬((Qap "range.__reversed__" == Zs)=true) from Qt)])
 refine Qa (Yj ?_);refine Qa (m:=runValue (.call (.builtin "range.__reversed__") ⟨[.ref r],[]⟩)) (show wpAny _ _ (call (.builtin "range.__reversed__") [.ref r]) _ _ _ from Qlo hr h0 h1 ?_)
 first
 |exact Qk h
 |exact Qa (Qk (Qk h))
theorem Qoe{r:Addr}{j:Int}{t u v:Tok}{Q:Value->Shared->Prop}(hr:IsRange s.heap r 0 j 1 t u v)(h0 : -1000<=j)(h1:j<=1000)
  (h:Q (.ref s.heap.objs.size) { s with heap:=s.heap.push (Qhz 0 j) }):wpAny (model prog w) A (call (.type "reversed") [.ref r]) Q E s:=by
 refine callType_other (U := "range_iterator") (Q₁:=λobj s₁=>obj=.ref s.heap.objs.size/\s₁={ s with heap:=s.heap.push (Qhz 0 j) }) (by decide +kernel) F.create_reversed ⟨_,_,F.mro_reversed⟩ F.made_reversed Qvs (F.typeCall_reversed_1 _) (QrI hr h0 h1 ⟨rfl,rfl⟩) ?_
 rintro obj s₁ ⟨rfl,rfl⟩;exact⟨⟨_,QK _ rfl,rfl⟩,h⟩
end
end Rv
namespace L2
def Itv(n:Nat):It:=⟨λi _=>i<n,λi H x H'=>H'=H/\x=.int ((n:Int) - 1 - i),λi _=>n<=i⟩
theorem QlW{P:QP}{w:JH}{K:PySem.W.Frag}{tg:Q5}(it:Addr)(n:Nat):Turn P w K tg (Itv n) [it] it (λi h=>QkD h it ((n:Int) - 1+(i:Nat)*(-1)) ((n:Int) - (i:Nat)) (-1)) where
 mem:=by simp
 obj:=λi h st b hb=>by
  have e:b=it:=by simpa using hb
  subst e;exact⟨_,st,λv z=>by
   have z':Data.fields _=Data.cell v:=z;cases z'⟩
 keep:=λi h h' st k=>k it (by simp) _ st
 item:=by
  intro X hP hw hK hc i pins s σ H E I hf st hg;subst hP hw hK;obtain⟨f0,f1,f2,f3,f4,f5⟩:=hf it (by simp);have W:=Qx4 (prog:=X.prog) (w:=X.w) (I.ok.hd hc) it ((n:Int) - 1) (-1) n;refine W.item i s _ _ hg st λv h' tk hv st' kk=>?_
  obtain⟨t,rfl⟩:=hv;have I1:Inv X pins σ H { s with heap:=h',toks:=tk }:=I.turned (λb o hb e=>kk b o (by simpa using hb) e) f0 f1 f3 f4 f5;refine⟨_,rfl,Qrq (s:={ s with heap:=h',toks:=tk }) (n := "range_iterator") st' rfl rfl (by decide) ⟨.int ((n:Int) - 1 - i),H,I1,⟨t,?_⟩,⟨rfl,rfl⟩,st',λb hb=>(hf b hb).1⟩⟩;rw[show(n:Int) - 1+(i:Int)*(-1)=(n:Int) - 1 - i by omega]
 done:=by
  intro X hP hw hK hc i pins s σ H E I hf st hg;subst hP hw hK;obtain⟨f0,f1,f2,f3,f4,f5⟩:=hf it (by simp);exact QrN (I.ok.hd hc) st (by have:n<=i:=hg;omega) λh' eb=>⟨rfl,I.turned (t':=s.toks) (λb o hb e=>eb b o hb e) f0 f1 f3 f4 f5⟩
 self:=λ_ _ _ _ _ st h=>Qdd st h
def Qy8(ta:TA):TI:=λσ H R=>ta σ H λvs H1=>∃(r:Addr)(j:Int),vs=[.ref r]/\H1 r=some (.rng 0 j) /\ -1000<=j/\j<=1000/\R (Itv j.toNat) H1
section
variable{X:Cx}{tg:Q5}
theorem Qtr{a:Q5}{ta:TA}{p pos:Pos}(hg:Gl X "reversed")(hm:X.mg "reversed" = none)(ha:PA X [a] ta)(hs:starEach [a] X.env=[(false,eval a X.env)]:=by rfl):PI X tg (.Call (.Name "reversed" p) [a] [] pos) (Qy8 ta):=by
 intro pins s σ H R I h;refine Call_ (Qcq I hg hm boot_reversed (JJ (thn (ha pos pins s σ H _ I h) λus s1 ⟨vs,H1,I1,r1,q1⟩=>?_) hs rfl));obtain⟨r,j,e,hr,q1,q2,q⟩:=q1;subst e;obtain⟨u,rfl,ru⟩:=vals1 r1;cases(show u=JT r from ru);obtain⟨t1,t2,t3,e⟩:=I1.hok r _ hr;refine Rv.Qoe (show IsRange s1.heap r 0 j 1 t1 t2 t3 from e) q1 q2 ?_
 have hz:ZN 0 j 1=((j.toNat:Nat):Int):=by rw[QoH];split<;>omega
 have it0:QkD (s1.heap.push (Rv.Qhz 0 j)) s1.heap.objs.size (((j.toNat:Nat):Int) - 1+((0:Nat):Int)*(-1)) (((j.toNat:Nat):Int) - ((0:Nat):Int)) (-1):=by
  have:=QK (h:=s1.heap) (o:=Rv.Qhz 0 j) rfl;unfold Rv.Qhz at this;rw[hz,show(0:Int)+(((j.toNat:Nat):Int) - 1)*1=((j.toNat:Nat):Int) - 1+((0:Nat):Int)*(-1) by omega] at this;rw[show((j.toNat:Nat):Int) - ((0:Nat):Int)=((j.toNat:Nat):Int) by omega];unfold Rv.Qhz;rw[hz,show(0:Int)+(((j.toNat:Nat):Int) - 1)*1=((j.toNat:Nat):Int) - 1+((0:Nat):Int)*(-1) by omega];exact this
 refine Qdd it0 ?_
 refine⟨s1.heap.objs.size,[s1.heap.objs.size],_,_,H1,rfl,I1.kept (t':=s1.toks) λb o e=>Qe _ e,QlW _ j.toNat,it0,λb hb=>?_,q⟩;have e:b=s1.heap.objs.size:=by simpa using hb
 subst e;exact I1.fpOk (Ql _) (I1.hok.fresh (Ql _))
end
section
variable{X:Cx}
def QjJ:V->List V->Hp->VK->Prop:=λx vs H Q=>∃l xs y,x=.ref l/\vs=[.int 0,y]/\H l=some (.lst xs)/\xs.length<sizeLine/\Q .non (upd H l (.lst (y::xs)))
theorem Qk5:MtM X "list.insert" QjJ:=by
 intro pins s σ H x vs v us Q I rx rv h;obtain⟨l,xs,y,rfl,rfl,hH,hz,q⟩:=h;cases rx;cases rv with
 |cons r0 rv=>
  obtain⟨u,rfl,ru⟩:=Vals.one rv;obtain⟨t,rfl⟩:=r0;obtain⟨z,its,n,r,hl,e⟩:=I.lstM hH;refine Qa8 F.slot_list_insert ⟨_,e,rfl⟩ F.entry_list_insert (F.args_list_insert_3 _ _ _) (AutoSeq1.list_insert_list_int_val_1 l its.toArray n 0 t u (by decide) (by rw[Qp];omega)) ⟨e,?_⟩;refine⟨.non,_,I.lset (its':=u::its) hH e (by simp) (.cons ru r) ?_,rfl,q⟩;rw[QU];omega
end
end L2
namespace Dl
open L2 _root_.Rd Rk
section
variable{X:Cx}{E:XK}{st:Z6}{i:Nat}{we:DE}
def Qs1(n:Nat):List Qb:=(JX n).map λ(i:Nat)=>.int ((n:Int) - 1 - i)
theorem Qel(n:Nat):(Qs1 n).length=n:=by unfold Qs1;rw[Qh,JN]
theorem Qgs{n i:Nat}{d:Qb}(h:(Qs1 n)[i]? = some d):i<n/\d=.int ((n:Int) - 1 - i):=by
 unfold Qs1 at h;rw[QD] at h;by_cases z:i<n
 ·rw[Zk z] at h;exact⟨z,(Qw h).symm⟩
 ·rw[Jn (by rw[JN];omega)] at h;cases h
def Qzk(w:DE):DI:=λδ Q EX=>w δ (λd=>match d with
 |.int j=>(-1000<=j/\j<=1000)/\Q (Qs1 j.toNat)
 |_=>False) EX
theorem Qy3{A S:Addr->Prop}{n:Nat}{H1:Hp}(h:n<=sizeLine):ItD A S (Itv n) (Qs1 n) H1:=by
 refine⟨by rw[Qel];exact h,λH2 A' _ _ _=>⟨λi d hd=>?_,?_⟩⟩
 ·obtain⟨hi,rfl⟩:=Qgs hd;refine⟨hi,λx H3 hy=>?_⟩;obtain⟨rfl,rfl⟩:=hy;exact⟨Same.refl _,.int _⟩
 ·show n<=(Qs1 n).length;rw[Qel];exact Ql _
theorem QmA{m:Md}{tg e:Q5}{w:DE}{p p2 pos pos2:Pos}(hg:Gl X "reversed")(hm:X.mg "reversed" = none)(hg2:Gl X "range")(hm2:X.mg "range" = none)(h:QE .P X E e w)(hs:notStar e=true:=by rfl):QI m X E tg (.Call (.Name "reversed" p) [.Call (.Name "range" p2) [e] [] pos2] [] pos) (Qzk w):=⟨by
 refine PI.imp (Qtr hg hm (Qcy (Qpv hg2 hm2 (Qcy h.h J3 hs) (by rw[ZZ hs];rfl)) J3)) λσ H R _ ⟨F,δ,R',EX,rel,hw,k,o⟩=>?_
 refine⟨F,δ,_,EX,rel,hw,λd hd v H' rel' kp vk=>?_,o⟩;cases d<;>first | exact(show False from hd).elim | skip
 obtain⟨⟨h1,h2⟩,hR⟩:=hd;rw[DP.int vk];exact⟨_,rfl,λr H2 s2 n2 e2=>⟨r,_,rfl,e2,h1,h2,k _ hR _ H2 (rel'.same s2) (kp.trans (Kp.same rel' s2)) (Qy3 (YI (Rk.Qb4 (by omega))))⟩⟩⟩
def Qzi(i:Nat)(we:DE):DS:=λD δ=>match δ[i]? with
 |some (.own ds)=>we δ (λd=>ds.length<1000000/\D.nx (δ.set i (.own (d::ds)))) D.ex
 |_=>False
theorem QtE(h:PS X st (QlY (tBM X.K "list" QjJ (Qhs i) (Qdk (tX .D X.K E (dC (.int 0))) (Qdk (tX .D X.K E we) QoU))))):PS X st (tS X.K E (Qzi i we)):=by
 refine PS.imp h λD σ H ⟨F,δ,DD,rel,hw,en⟩=>?_
 unfold Qzi at hw;split at hw
 ·rename_i ds hd
  obtain⟨x,hx⟩:=rel.lt hd;obtain⟨l,xs,rfl,e,q,f⟩:=rel.sl i _ _ hx hd;have np:=rel.own_pot hd hx;refine⟨.ref l,hx,.inl ⟨rfl,_,SqL.of e⟩,F,δ,(λd=>d=.int 0),DD.ex,rel,rfl,λd hd0 v0 H0 rel0 kp0 vk0=>?_,en.ex⟩;subst hd0;cases vk0;refine⟨F,δ,_,DD.ex,rel0,hw,λd ⟨hl,hn⟩ v H' rel' kp vk=>?_,en.ex⟩;have kk:=kp0.trans kp;have q':=kk.das q;refine⟨l,xs,v,rfl,rfl,kk.1 _ _ np e,Q1 (by rw[q.length];exact hl) Qi2,?_⟩;obtain⟨r2,st⟩:=rel'.mut hd hx (.cons vk q');exact en.nx.go _ hn _ _ r2 ((Stp.kp kk).trans st)
 ·exact hw.elim
theorem QvM{y:Str}{e e0:Q5}{we:DE}{apos cpos pos npos:Pos}(i:Nat)(h0:QE .D X E e0 (dC (.int 0)))(he:QE .D X E e we)(hN:X.N[i]? = some y:=by rfl)(hv:Vis X.env.scope y:=by first | exact QR rfl | exact Q2 (QR rfl) | exact Q2 (Q2 rfl))(hd:(y == ("__debug__" : Str))=false:=by decide)(hcd:(y == ("__classdict__" : Str))=false:=by decide)(hs0:notStar e0=true:=by rfl)(hst:notStar e=true:=by rfl)(hbase:attributeBase (.Name y npos) "insert" X.env (eval (.Name y npos) X.env)=eval (.Name y npos) X.env:=by rfl)(hfew:((backTo cpos (starEach [e0,e] X.env)).all (λx => !x.1)&&(backToKw cpos (keywordEach [] X.env)).all (λx=>x.1.isSome)&&decide ([e0,e].length+([]:List QcR).length+(if([]:List QcR).isEmpty then 0 else 1)<30))=true:=by rfl)(hline:(apos.endLine == cpos.line)=true:=by rfl)(hsw:swapsWith (.Call (.Attribute (.Name y npos) "insert" apos) [e0,e] [] cpos) none pos.line X.env=pure false:=by rfl):QS X E (.Expr (.Call (.Attribute (.Name y npos) "insert" apos) [e0,e] [] cpos) pos) (Qzi i we):=⟨QtE (Qgy (QkV PySem.F.plainAttrs_list PySem.F.slot_list_insert PySem.F.type_list_insert Qk5 (pv i hN hv hd hcd) (Qcy h0.h (Qcy he.h J3 hst) hs0) hbase hfew hline (ZZ hs0) (by rw[ZZ hst];rfl)) hsw)⟩
end
end Dl
namespace Rk
open L2 _root_.Rd Dl Rt
def QoX(B:Nat->Nat->Int)(t:Nat):List Nat->Nat->Int
 |[],_=>0
 |c::cs,k=>(if t.testBit c=true then 0 else B (t ||| 2^c) k)+QoX B t cs k
theorem QeF(B:Nat->Nat->Int)(t c k:Nat):∀cs:List Nat,QoX B t (cs++[c]) k=QoX B t cs k+(if t.testBit c=true then 0 else B (t ||| 2^c) k)
 |[]=>by show _+0=0+_;omega
 |d::cs=>by
  show _+QoX B t (cs++[c]) k=_+QoX B t cs k+_;rw[QeF B t c k cs];omega
def Qek(h:Nat)(F:Nat->Int):List Qb:=(JX (h+1)).map λ(k:Nat)=>.int (F k)
def QiB(h w:Nat)(B:Nat->Nat->Int):List Qb:=(JX (2^w)).map λ(t:Nat)=>.list (Qek h (B t))
def stepB(B:Nat->Nat->Int)(cols:List Nat)(t k:Nat):Int:=B t k+if k=0 then 0 else QoX B t cols (k - 1)
def QoD(cs:List (Int×Int))(r:Nat):List Nat:=(Qcm cs r).map λp=>p.2.toNat
def Wc(cs:List (Int×Int))(h:Nat):Nat->Nat->Nat->Int
 |0,_,k=>if k=0 then 1 else 0
 |i+1,t,k=>stepB (Wc cs h i) (QoD cs (h - 1 - i)) t k
def QiA(cs:List (Int×Int))(h w:Nat):Nat->List Qb
 |0=>[.list (QiB h w (Wc cs h 0))]
 |i+1=>.list (QiB h w (Wc cs h (i+1)))::QiA cs h w i
def Quo(ns:List Nat):List Qb:=ns.map λ(c:Nat)=>.int (c:Int)
def QuX(cs:List (Int×Int))(h w:Nat):List Qb:=(JX (min h w+1)).map λ(k:Nat)=>.int (Wc cs h h 0 k)
def Qrf:DF:=λargs R _=>∃(h w:Nat)(cs:List (Int×Int)),args=[.v (bdD h w cs)]/\R (.int ((min h w:Nat):Int))
def QsN:DF:=λargs R _=>∃(h w:Nat)(B:Nat->Nat->Int)(cols:List Nat)(t:Nat),args=[.v (.list (QiB h w B)),.v (.list (Quo cols)),.v (.int t)]/\t<2^w/\(∀c∈cols,c<w)/\h<=6/\w<=6/\R (.list (Qek h (stepB B cols t)))
def QlR:DF:=λargs R _=>∃(h w:Nat)(cs:List (Int×Int)),args=[.v (bdD h w cs)]/\h<=6/\w<=6/\(∀p∈cs,0<=p.2/\p.2<w)/\R (.list (QiA cs h w h))
def Qi9:DF:=λargs R _=>∃(h w:Nat)(cs:List (Int×Int)),args=[.v (bdD h w cs)]/\h<=6/\w<=6/\(∀p∈cs,0<=p.2/\p.2<w)/\R (.list (QuX cs h w))
theorem Qb0{h k:Nat}{F:Nat->Int}(hk:k<=h):(Qek h F)[k]? = some (.int (F k)):=by
 unfold Qek;rw[QD,Zk (by omega)];rfl
theorem Qcc(h:Nat)(F:Nat->Int):(Qek h F).length=h+1:=by unfold Qek;rw[Qh,JN]
theorem QeD{h w t:Nat}{B:Nat->Nat->Int}(ht:t<2^w):(QiB h w B)[t]? = some (.list (Qek h (B t))):=by
 unfold QiB;rw[QD,Zk ht];rfl
theorem Qbv{h:Nat}{F G:Nat->Int}(e:∀k,k<=h->F k=G k):Qek h F=Qek h G:=by
 unfold Qek;refine QdO λk hk=>?_
 rw[e k (by have:=Z9.mp hk;omega)]
theorem Qpb{h j:Nat}{F:Nat->Int}{v:Int}(hj:j<=h):(Qek h F).set j (.int v)=Qek h (λk=>if k=j then v else F k):=by
 apply QaL
 intro k;rw[Qfe];by_cases z:j=k
 ·subst z;rw[if_pos rfl,if_pos (by rw[Qcc];omega),Qb0 hj,if_pos rfl]
 ·rw[if_neg z];by_cases z2:k<=h
  ·rw[Qb0 z2,Qb0 z2,if_neg (λe=>z e.symm)]
  ·rw[Jn (by rw[Qcc];omega),Jn (by rw[Qcc];omega)]
theorem cut_last(xs:List Qb):Dl.cutD xs none (some (-1))=xs.take (xs.length - 1):=by
 unfold Dl.cutD;rw[HT.Qgq,ZJ,QlK]
 congr 1
 have e:HT.sIx xs.length xs.length (some (-1))=((-1:Int)+(xs.length:Int)).toNat:=by unfold HT.sIx;dsimp only;rw[if_pos (by decide)]
 rw[e];omega
theorem QuH:∀t:Fin 64,∀c:Fin 6,QcK ((t:Nat):Int) (1*2^((c:Nat):Int).toNat)=if(t:Nat).testBit c=true then 2^(c:Nat) else 0:=by decide +kernel
theorem Qxt:∀t:Fin 64,∀c:Fin 6,Qdi ((t:Nat):Int) (1*2^((c:Nat):Int).toNat)=(((t:Nat) ||| 2^(c:Nat):Nat):Int):=by decide +kernel
theorem Qwj{t c w:Nat}(ht:t<2^w)(hc:c<w):t ||| 2^c<2^w:=Nat.or_lt_two_pow ht (Nat.pow_lt_pow_right (by decide) hc)
theorem Qpd(h:Nat)(F:Nat->Int):Dl.cutD (Qek h F) none (some (-1))=(JX h).map λ(k:Nat)=>Q7 (F k):=by
 rw[cut_last,Qcc];unfold Qek;rw[<- Qjm,QbM,QuS,YH (Nat.le_succ h)]
theorem QuJ{t c w:Nat}(ht:t<2^w)(hc:c<w)(w6:w<=6):QcK (t:Int) (1*2^((c:Nat):Int).toNat)=if t.testBit c=true then 2^c else 0:=by
 have h64:2^w<=2^6:=Yb (by decide) w6;exact QuH ⟨t,by have e:2^6=64:=rfl;omega⟩ ⟨c,by omega⟩
theorem Qwk{t c w:Nat}(ht:t<2^w)(hc:c<w)(w6:w<=6):Qdi (t:Int) (1*2^((c:Nat):Int).toNat)=((t ||| 2^c:Nat):Int):=by
 have h64:2^w<=2^6:=Yb (by decide) w6;exact Qxt ⟨t,by have e:2^6=64:=rfl;omega⟩ ⟨c,by omega⟩
theorem Qgz(w:Nat):(1*2^((w:Nat):Int).toNat:Int)=((2^w:Nat):Int):=by
 rw[Int.one_mul,QN];simp
theorem Qxp(cs:List (Int×Int))(r:Nat)(hb:∀p∈cs,0<=p.2):(cs.map pairD).filterMap (λd=>if(toP d).1=(r:Int) then some (.int (toP d).2) else none)=Quo (QoD cs r):=by
 unfold Quo QoD Qcm;rw[Qau,Jt];refine Qru (p:=λp:Int×Int=>decide (p.1=(r:Int))) λp hp=>?_
 show(if p.1=(r:Int) then some (Q7 p.2) else none)=if decide (p.1=(r:Int))=true then some (Q7 ((p.2.toNat:Nat):Int)) else none
 rw[show((p.2.toNat:Nat):Int)=p.2 by have:=hb p hp;omega];by_cases z:p.1=(r:Int)
 ·rw[if_pos z,if_pos (decide_eq_true z)]
 ·rw[if_neg z,if_neg (by simpa using z)]
theorem QuB{cs:List (Int×Int)}{w r c:Nat}(hb:∀p∈cs,0<=p.2/\p.2<w)(h:c∈QoD cs r):c<w:=by
 unfold QoD Qcm at h;obtain⟨p,hp,rfl⟩:=Qy.mp h;have:=hb p (Ji.mp hp).1;omega
theorem Qjx(cs:List (Int×Int))(h w:Nat):∀i,(QiA cs h w i).length=i+1
 |0=>rfl
 |i+1=>by show(QiA cs h w i).length+1=_;rw[Qjx cs h w i]
theorem Qiz(cs:List (Int×Int))(h w:Nat):∀i,(QiA cs h w i)[0]? = some (.list (QiB h w (Wc cs h i)))
 |0=>rfl
 |_+1=>rfl
theorem Qpc(cs:List (Int×Int))(h t:Nat):Qek h (Wc cs h 0 t)=Q7 1::Jh h (.int 0):=by
 apply QaL
 intro k;cases k with
 |zero=>rw[Qb0 (QC _)];rfl
 |succ k=>
  by_cases z:k+1<=h
  ·rw[Qb0 z,Qas,Yh,if_pos (by omega)];rfl
  ·rw[Jn (by rw[Qcc];omega),Qas,Yh,if_neg (by omega)]
theorem Qs3(h:Nat):(Jh h [Q7 0]).flatten=Jh h (.int 0):=by
 induction h with
 |zero=>rfl
 |succ h ih=>rw[ZH,Yc,ih];rfl
theorem Qr8{w:Nat}(h:w<=6) : -1000000<=(1*2^((w:Nat):Int).toNat:Int)/\(1*2^((w:Nat):Int).toNat:Int)<=1000000:=by
 have p64:2^w<=64:=Yb (n:=2) (by decide) h;rw[Qgz];generalize 2^w=x at p64;omega
def sumZ{α:Type}(f:α->Int):List α->Int
 |[]=>0
 |x::xs=>f x+sumZ f xs
theorem Qgj{α:Type}(f:α->Int):∀a b:List α,sumZ f (a++b)=sumZ f a+sumZ f b
 |[],b=>by show _=0+_;rw[Qfs];rfl
 |x::a,b=>by show _+sumZ f (a++b)=_+sumZ f a+_;rw[Qgj f a b];omega
theorem Qht{α β:Type}(f:β->Int)(g:α->List β):∀a:List α,sumZ f (a.flatMap g)=sumZ (λx=>sumZ f (g x)) a
 |[]=>rfl
 |x::a=>by rw[ZY,Qgj,Qht f g a];rfl
theorem YX{α:Type}{f g:α->Int}:∀{a:List α},(∀x∈a,f x=g x)->sumZ f a=sumZ g a
 |[],_=>rfl
 |x::a,h=>by show f x+_=g x+_;rw[h x (.head _),YX λy hy=>h y (.tail _ hy)]
theorem Qgk{α:Type}(f g:α->Int):∀a:List α,sumZ (λx=>f x+g x) a=sumZ f a+sumZ g a
 |[]=>rfl
 |x::a=>by show(f x+g x)+sumZ _ a=f x+sumZ f a+(g x+sumZ g a);rw[Qgk f g a];omega
theorem Qaq{α:Type}(f:α->Int)(p:α->Bool):∀a:List α,sumZ f (a.filter p)=sumZ (λx=>if p x=true then f x else 0) a
 |[]=>rfl
 |x::a=>by
  by_cases z:p x=true
  ·rw[Yi z];show f x+_=(if p x=true then f x else 0)+_;rw[if_pos z,Qaq f p a]
  ·rw[Qat z];show _=(if p x=true then f x else 0)+_;rw[if_neg z,Qaq f p a,Qfs]
theorem Qjz{α β:Type}(f:β->Int)(g:α->β):∀a:List α,sumZ f (a.map g)=sumZ (λx=>f (g x)) a
 |[]=>rfl
 |x::a=>by show _+sumZ f (a.map g)=_+_;rw[Qjz f g a]
theorem sumZ_zero{α:Type}:∀a:List α,sumZ (λ_=>0) a=0
 |[]=>rfl
 |x::a=>by show 0+sumZ _ a=0;rw[sumZ_zero a];rfl
theorem Qfw{α:Type}(p:α->Bool):∀a:List α,sumZ (λx=>if p x=true then 1 else 0) a=((a.countP p:Nat):Int)
 |[]=>rfl
 |x::a=>by
  show(if p x=true then 1 else 0)+_=_;rw[Qfw p a];by_cases z:p x=true
  ·rw[if_pos z,List.countP_cons_of_pos z];omega
  ·rw[if_neg z,List.countP_cons_of_neg z];omega
theorem QeE{α:Type}(B:Nat->Nat->Int)(t k:Nat)(g:α->Nat):∀a:List α,QoX B t (a.map g) k=sumZ (λx=>if t.testBit (g x)=true then 0 else B (t ||| 2^g x) k) a
 |[]=>rfl
 |x::a=>by show _+QoX B t (a.map g) k=_+_;rw[QeE B t k g a]
def mkL(L:List (Int×Int)):Nat:=L.foldl (λt p=>t ||| 2^p.2.toNat) 0
theorem Qep(L:List (Int×Int))(p:Int×Int):mkL (L++[p])=mkL L ||| 2^p.2.toNat:=by
 unfold mkL;rw[List.foldl_append];rfl
theorem Qkr(c:Nat):∀(L:List (Int×Int))(t:Nat),(L.foldl (λt p=>t ||| 2^p.2.toNat) t).testBit c=(t.testBit c||decide (c∈L.map λp=>p.2.toNat))
 |[],t=>by simp
 |p::L,t=>by
  rw[QcJ,Qkr c L,Nat.testBit_or,Nat.testBit_two_pow,Bool.or_assoc]
  congr 1
  rw[JC,YG];simp only[QuU,decide_eq_true_eq,Qz];constructor
  ·rintro(z | z)
   ·exact .inl z.symm
   ·exact .inr z
  ·rintro(z | z)
   ·exact .inl z.symm
   ·exact .inr z
theorem Qg0(L:List (Int×Int))(c:Nat):(mkL L).testBit c=decide (c∈L.map λp=>p.2.toNat):=by
 unfold mkL;rw[Qkr];simp
theorem Qeg{cs:List (Int×Int)}:∀i,∀L∈stsN cs i,∀p∈L,p∈cs
 |0,L,h,p,hp=>by rw[Jo.mp h] at hp;cases hp
 |i+1,L,h,p,hp=>by
  rcases Jm.mp (show L∈stsN cs i++(stsN cs i).flatMap (Qd7 (Qcm cs i)) from h) with z | z
  ·exact Qeg i L z p hp
  ·obtain⟨M,hM,hL⟩:=Yo.mp z;obtain⟨c,hc,_,rfl⟩:=Qbg.mp hL;rcases Jm.mp hp with y | y
   ·exact Qeg i M hM p y
   ·rw[Jo.mp y];exact(Ji.mp hc).1
theorem QiW{L:List (Int×Int)}{c:Int×Int}(hL:∀p∈L,0<=p.2)(hc:0<=c.2):(c.2.toNat∈L.map λp=>p.2.toNat)↔c.2∈L.map (·.2):=by
 rw[Qy,Qy];constructor
 ·rintro⟨p,hp,e⟩;refine⟨p,hp,?_⟩;have:=hL p hp;have e:p.2.toNat=c.2.toNat:=e;show p.2=c.2;omega
 ·rintro⟨p,hp,e⟩;exact⟨p,hp,by show p.2.toNat=c.2.toNat;rw[show p.2=c.2 from e]⟩
def trm(cs:List (Int×Int))(h r k:Nat)(L:List (Int×Int)):Int:=if L.length<=k then Wc cs h (h - r) (mkL L) (k - L.length) else 0
theorem QoT{cs:List (Int×Int)}{h r k:Nat}(hr:r<h)(hb:∀p∈cs,0<=p.2){L:List (Int×Int)}(hL:∀p∈L,p∈cs) :
  trm cs h r k L=trm cs h (r+1) k L+sumZ (trm cs h (r+1) k) (Qd7 (Qcm cs r) L):=by
 have e1:h - r=(h - (r+1))+1:=by omega
 have e2:h - 1 - (h - (r+1))=r:=by omega
 unfold Qd7;rw[Qjz,Qaq];unfold trm;rw[e1];by_cases z:L.length<=k
 ·rw[if_pos z,if_pos z];show stepB (Wc cs h (h - (r+1))) (QoD cs (h - 1 - (h - (r+1)))) (mkL L) (k - L.length)=_;rw[e2];unfold stepB
  congr 1
  by_cases z2:k - L.length=0
  ·rw[if_pos z2];refine(Eq.trans (YX (g:=λ_=>0) λc hc=>?_) (sumZ_zero _)).symm;rw[Qq,if_neg (show ¬(L.length+[c].length<=k) by show ¬(L.length+1<=k);omega)];split<;>rfl
  ·rw[if_neg z2];unfold QoD;rw[QeE];refine YX λc hc=>?_
   have hc':=hb c (Ji.mp hc).1;rw[Qg0,Qep,Qq,if_pos (show L.length+[c].length<=k by show L.length+1<=k;omega)];have em:=QiW (c:=c) (λp hp=>hb p (hL p hp)) hc';by_cases y:c.2∈L.map (·.2)
   ·rw[if_pos (decide_eq_true (em.mpr y)),if_neg (by simpa using y)]
   ·rw[if_neg (by rw[decide_eq_true_eq];exact λq=>y (em.mp q)),if_pos (by simpa using y)];show _=Wc cs h (h - (r+1)) _ (k - (L.length+1));rw[show k - L.length - 1=k - (L.length+1) by omega]
 ·rw[if_neg z,if_neg z,Qfs];refine(Eq.trans (YX (g:=λ_=>0) λc hc=>?_) (sumZ_zero _)).symm;rw[Qq,if_neg (show ¬(L.length+[c].length<=k) by show ¬(L.length+1<=k);omega)];split<;>rfl
theorem Qjq{cs:List (Int×Int)}{h k:Nat}(hb:∀p∈cs,0<=p.2):∀r,r<=h->sumZ (trm cs h r k) (stsN cs r)=Wc cs h h 0 k
 |0,_=>by
  show(if 0<=k then Wc cs h (h - 0) (mkL []) (k - 0) else 0)+0=_;rw[if_pos (QC _),QcS];rfl
 |r+1,hr=>by
  rw[<- Qjq hb r (by omega)];show sumZ _ (stsN cs r++(stsN cs r).flatMap (Qd7 (Qcm cs r)))=_;rw[Qgj,Qht,<- Qgk];exact(YX λL hL=>QoT (by omega) hb (Qeg r L hL)).symm
def Qzn(cs:List (Int×Int))(h k:Nat):Int:=(((stsN cs h).countP λL=>L.length == k:Nat):Int)
theorem QrA{cs:List (Int×Int)}{h:Nat}(hb:∀p∈cs,0<=p.2)(k:Nat):Qzn cs h k=Wc cs h h 0 k:=by
 rw[<- Qjq (k:=k) hb h (Ql _)];unfold Qzn;rw[<- Qfw];refine YX λL _=>?_
 unfold trm;rw[QcO];show(if(L.length == k)=true then 1 else 0)=if L.length<=k then(if k - L.length=0 then 1 else 0) else 0
 by_cases z:L.length=k
 ·rw[if_pos (by simpa using z),if_pos (by omega),if_pos (by omega)]
 ·rw[if_neg (by simpa using z)];by_cases z2:L.length<=k
  ·rw[if_pos z2,if_neg (by omega)]
  ·rw[if_neg z2]
theorem QgG:∀(w:Nat)(l:List Nat),l.Nodup->(∀x∈l,x<w)->l.length<=w
 |0,l,_,h=>by
  cases l with
  |nil=>exact Ql _
  |cons a l=>exact absurd (h a (.head _)) (Qu3 _)
 |w+1,l,nd,h=>by
  by_cases z:w∈l
  ·have h1:=QgG w (l.erase w) (nd.erase w) λx hx=>by
    have:=h x (List.mem_of_mem_erase hx);have hne:x≠w:=λe=>by subst e;exact(List.Nodup.not_mem_erase nd) hx
    omega
   have h2:=List.length_erase_of_mem z;omega
  ·have h1:=QgG w l nd λx hx=>by
    have:=h x hx;have hne:x≠w:=λe=>by subst e;exact z hx
    omega
   omega
theorem QiE{cs:List (Int×Int)}:∀i,∀L∈stsN cs i,(L.map (·.2)).Nodup
 |0,L,h=>by rw[Jo.mp h];exact .nil
 |i+1,L,h=>by
  rcases Jm.mp (show L∈stsN cs i++(stsN cs i).flatMap (Qd7 (Qcm cs i)) from h) with z | z
  ·exact QiE i L z
  ·obtain⟨M,hM,hL⟩:=Yo.mp z;obtain⟨c,_,hn,rfl⟩:=Qbg.mp hL;rw[Jj];refine ZX.mpr ⟨QiE i M hM,by simp,λa h1 b h2 e=>?_⟩;have h2:b=c.2:=by simpa using h2
   rw[e,h2] at h1;exact hn h1
theorem Ql3{cs:List (Int×Int)}{w i:Nat}(hb:∀p∈cs,0<=p.2/\p.2<w){L:List (Int×Int)}(h:L∈stsN cs i):L.length<=w:=by
 have nd:=QiE i L h;have hs:=Qeg i L h;have h1:=QgG w (L.map λp=>p.2.toNat) ?_ λx hx=>?_
 ·rwa [Qh] at h1
 ·have e:(L.map λp=>p.2.toNat)=(L.map (·.2)).map Int.toNat:=by rw[Jt];rfl
  rw[e];refine YS.mpr (Qed (λ{a b} ha hb' hne hz=>hne ?_) nd);obtain⟨p,hp,rfl⟩:=Qy.mp ha;obtain⟨q,hq,rfl⟩:=Qy.mp hb';have:=hb p (hs p hp);have:=hb q (hs q hq);show p.2=q.2;have hz:p.2.toNat=q.2.toNat:=hz;omega
 ·obtain⟨p,hp,rfl⟩:=Qy.mp hx;have:=hb p (hs p hp);omega
end Rk
namespace L2
section
variable{X:Cx}
end
end L2
namespace Dl
open L2 _root_.Rd Rk
end Dl
namespace Rk
open L2 _root_.Rd Dl Rt
def wo(cs:List (Int×Int))(c:Int×Int):List (Int×Int):=cs.filter λp => !decide (p=c)
theorem QfZ{α β:Type}{f g:α->List β}:∀{xs:List α},(∀x∈xs,f x=g x)->xs.flatMap f=xs.flatMap g
 |[],_=>rfl
 |x::xs,h=>by rw[ZY,ZY,h x (.head _),QfZ λy hy=>h y (.tail _ hy)]
def Bds(h w:Nat)(cs:List (Int×Int)):Prop:=h<=6/\w<=6/\∀p∈cs,0<=p.1/\p.1<h/\0<=p.2/\p.2<w
theorem Bds.wo{h w:Nat}{cs:List (Int×Int)}(b:Bds h w cs)(c:Int×Int):Bds h w (wo cs c):=⟨b.1,b.2.1,λp hp=>b.2.2 p (Ji.mp hp).1⟩
theorem Bds.col{h w:Nat}{cs:List (Int×Int)}(b:Bds h w cs):∀p∈cs,0<=p.2/\p.2<(w:Int):=λp hp=>(b.2.2 p hp).2.2
theorem Bds.nn{h w:Nat}{cs:List (Int×Int)}(b:Bds h w cs):∀p∈cs,0<=p.2:=λp hp=>(b.2.2 p hp).2.2.1
def QgP:List (Int×Int)->List (Int×Int)->Prop
 |[],[]=>False
 |[],_::_=>True
 |_::_,[]=>False
 |p::L,q::M=>plt p q∨(p=q/\QgP L M)
theorem QrB(p q:Int×Int):Qcn (pairD p) (pairD q)=if plt p q then .lt else if p=q then .eq else .gt:=by
 obtain⟨a,b⟩:=p;obtain⟨c,d⟩:=q;show thn (Qfn a c) (thn (Qfn b d) .eq)=_;unfold Qfn;by_cases h1:a<c
 ·rw[if_pos h1,if_pos (show plt (a,b) (c,d) from QR h1)];rfl
 ·rw[if_neg h1];by_cases h2:a=c
  ·subst h2;rw[if_pos rfl];by_cases h3:b<d
   ·rw[if_pos h3,if_pos (show plt (a,b) (a,d) from Q2 ⟨rfl,h3⟩)];rfl
   ·have hn:¬plt (a,b) (a,d):=λz=>by
     have z:a<a∨(a=a/\b<d):=z;omega
    rw[if_neg h3,if_neg hn];by_cases h4:b=d
    ·subst h4;rw[if_pos rfl,if_pos rfl];rfl
    ·rw[if_neg h4,if_neg (λe=>h4 (Qu2 e).2)];rfl
  ·have hn:¬plt (a,b) (c,d):=λz=>by
    have z:a<c∨(a=c/\b<d):=z;omega
   rw[if_neg h2,if_neg hn,if_neg (λe=>h2 (Qu2 e).1)];rfl
theorem QgL:∀L M:List (Int×Int),ltD (stT L) (stT M)=true↔QgP L M
 |[],[]=>by
  constructor
  ·intro h;cases h
  ·intro h;exact h.elim
 |[],_::_=>⟨λ_=>trivial,λ_=>rfl⟩
 |_::_,[]=>by
  constructor
  ·intro h;cases h
  ·intro h;exact h.elim
 |p::L,q::M=>by
  have ih:=QgL L M;show isL (thn (Qcn (pairD p) (pairD q)) (Qbz (L.map pairD) (M.map pairD)))=true↔_;have ih:isL (Qbz (L.map pairD) (M.map pairD))=true↔QgP L M:=ih;rw[QrB];by_cases z:plt p q
  ·rw[if_pos z];exact⟨λ_=>.inl z,λ_=>rfl⟩
  ·rw[if_neg z];by_cases y:p=q
   ·rw[if_pos y];show isL (Qbz (L.map pairD) (M.map pairD))=true↔_;rw[ih];exact⟨λh=>.inr ⟨y,h⟩,λh=>h.elim (λe=>absurd e z) λe=>e.2⟩
   ·rw[if_neg y];constructor
    ·intro h;cases h
    ·rintro(h | h)
     ·exact absurd h z
     ·exact absurd h.1 y
theorem QgO:∀L:List (Int×Int),¬QgP L L
 |[],h=>h
 |p::L,h=>by
  rcases h with z | z
  ·rcases z with z | z<;>omega
  ·exact QgO L z.2
theorem Qri{L M:List (Int×Int)}(h1:QgP L M)(h2:QgP M L):False:=by
 have a:=(QgL L M).mpr h1;have b:=(QgL M L).mpr h2;rw[Qj2 _ _ a] at b;cases b
theorem Qto(p q:Int×Int):plt p q∨p=q∨plt q p:=by
 obtain⟨a,b⟩:=p;obtain⟨c,d⟩:=q;by_cases e:a=c/\b=d
 ·exact .inr (.inl (by rw[e.1,e.2]))
 ·have:a<c∨(a=c/\b<d)∨c<a∨(c=a/\d<b):=by omega
  rcases this with z | z | z | z
  ·exact .inl (.inl z)
  ·exact .inl (.inr z)
  ·exact .inr (.inr (.inl z))
  ·exact .inr (.inr (.inr z))
theorem Qns:∀L M:List (Int×Int),QgP L M∨L=M∨QgP M L
 |[],[]=>.inr (.inl rfl)
 |[],_::_=>.inl trivial
 |_::_,[]=>.inr (.inr trivial)
 |p::L,q::M=>by
  rcases Qto p q with z | z | z
  ·exact .inl (.inl z)
  ·subst z;rcases Qns L M with y | y | y
   ·exact .inl (.inr ⟨rfl,y⟩)
   ·exact .inr (.inl (by rw[y]))
   ·exact .inr (.inr (.inr ⟨rfl,y⟩))
  ·exact .inr (.inr (.inl z))
theorem Qnt:∀{S T:List (Int×Int)}(c d:Int×Int),S.length=T.length->QgP S T->QgP (S++[c]) (T++[d])
 |[],[],_,_,_,h=>h.elim
 |[],_::_,_,_,e,_=>by cases e
 |_::_,[],_,_,e,_=>by cases e
 |p::S,q::T,c,d,e,h=>by
  rcases h with z | z
  ·exact .inl z
  ·exact .inr ⟨z.1,Qnt c d (by simpa using e) z.2⟩
theorem Qj3:∀(S:List (Int×Int)){c d:Int×Int},plt c d->QgP (S++[c]) (S++[d])
 |[],c,d,h=>.inl h
 |p::S,c,d,h=>.inr ⟨rfl,Qj3 S h⟩
def rbI(S:List (Int×Int)):Int:=match S.getLast? with
 |some c=>c.1+1
 |none=>0
def fol(cs S:List (Int×Int)):List (Int×Int):=cs.filter λc=>decide (rbI S<=c.1) && !decide (c.2∈S.map (·.2))
def evS(cs:List (Int×Int)):Nat->List (List (Int×Int))
 |0=>[[]]
 |k+1=>(evS cs k).flatMap λS=>(fol cs S).map λc=>S++[c]
structure Std (cs L:List (Int×Int)):Prop where
 sub:∀p∈L,p∈cs
 rows:L.Pairwise λp q=>p.1<q.1
 cols:(L.map (·.2)).Nodup
theorem Std.nil{cs:List (Int×Int)}:Std cs []:=⟨λp hp=>(nomatch hp),.nil,.nil⟩
theorem Std.init{cs S:List (Int×Int)}{c:Int×Int}(h:Std cs (S++[c])):Std cs S/\c∈cs/\(∀p∈S,p.1<c.1)/\c.2∉S.map (·.2):=by
 have r:=Jk.mp h.rows;have k:=h.cols;rw[Jj] at k;have k:=ZX.mp k;refine⟨⟨λp hp=>h.sub p (YW _ hp),r.1,k.1⟩,h.sub c (by simp),λp hp=>r.2.2 p hp c (by simp),λz=>?_⟩;exact k.2.2 c.2 z c.2 (by simp) rfl
theorem Std.snoc{cs S:List (Int×Int)}{c:Int×Int}(h:Std cs S)(h1:c∈cs)(h2:∀p∈S,p.1<c.1)(h3:c.2∉S.map (·.2)):Std cs (S++[c]):=by
 refine⟨λp hp=>?_,Jk.mpr ⟨h.rows,by simp,λp hp q hq=>?_⟩,?_⟩
 ·rcases Jm.mp hp with z | z
  ·exact h.sub p z
  ·rw[Jo.mp z];exact h1
 ·rw[Jo.mp hq];exact h2 p hp
 ·rw[Jj];refine ZX.mpr ⟨h.cols,by simp,λa ha b hb e=>?_⟩;have hb:b=c.2:=by simpa using hb
  rw[e,hb] at ha;exact h3 ha
theorem Qj5{S:List (Int×Int)}(h:S.Pairwise λp q=>p.1<q.1){c:Int×Int}:(∀p∈S,p.1<c.1)∨¬rbI S<=c.1∨(S=[] ):=by
 by_cases z:S=[]
 ·exact .inr (.inr z)
 ·by_cases y:rbI S<=c.1
  ·refine .inl λp hp=>?_
   obtain⟨T,d,rfl⟩:∃T d,S=T++[d]:=⟨S.dropLast,S.getLast z,(Qbc z).symm⟩
   have y:d.1+1<=c.1:=by unfold rbI at y;rw[QlN] at y;simpa using y
   rcases Jm.mp hp with q | q
   ·have:=(Jk.mp h).2.2 p q d (by simp);omega
   ·rw[Jo.mp q];omega
  ·exact .inr (.inl y)
theorem QvC{S:List (Int×Int)}{c:Int×Int}(h:∀p∈S,p.1<c.1)(h0:0<=c.1):rbI S<=c.1:=by
 unfold rbI;cases e:S.getLast? with
 |none=>exact h0
 |some d=>
  have:=h d (QlM e);show d.1+1<=c.1;omega
theorem Qb3{cs:List (Int×Int)}(h0:∀p∈cs,0<=p.1):∀(k:Nat)(L:List (Int×Int)),L∈evS cs k↔Std cs L/\L.length=k
 |0,L=>by
  constructor
  ·intro h;rw[Jo.mp h];exact⟨.nil,rfl⟩
  ·rintro⟨_,h⟩;cases L with
   |nil=>exact .head _
   |cons a b=>cases h
 |k+1,L=>by
  show L∈(evS cs k).flatMap (λS=>(fol cs S).map λc=>S++[c])↔_;rw[Yo];constructor
  ·rintro⟨S,hS,hL⟩;obtain⟨c,hc,rfl⟩:=Qy.mp hL;obtain⟨st,hl⟩:=(Qb3 h0 k S).mp hS;have hc:=Ji.mp hc;have hc2:=Qu.mp hc.2;refine⟨st.snoc hc.1 ?_ (by simpa using hc2.2),by rw[Qq,hl];rfl⟩;rcases Qj5 st.rows (c:=c) with z | z | z
   ·exact z
   ·exact absurd (of_decide_eq_true hc2.1) z
   ·rw[z];exact λp hp=>(nomatch hp)
  ·rintro⟨st,hl⟩;have hne:L≠[]:=λe=>by rw[e] at hl;cases hl
   obtain⟨S,c,rfl⟩:∃T d,L=T++[d]:=⟨L.dropLast,L.getLast hne,(Qbc hne).symm⟩
   obtain⟨s1,s2,s3,s4⟩:=st.init;refine⟨S,(Qb3 h0 k S).mpr ⟨s1,by rw[Qq] at hl;exact Nat.succ.inj hl⟩,Qy.mpr ⟨c,Ji.mpr ⟨s2,?_⟩,rfl⟩⟩;rw[Jr];exact⟨decide_eq_true (QvC s3 (h0 c s2)),by simpa using s4⟩
theorem Qc2{cs:List (Int×Int)}(hp:cs.Pairwise plt)(h0:∀p∈cs,0<=p.1):∀k,(evS cs k).Pairwise QgP
 |0=>Qjl _ _
 |k+1=>by
  show((evS cs k).flatMap λS=>(fol cs S).map λc=>S++[c]).Pairwise QgP;rw[Qlx];refine⟨λS _=>?_,?_⟩
  ·exact YS.mpr ((JV _ hp).imp λh=>Qj3 S h)
  ·refine Qed (λ{S T} hS hT h=>?_) (Qc2 hp h0 k);intro x hx y hy;obtain⟨c,_,rfl⟩:=Qy.mp hx;obtain⟨d,_,rfl⟩:=Qy.mp hy;exact Qnt c d (by rw[((Qb3 h0 k S).mp hS).2,((Qb3 h0 k T).mp hT).2]) h
theorem QbI{cs:List (Int×Int)}(h0:∀p∈cs,0<=p.1):∀(i:Nat)(L:List (Int×Int)),L∈stsN cs i↔Std cs L/\∀p∈L,p.1<(i:Int)
 |0,L=>by
  constructor
  ·intro h;rw[Jo.mp h];exact⟨.nil,λp hp=>(nomatch hp)⟩
  ·rintro⟨s,h⟩;cases L with
   |nil=>exact .head _
   |cons a b=>
    have h1:=h a (.head _);have h2:=h0 a (s.sub a (.head _));exact absurd h1 (by show ¬a.1<0;omega)
 |i+1,L=>by
  show L∈stsN cs i++(stsN cs i).flatMap (Qd7 (Qcm cs i))↔_;rw[Jm,Yo];constructor
  ·rintro(h | ⟨S,hS,hL⟩)
   ·obtain⟨a,b⟩:=(QbI h0 i L).mp h;exact⟨a,λp hp=>by have:=b p hp;omega⟩
   ·obtain⟨c,hc,hn,rfl⟩:=Qbg.mp hL;obtain⟨a,b⟩:=(QbI h0 i S).mp hS;have hc:=Ji.mp hc;have hr:c.1=(i:Int):=of_decide_eq_true hc.2;refine⟨a.snoc hc.1 (λp hp=>by rw[hr];exact b p hp) hn,λp hp=>?_⟩;rcases Jm.mp hp with z | z
    ·have:=b p z;omega
    ·rw[Jo.mp z,hr];omega
  ·rintro⟨s,h⟩;by_cases z:L=[]
   ·left
    rw[z];exact QiD cs i
   ·obtain⟨S,c,rfl⟩:∃T d,L=T++[d]:=⟨L.dropLast,L.getLast z,(Qbc z).symm⟩
    obtain⟨s1,s2,s3,s4⟩:=s.init;have hc:=h c (by simp);by_cases y:c.1=(i:Int)
    ·right
     exact⟨S,(QbI h0 i S).mpr ⟨s1,λp hp=>by have:=s3 p hp;omega⟩,Qbg.mpr ⟨c,Ji.mpr ⟨s2,decide_eq_true y⟩,s4,rfl⟩⟩
    ·left
     refine(QbI h0 i _).mpr ⟨s,λp hp=>?_⟩;rcases Jm.mp hp with q | q
     ·have:=s3 p q;omega
     ·rw[Jo.mp q];omega
theorem Ql2{cs:List (Int×Int)}(nd:cs.Nodup)(h0:∀p∈cs,0<=p.1):∀i,(stsN cs i).Nodup
 |0=>by show[([]:List (Int×Int))].Nodup;simp
 |i+1=>by
  have ih:=Ql2 nd h0 i;show(stsN cs i++(stsN cs i).flatMap (Qd7 (Qcm cs i))).Nodup;refine ZX.mpr ⟨ih,?_,λL hL M hM e=>?_⟩
  ·show List.Pairwise _ _;rw[Qlx];refine⟨λS _=>?_,ih.imp λ{S T} hne x hx y hy e=>?_⟩
   ·unfold Qd7;refine YS.mpr ((JV _ (JV _ nd)).imp λ{c d} hne e=>hne ?_);have:=List.append_inj_right' e rfl
    simpa using this
   ·obtain⟨c,_,_,rfl⟩:=Qbg.mp hx;obtain⟨d,_,_,rfl⟩:=Qbg.mp hy;exact hne (List.append_inj_left' e rfl)
  ·obtain⟨S,hS,hM⟩:=Yo.mp hM;obtain⟨c,hc,_,rfl⟩:=Qbg.mp hM;have hr:c.1=(i:Int):=of_decide_eq_true (Ji.mp hc).2;have:=((QbI h0 i L).mp hL).2 c (by rw[e];simp);omega
theorem Quv{cs:List (Int×Int)}{h k:Nat}(hp:cs.Pairwise plt)(h0:∀p∈cs,0<=p.1)(hh:∀p∈cs,p.1<(h:Int)){Ls:List (List (Int×Int))}(pm:Ls.Perm (stsN cs h))(pw:(Ls.map stT).Pairwise (λa b=>ltD b a=false)):Ls.filter (λL=>L.length == k)=evS cs k:=by
 have nd:Ls.Nodup:=pm.nodup_iff.mpr (Ql2 (hp.imp Qr9) h0 h);have ps:Ls.Pairwise QgP:=by
  have pw:=YS.mp pw;refine(Qly.mpr ⟨nd,pw⟩).imp λ{S T} q=>?_
  rcases Qns S T with z | z | z
  ·exact z
  ·exact absurd z q.1
  ·have:=(QgL T S).mpr z;rw[q.2] at this;cases this
 have s1:(Ls.filter λL=>L.length == k).Pairwise QgP:=JV _ ps;have s2:=Qc2 hp h0 k;have n2:(evS cs k).Nodup:=Qct (R:=QgP) (S:=λa b=>a≠b) (λ{S T} z (e:S=T)=>QgO S (by rw[<- e] at z;exact z)) s2;have n1:(Ls.filter λL=>L.length == k).Nodup:=JV _ nd;have pe:(Ls.filter λL=>L.length == k).Perm (evS cs k):=(Qhm n1 n2).mpr λL=>by
  rw[Ji,Qb3 h0,pm.mem_iff,QbI h0];constructor
  ·rintro⟨⟨a,_⟩,b⟩;exact⟨a,by simpa using b⟩
  ·rintro⟨a,b⟩;exact⟨⟨a,λp hp=>hh p (a.sub p hp)⟩,by simpa using b⟩
 exact List.Perm.eq_of_pairwise (le:=QgP) (λa b _ _ h1 h2=>(Qri h1 h2).elim) s1 s2 pe
end Rk
namespace Dl
open L2 _root_.Rd Rk
section
variable{X:Cx}{E:XK}{st:Z6}{we:DE}
end
end Dl
namespace Rk
open L2 _root_.Rd Dl Rt
structure GB (h w:Nat) (cs:List (Int×Int)):Prop where
 bds:Bds h w cs
 srt:cs.Pairwise plt
 few:(stsN cs h).length<=200000
theorem GB.r0{h w:Nat}{cs:List (Int×Int)}(g:GB h w cs):∀p∈cs,0<=p.1:=λp hp=>(g.bds.2.2 p hp).1
theorem GB.rh{h w:Nat}{cs:List (Int×Int)}(g:GB h w cs):∀p∈cs,p.1<(h:Int):=λp hp=>(g.bds.2.2 p hp).2.1
theorem QnL{h w:Nat}{cs:List (Int×Int)}(g:GB h w cs)(k:Nat):(evS cs k).Perm ((stsN cs h).filter λL=>L.length == k):=by
 have nd:=Ql2 (g.srt.imp Qr9) g.r0 h;have s2:=Qc2 g.srt g.r0 k;have n2:(evS cs k).Nodup:=Qct (R:=QgP) (S:=λa b=>a≠b) (λ{S T} z (e:S=T)=>QgO S (by rw[<- e] at z;exact z)) s2;refine(Qhm n2 (JV _ nd)).mpr λL=>?_
 rw[Ji,Qb3 g.r0,QbI g.r0];constructor
 ·rintro⟨a,b⟩;exact⟨⟨a,λp hp=>g.rh p (a.sub p hp)⟩,by simpa using b⟩
 ·rintro⟨⟨a,_⟩,b⟩;exact⟨a,by simpa using b⟩
theorem Qw5{h w:Nat}{cs:List (Int×Int)}(g:GB h w cs)(k:Nat):((evS cs k).length:Int)=Wc cs h h 0 k:=by
 rw[<- QrA g.bds.nn];unfold Qzn;rw[(QnL g k).length_eq,List.countP_eq_length_filter]
theorem Qsr{h w:Nat}{cs:List (Int×Int)}(g:GB h w cs)(k:Nat):(evS cs k).length<=200000:=by
 rw[(QnL g k).length_eq];exact QQ (QcI _ _) g.few
def stL:Qb->List (Int×Int)
 |.tuple ds=>ds.map toP
 |_=>[]
theorem QoZ(L:List (Int×Int)):stL (stT L)=L:=Qb1 L
def Qmo(C:Addr):DF:=λargs R EX=>∃(h w:Nat)(cs:List (Int×Int))(d:Qb),args=[.v (bdD h w cs),.v d]/\(inW d 0 ((min h w:Nat):Int)=true->R .none)/\(inW d 0 ((min h w:Nat):Int)=false->EX C)
def Qo9:DF:=λargs R _=>∃S:List (Int×Int),args=[.v (stT S)]/\R (.int (rbI S))
def QxU:DF:=λargs R _=>∃(h w:Nat)(cs S:List (Int×Int)),args=[.v (bdD h w cs),.v (stT S)]/\R (.list ((fol cs S).map pairD))
theorem Quh{S:List (Int×Int)}{c:Int×Int}(h:S.getLast? = some c):atI (S.map pairD) (-1)=some (pairD c):=by
 obtain⟨xs,rfl⟩:=List.getLast?_eq_some_iff.mp h
 rw[Jj];exact QrK _ _
end Rk
namespace L2
section
variable{X:Cx}
end
end L2
namespace Dl
open L2 _root_.Rd Rk Rt
end Dl
namespace Rk
open L2 _root_.Rd Dl Rt
end Rk
namespace L2
open _root_.Rd
section
variable{X:Cx}
theorem QnR{h:Zl}{d:Qb}:∀{vs:List Value}{ds:List Qb}{as:List Addr},Yg h vs ds as->Q4 ds=true->∀m:Nat,∀v,vs[m]? = some v->∃e,ds[m]? = some e/\eqH h d v=Q6 e d
 |_,_,_,.nil,_,m,v,hv=>by simp at hv
 |_,_,_,.cons r rs,c,0,v,hv=>by
  simp only[Q4,Jr] at c;have hv:=Qw hv;subst hv;exact⟨_,rfl,QnQ r c.1⟩
 |_,_,_,.cons r rs,c,m+1,v,hv=>by
  simp only[Q4,Jr] at c;exact QnR rs c.2 m v hv
theorem QhA{h:Zl}:∀{vs:List Value}{ds:List Qb}{as:List Addr},Yg h vs ds as->vs.length=ds.length
 |_,_,_,.nil=>rfl
 |_,_,_,.cons r rs=>by rw[QU,QU,QhA rs]
def QzH(u:Nat):V->List V->Hp->VK->Prop:=λx vs H Q=>∃l ps ds y d j,x=.ref l/\vs=[y]/\H l=some (.lst ps)/\Dats H ps ds/\Dat H y d/\u+d.depth<cLine/\ds.length<=1000000/\(∃e,ds[j]? = some e/\Q6 e d=true)/\(∀m,m<j->∀e,ds[m]? = some e->Q6 e d=false)/\Q (.int (j:Nat)) H
theorem mt_index:MtR X "list.index" (QzH X.A.in1.units):=by
 intro pins s σ H x vs v us Q I rx rv h;obtain⟨l,ps,ds,y,d,j,rfl,rfl,hH,qs,qy,hu,hl,⟨e0,hj,he0⟩,hno,q⟩:=h;cases rx;obtain⟨u,rfl,ru⟩:=rv.one;obtain⟨⟨as,ra⟩,ca⟩:=Z8 I.hok d y u qy ru;obtain⟨z,its,n,r,hl',e⟩:=I.lstM hH;obtain⟨⟨bs,rb⟩,cb⟩:=YA I.hok ds ps its qs r;have ln:=QhA rb;have hjl:j<its.length:=by
  rw[ln];exact(Qx.mp hj).1
 refine Qa8 Qu7 ⟨_,e,rfl⟩ QuT (QsL _ _) (Qow l its.toArray n _ _ u (eqH s.heap d) j (by rw[Qp];exact hjl) (by omega) ?_ ?_) ⟨e,λy hy=>Qdy ra ca rb cb hu y (Yn.mp hy),?_⟩
 ·obtain⟨e1,h1,h2⟩:=QnR (d:=d) rb cb j its[j] (Qf hjl);rw[hj] at h1;cases h1;show eqH s.heap d its[j]=true;rw[h2];exact he0
 ·intro m hm hlt;rw[Qp] at hm;obtain⟨e1,h1,h2⟩:=QnR (d:=d) rb cb m its[m] (Qf hm);show eqH s.heap d its[m]=false;rw[h2];exact hno m hlt e1 h1
 ·exact⟨.int _,H,I.kept λ_ _ e=>e,⟨_,rfl⟩,q⟩
end
end L2
namespace Dl
open L2 _root_.Rd Rk Rt
section
variable{X:Cx}{E:XK}
def QzW(rD:List Qb->Qb->(Qb->Prop)->Prop)(wa wb:DE):DE:=λδ Q EX=>wa δ (λd1=>match d1 with
 |.list ds=>wb δ (λd2=>rD ds d2 Q) EX
 |_=>False) EX
def Qz9(r:V->List V->Hp->VK->Prop)(rD:List Qb->Qb->(Qb->Prop)->Prop):Prop:=∀(A P:Addr->Prop)(H:Hp)(l:Addr)(y:V)(ds:List Qb)(d2:Qb)(R:Qb->Prop)(Q:VK),DP A P H (.ref l) (.list ds)->DP A P H y d2->rD ds d2 R->(∀i:Int,R (.int i)->Q (.int i) H)->r (.ref l) [y] H Q
theorem Qrd{r:V->List V->Hp->VK->Prop}{rD:List Qb->Qb->(Qb->Prop)->Prop}{wa wb:DE}{K:PySem.W.Frag}(hd:Qz9 r rD)(σ:L2.St)(H:Hp)(Q:VK)(h:tX .F K E (QzW rD wa wb) σ H Q):tBM K "list" r (tX .P K E wa) (Qdk (tX .P K E wb) QoU) σ H Q:=by
 obtain⟨F,δ,R,EX,rel,hw,k,o⟩:=h;refine⟨F,δ,_,EX,rel,hw,λd1 h1 x H1 rel1 kp1 x1=>?_,o⟩;cases d1<;>first | exact(show False from h1).elim | skip
 rename_i ds
 obtain⟨l,xs,rfl,e,q⟩:=DP.list x1;refine⟨.inl ⟨rfl,xs,SqL.of e⟩,F,δ,_,EX,rel1,h1,λd2 h2 y H2 rel2 kp2 y2=>?_,o⟩;refine hd (Av F σ δ) (Qai σ δ) H2 l y ds d2 R Q (kp2.dp x1) y2 h2 λi hR=>?_
 exact k _ hR _ H2 rel2 (kp1.trans kp2) ⟨.int i,λl e1 e2=>nomatch e1⟩
def QzO(ds:List Qb)(d:Qb)(Q:Qb->Prop):Prop:=(nds ds=true/\nd d=true/\d.depth<=50)/\ds.length<=1000000/\∃j:Nat,(∃e,ds[j]? = some e/\Q6 e d=true)/\(∀m,m<j->∀e,ds[m]? = some e->Q6 e d=false)/\Q (.int (j:Nat))
theorem QwD{u:Nat}(hu:u+60<cLine):Qz9 (QzH u) QzO:=λA P H l y ds d2 R Q hx hy h k=>by
 obtain⟨⟨n1,n2,n3⟩,hl,j,h1,h2,hR⟩:=h;obtain⟨l',xs,e0,e,q⟩:=DP.list hx;cases e0;exact⟨l,xs,ds,y,d2,j,rfl,rfl,e,Qbh _ _ n1 q,hy.dat n2,by omega,hl,h1,h2,k _ hR⟩
theorem QyK{o e:Q5}{wo we:DE}{apos cpos:Pos}(hu:X.A.in1.units+60<cLine)(ho:QE .P X E o wo)(he:QE .P X E e we)(hst:notStar e=true:=by rfl)(hbase:attributeBase o "index" X.env (eval o X.env)=eval o X.env:=by rfl)(hfew:((backTo cpos (starEach [e] X.env)).all (λx => !x.1)&&(backToKw cpos (keywordEach [] X.env)).all (λx=>x.1.isSome)&&decide ([e].length+([]:List QcR).length+(if([]:List QcR).isEmpty then 0 else 1)<30))=true:=by rfl)(hline:(apos.endLine == cpos.line)=true:=by rfl):QE .F X E (.Call (.Attribute o "index" apos) [e] [] cpos) (QzW QzO wo we):=
 ⟨PE.imp (QkV PySem.F.plainAttrs_list PySem.F.slot_list_index PySem.F.type_list_index mt_index ho.h (Qcy he.h J3 hst) hbase hfew hline (ZZ hst) rfl) (Qrd (QwD hu))⟩
end
end Dl
namespace Rk
open L2 _root_.Rd Dl Rt
def xts(cs:List (Int×Int)):Nat->List (Int×Int)->List (List (Int×Int))
 |0,S=>[S]
 |m+1,S=>(fol cs S).flatMap λc=>xts cs m (S++[c])
theorem Qsq(cs:List (Int×Int)):∀(m j:Nat),(evS cs j).flatMap (xts cs m)=evS cs (j+m)
 |0,j=>by
  show(evS cs j).flatMap (λS=>[S])=evS cs j;rw[List.flatMap_singleton']
 |m+1,j=>by
  have h:=Qsq cs m (j+1);rw[show j+1+m=j+(m+1) by omega] at h;rw[<- h];show(evS cs j).flatMap (λS=>(fol cs S).flatMap λc=>xts cs m (S++[c]))=((evS cs j).flatMap λS=>(fol cs S).map λc=>S++[c]).flatMap (xts cs m);rw[List.flatMap_assoc];refine QfZ λS _=>?_
  rw[List.flatMap_map]
theorem QnK(cs:List (Int×Int))(k:Nat):xts cs k []=evS cs k:=by
 have h:=Qsq cs k 0;rw[Zy] at h;rw[<- h];show _=[([]:List (Int×Int))].flatMap (xts cs k);simp
theorem Qos(cs:List (Int×Int))(h:Nat):∀(i t:Nat),Wc cs h i t 0=1
 |0,_=>rfl
 |i+1,t=>by
  show Wc cs h i t 0+0=1;rw[Qos cs h i t];rfl
theorem Qxy{h w:Nat}{cs:List (Int×Int)}(g:GB h w cs){T:List (Int×Int)}(hT:∀p∈T,p∈cs)(m:Nat):∀i,i<=h->Wc cs h i (mkL T) (m+1)=sumZ (λc=>Wc cs h (h - (c.1+1).toNat) (mkL (T++[c])) m) (cs.filter λc=>decide (((h - i:Nat):Int)<=c.1) && !decide (c.2∈T.map (·.2)))
 |0,_=>by
  have e:cs.filter (λc=>decide (((h - 0:Nat):Int)<=c.1) && !decide (c.2∈T.map (·.2)))=[]:=by
   rw[QaG];intro c hc;have:=g.rh c hc;rw[decide_eq_false (by omega)];exact Qt
  rw[e];rfl
 |i+1,hi=>by
  show Wc cs h i (mkL T) (m+1)+(if m+1=0 then 0 else QoX (Wc cs h i) (mkL T) (QoD cs (h - 1 - i)) (m+1 - 1))=_;rw[if_neg (by omega),QbM,Qxy g hT m i (by omega),Qaq,Qaq];unfold QoD Qcm;rw[QeE,Qaq,<- Qgk];refine YX λc hc=>?_
  have h0:=g.r0 c hc;have hh:=g.rh c hc;have em:=QiW (L:=T) (c:=c) (λp hp=>g.bds.nn p (hT p hp)) (g.bds.nn c hc);by_cases y:c.2∈T.map (·.2)
  ·have bt:(mkL T).testBit c.2.toNat=true:=by rw[Qg0];exact decide_eq_true (em.mpr y)
   rw[decide_eq_true y,bt];simp
  ·have bn:(mkL T).testBit c.2.toNat=false:=by rw[Qg0];exact decide_eq_false λq=>y (em.mp q)
   rw[decide_eq_false y,bn];simp only[Bool.not_false,QxN,decide_eq_true_eq,Yx,if_false];rw[Qep];by_cases z:c.1=((h - 1 - i:Nat):Int)
   ·rw[if_neg (by omega),if_pos z,if_pos (by omega),show h - (c.1+1).toNat=i by omega];omega
   ·rw[if_neg z,QcS];by_cases z2:((h - i:Nat):Int)<=c.1
    ·rw[if_pos z2,if_pos (by omega)]
    ·rw[if_neg z2,if_neg (by omega)]
theorem QgQ{α β:Type}(g:α->List β):∀xs:List α,((xs.flatMap g).length:Int)=sumZ (λx=>((g x).length:Int)) xs
 |[]=>rfl
 |x::xs=>by
  rw[ZY,Qq];show _=((g x).length:Int)+sumZ _ xs;rw[<- QgQ g xs];omega
theorem Qvr{α:Type}(f:α->Int):∀xs:List α,(xs.map f).sum=sumZ f xs
 |[]=>rfl
 |x::xs=>by rw[JC,QxI,Qvr f xs];rfl
theorem Qs5(S:List (Int×Int))(c:Int×Int):rbI (S++[c])=c.1+1:=by
 unfold rbI;rw[QlN];rfl
theorem QvD{h w:Nat}{cs S:List (Int×Int)}(g:GB h w cs)(st:Std cs S):0<=rbI S/\rbI S<=h:=by
 unfold rbI;cases e:S.getLast? with
 |none=>exact⟨Int.le_refl _,by show(0:Int)<=h;omega⟩
 |some d=>
  have hd:=st.sub d (QlM e);have a:=g.r0 d hd;have b:=g.rh d hd;exact⟨by show 0<=d.1+1;omega,by show d.1+1<=h;omega⟩
theorem QeU{cs S:List (Int×Int)}{c:Int×Int}(st:Std cs S)(hc:c∈fol cs S):Std cs (S++[c]):=by
 have hc:=Ji.mp hc;have hc2:=Qu.mp hc.2;refine st.snoc hc.1 ?_ (by simpa using hc2.2)
 rcases Qj5 st.rows (c:=c) with z | z | z
 ·exact z
 ·exact absurd (of_decide_eq_true hc2.1) z
 ·rw[z];exact λp hp=>(nomatch hp)
theorem QlQ{h w:Nat}{cs:List (Int×Int)}(g:GB h w cs):∀(m:Nat)(S:List (Int×Int)),Std cs S->((xts cs m S).length:Int)=Wc cs h (h - (rbI S).toNat) (mkL S) m
 |0,S,_=>by rw[Qos];rfl
 |m+1,S,st=>by
  have rb:=QvD g st;show(((fol cs S).flatMap λc=>xts cs m (S++[c])).length:Int)=_;rw[QgQ,Qxy g st.sub m _ (Nat.sub_le _ _)];have e:(((h - (h - (rbI S).toNat):Nat):Nat):Int)=rbI S:=by omega
  rw[e];refine YX λc hc=>?_
  rw[QlQ g m (S++[c]) (QeU st hc),Qs5]
def tmN(cs L:List (Int×Int))(k a:Nat):Nat:=(((fol cs (L.take a)).filter λo=>decide (plt o (L.getD a (0,0)))).flatMap λo=>xts cs (k - a - 1) (L.take a++[o])).length
def numN(cs L:List (Int×Int))(k:Nat):Nat->Nat
 |0=>0
 |j+1=>numN cs L k j+tmN cs L k j
theorem QdS{c:Int×Int}:∀{xs:List (Int×Int)},xs.Pairwise plt->c∈xs->∃ys,xs=(xs.filter λo=>decide (plt o c))++c::ys
 |x::xs,h,hc=>by
  have h1:=QbC.mp h;rcases Qz.mp hc with z | z
  ·subst z;have e:(c::xs).filter (λo=>decide (plt o c))=[]:=by
    rw[QaG];intro o ho;rcases Qz.mp ho with y | y
    ·subst y;rw[decide_eq_false (λq=>by rcases q with q | q<;>omega)];exact Qt
    ·have:=h1.1 o y;rw[decide_eq_false (λq=>by rcases q with q | q<;>rcases this with t | t<;>omega)];exact Qt
   exact⟨xs,by rw[e];rfl⟩
  ·obtain⟨ys,e⟩:=QdS h1.2 z;refine⟨ys,?_⟩;have ef:(x::xs).filter (λo=>decide (plt o c))=x::xs.filter (λo=>decide (plt o c)):=Yi (p:=λo=>decide (plt o c)) (decide_eq_true (h1.1 c z));rw[ef,List.cons_append,<- e]
theorem QjA{cs L:List (Int×Int)}(st:Std cs L):∀j,Std cs (L.take j):=λj=>⟨λp hp=>st.sub p (Qdc hp),st.rows.sublist (Qfd _ _),st.cols.sublist ((Qfd _ _).map _)⟩
theorem Qjw{L:List (Int×Int)}{j:Nat}(h:j<L.length):L.take (j+1)=L.take j++[L.getD j (0,0)]:=by
 rw[QaJ,Qf h,JE,Qf h];rfl
theorem Qrt{h w:Nat}{cs L:List (Int×Int)}(g:GB h w cs)(st:Std cs L){j:Nat}(hj:j<L.length):L.getD j (0,0)∈fol cs (L.take j):=by
 have s:=QjA st (j+1);rw[Qjw hj] at s;obtain⟨s1,s2,s3,s4⟩:=s.init;refine Ji.mpr ⟨s2,?_⟩;rw[Jr];exact⟨decide_eq_true (QvC s3 (g.r0 _ s2)),by simpa using s4⟩
theorem Qnh{h w:Nat}{cs L:List (Int×Int)}(g:GB h w cs)(st:Std cs L):∀j,j<=L.length->∀i M,(xts cs (L.length - j) (L.take j))[i]? = some M->(evS cs L.length)[numN cs L L.length j+i]? = some M
 |0,_,i,M,hM=>by
  rw[<- QnK];show(xts cs L.length [])[0+i]? = some M;rw[Zy];exact hM
 |j+1,hj,i,M,hM=>by
  show(evS cs L.length)[numN cs L L.length j+tmN cs L L.length j+i]? = some M;rw[Nat.add_assoc];refine Qnh g st j (by omega) _ M ?_
  have hf:=Qrt g st (show j<L.length by omega);have sp:(fol cs (L.take j)).Pairwise plt:=JV _ g.srt;obtain⟨ys,e⟩:=QdS sp hf;have ek:L.length - j=(L.length - j - 1)+1:=by omega
  rw[ek];show((fol cs (L.take j)).flatMap λc=>xts cs (L.length - j - 1) (L.take j++[c]))[_]? = some M;rw[e,QdP,ZY];unfold tmN;rw[Ju (Nat.le_add_right _ _),QkA];have hM:(xts cs (L.length - j - 1) (L.take j++[L.getD j (0,0)]))[i]? = some M:=by
   rw[<- Qjw (by omega),show L.length - j - 1=L.length - (j+1) by omega];exact hM
  have il:=(Qx.mp hM).1;rw[J5 il];exact hM
theorem Qsi{h w:Nat}{cs L:List (Int×Int)}(g:GB h w cs)(st:Std cs L):(evS cs L.length)[numN cs L L.length L.length]? = some L:=by
 have:=Qnh g st L.length (Ql _) 0 L (by rw[QcO,Ym];rfl);exact this
theorem Qw4{h w:Nat}{cs:List (Int×Int)}(g:GB h w cs)(k:Nat):(evS cs k).Nodup:=
 Qct (R:=QgP) (S:=λa b=>a≠b) (λ{S T} z (e:S=T)=>QgO S (by rw[<- e] at z;exact z)) (Qc2 g.srt g.r0 k)
theorem QwB{α:Type}{xs:List α}(h:xs.Nodup){i j:Nat}{x:α}(hi:xs[i]? = some x)(hj:xs[j]? = some x):i=j:=by
 obtain⟨i1,i2⟩:=Qx.mp hi;obtain⟨j1,j2⟩:=Qx.mp hj;have hp:=ZI.mp h;by_cases z:i<j
 ·exact absurd (by rw[i2,j2]) (hp i j i1 j1 z)
 ·by_cases y:j<i
  ·exact absurd (by rw[i2,j2]) (hp j i j1 i1 y)
  ·omega
theorem Qwz{h w:Nat}{cs L:List (Int×Int)}(g:GB h w cs){k i:Nat}(hi:(evS cs k)[i]? = some L):numN cs L k k=i:=by
 obtain⟨st,hl⟩:=(Qb3 g.r0 k L).mp (QV hi);subst hl;exact QwB (Qw4 g _) (Qsi g st) hi
theorem QAI{h w:Nat}(f:Nat->Nat->Bool)(h6:h<=6)(w6:w<=6):GB h w (cellsF h w f):=by
 refine⟨⟨h6,w6,λp hp=>Qh3 hp⟩,QhF w f h,QQ (Qgl (λr=>QeI w h f r) h) ?_⟩;have c:(w+1)^h<=7^h:=Nat.pow_le_pow_left (by omega) _;have d:7^h<=7^6:=Yb (by decide) h6;have e:(7:Nat)^6=117649:=rfl;omega
theorem QvW{p q r:Int×Int}(h1:plt p q)(h2:plt q r):plt p r:=by
 rcases h1 with a | a<;>rcases h2 with b | b
 ·exact .inl (by omega)
 ·exact .inl (by omega)
 ·exact .inl (by omega)
 ·exact .inr (by omega)
theorem QjH:∀{L:List (Int×Int)},Qba (L.map pairD)=true->L.Pairwise plt
 |[],_=>.nil
 |[p],_=>Qjl _ _
 |p::q::L,h=>by
  have h:=Qu.mp (show(ltD (pairD p) (pairD q)&&Qba ((q::L).map pairD))=true from h);have ih:=QjH (L:=q::L) h.2;have h1:plt p q:=by have:=h.1;rw[QgK] at this;exact of_decide_eq_true this
  refine QbC.mpr ⟨λr hr=>?_,ih⟩;rcases Qz.mp hr with z | z
  ·rw[z];exact h1
  ·exact QvW h1 ((QbC.mp ih).1 r z)
theorem Qvt{h w:Nat}{cs:List (Int×Int)}{d:Qb}(q:QfV h w cs d=true):∃L,d=stT L/\Std cs L:=by
 obtain⟨L,rfl,hL⟩:=QoY q;refine⟨L,rfl,?_⟩;have q:=Qu.mp (show(((L.map pairD).all (QfW h w)&&Qba (L.map pairD))&&((L.map pairD).all (inC cs)&&apB ((L.map pairD).map toP)))=true from q);have q1:=Qu.mp q.1;have q2:=Qu.mp q.2;have pw:=QjH q1.2;have ap:=q2.2;rw[Qb1] at ap;have ap:=Qu.mp (show(decide (L.map (·.1)).Nodup&&decide (L.map (·.2)).Nodup)=true from ap);refine⟨λp hp=>?_,?_,of_decide_eq_true ap.2⟩
 ·have:=Zw.mp q2.1 (pairD p) (Qy.mpr ⟨p,hp,rfl⟩);unfold inC at this;rw[Qif] at this;exact of_decide_eq_true this
 ·have nd1:L.Pairwise λp q=>p.1≠q.1:=YS.mp (of_decide_eq_true ap.1)
  refine(Qly.mpr ⟨nd1,pw⟩).imp λ{a b} z=>?_
  rcases z.2 with y | y
  ·exact y
  ·exact absurd y.1 z.1
theorem QjB{h w:Nat}{cs L:List (Int×Int)}(g:GB h w cs)(st:Std cs L):QfV h w cs (stT L)=true:=by
 refine QsX (λp hp=>g.bds.2.2 p hp) st.sub ?_ (st.rows.imp λz=>.inl z)
 show(decide (L.map (·.1)).Nodup&&decide (L.map (·.2)).Nodup)=true;rw[decide_eq_true st.cols,QxN];exact decide_eq_true (YS.mpr (st.rows.imp λ{a b}(z:a.1<b.1)=>by show a.1≠b.1;omega))
theorem Qgm{h w:Nat}{cs L:List (Int×Int)}(g:GB h w cs)(st:Std cs L):L.length<=min h w:=by
 have m:=(QbI g.r0 h L).mpr ⟨st,λp hp=>g.rh p (st.sub p hp)⟩;have a:=QcX h L m;have b:=Ql3 g.bds.col m;omega
theorem QnO(L M:List (Int×Int)):Q6 (stT L) (stT M)=decide (L=M):=by
 show QdN (L.map pairD) (M.map pairD)=_;induction L generalizing M with
 |nil=>
  cases M with
  |nil=>rfl
  |cons q M=>exact(decide_eq_false (λe=>by cases e)).symm
 |cons p L ih=>
  cases M with
  |nil=>exact(decide_eq_false (λe=>by cases e)).symm
  |cons q M=>
   show(Q6 (pairD p) (pairD q)&&QdN (L.map pairD) (M.map pairD))=_;rw[QeY,ih,<- QuV];exact decide_eq_decide.mpr (by rw[List.cons.injEq])
theorem Qkc(L:List (Int×Int)):(stT L).depth<=50:=QQ (QeZ L) (by decide)
theorem Ql6{L:List (Int×Int)}(h:L.length<=1000):nd (stT L)=true/\QeV 2 (stT L)=true:=by
 refine⟨Qby L,?_⟩;show(decide ((L.map pairD).length<=1000)&&(L.map pairD).all (QeV 1))=true;rw[decide_eq_true (by rw[Qh];exact h),Qav];refine Zw.mpr λd hd=>?_
 obtain⟨p,_,rfl⟩:=Qy.mp hd;rfl
theorem Qnj(Ls:List (List (Int×Int))):nds (Ls.map stT)=true:=QiS.mpr λd hd=>by
 obtain⟨L,_,rfl⟩:=Qy.mp hd;exact Qby L
theorem Qjy(cs:List (Int×Int))(h w:Nat):∀(i j:Nat),j<=i->(QiA cs h w i)[j]? = some (.list (QiB h w (Wc cs h (i - j))))
 |0,0,_=>rfl
 |i+1,0,_=>rfl
 |i+1,j+1,hj=>by
  show(QiA cs h w i)[j]? = _;rw[Qjy cs h w i j (by omega),show i+1 - (j+1)=i - j by omega]
theorem Qwl:∀t:Fin 64,∀c:Fin 6,(t:Nat).testBit c=false->(t:Nat) ||| 2^(c:Nat)=t+2^(c:Nat):=by decide +kernel
theorem Qsj{w:Nat}(w6:w<=6):∀{T S:List (Int×Int)},(∀p∈T++S,0<=p.2/\p.2<w)->((T++S).map (·.2)).Nodup->mkL T<2^w->((mkL T:Nat):Int)+(S.map λp=>(1*2^p.2.toNat:Int)).sum=((mkL (T++S):Nat):Int)/\mkL (T++S)<2^w
 |T,[],_,_,h=>by rw[Je];exact⟨by show _+0=_;omega,h⟩
 |T,c::S,hb,nd,h=>by
  have hc:=hb c (by simp);have p64:2^w<=2^6:=Yb (by decide) w6;have e64:(2:Nat)^6=64:=rfl;have nt:(mkL T).testBit c.2.toNat=false:=by
   rw[Qg0];refine decide_eq_false λq=>?_
   have:=(QiW (L:=T) (c:=c) (λp hp=>(hb p (YW _ hp)).1) hc.1).mp q;rw[Jj,JC] at nd;exact(ZX.mp nd).2.2 _ this c.2 (.head _) rfl
  have eo:mkL T ||| 2^c.2.toNat=mkL T+2^c.2.toNat:=Qwl ⟨mkL T,by omega⟩ ⟨c.2.toNat,by omega⟩ nt;have lt:mkL (T++[c])<2^w:=by rw[Qep];exact Qwj h (by omega)
  have e1:T++c::S=(T++[c])++S:=by simp
  have ih:=Qsj w6 (T:=T++[c]) (S:=S) (by rw[<- e1];exact hb) (by rw[<- e1];exact nd) lt;rw[e1];refine⟨?_,ih.2⟩;rw[<- ih.1,JC,QxI,Qep,eo];have:((2^c.2.toNat:Nat):Int)=(2:Int)^c.2.toNat:=by simp
  rw[Int.one_mul,<- this];omega
def QoR:DF:=λargs R _=>∃(h w:Nat)(cs S:List (Int×Int))(k:Nat),args=[.v (.list (QiA cs h w h)),.v (stT S),.v (.int k)]/\GB h w cs/\Std cs S/\k<=h/\R (.int ((xts cs k S).length:Nat))
def Qjd:DF:=λargs R _=>∃(h w:Nat)(cs S:List (Int×Int))(m n:Nat),args=[.v (bdD h w cs),.v (.list (QiA cs h w h)),.v (stT S),.v (.int m),.v (.int n)]/\GB h w cs/\Std cs S/\m<h/\n<(xts cs (m+1) S).length/\∀c (n':Nat),c∈fol cs S->n'<(xts cs m (S++[c])).length->(xts cs (m+1) S)[n]? = (xts cs m (S++[c]))[n']? -> R (.tuple [pairD c,.int n'])
def Qei(CS CN:Addr):DF:=λargs R EX=>∃(h w:Nat)(cs:List (Int×Int))(d e:Qb),args=[.v (bdD h w cs),.v d,.v e]/\GB h w cs/\(inW d 0 ((min h w:Nat):Int)=false->EX CS)/\(∀k:Nat,d=.int k->k<=min h w->inW e 0 (((evS cs k).length:Int) - 1)=false->EX CN)/\∀(k n:Nat) L,d=.int k->e=.int n->k<=min h w->(evS cs k)[n]? = some L->R (stT L)
def QhR(CT:Addr):DF:=λargs R EX=>∃(h w:Nat)(cs:List (Int×Int))(d:Qb),args=[.v (bdD h w cs),.v d]/\GB h w cs/\QaM d/\(QfV h w cs d=false->EX CT)/\∀L,d=stT L->Std cs L->R (.int (numN cs L L.length L.length:Nat))
def QoC(cs L:List (Int×Int)):Qb:=match (evS cs L.length)[numN cs L L.length L.length+1]? with
 |some M=>stT M
 |none=>.none
def Qp8(CT:Addr):DF:=λargs R EX=>∃(h w:Nat)(cs:List (Int×Int))(d:Qb),args=[.v (bdD h w cs),.v d]/\GB h w cs/\QaM d/\(QfV h w cs d=false->EX CT)/\∀L,d=stT L->Std cs L->R (QoC cs L)
def atS(cs:List (Int×Int))(a b:Qb):Qb:=match (evS cs (toI a).toNat)[(toI b).toNat]? with
 |some L=>stT L
 |none=>.none
def Qbu(h w:Nat)(cs:List (Int×Int))(way:Int)(a b:Qb):Qb:=
 if way=0 then(if inW a 0 ((min h w:Nat):Int)=true then(if inW b 0 (((evS cs (toI a).toNat).length:Int) - 1)=true then atS cs a b else .str "number") else .str "size")
 else(if QfV h w cs a=true then(if way=1 then .int (numN cs (stL a) (stL a).length (stL a).length:Nat) else QoC cs (stL a)) else .str "stand")
def Qgh:DF:=λargs R _=>∃(h w:Nat)(cs:List (Int×Int))(way:Int)(a b:Qb),args=[.v (.int way),.v (bdD h w cs),.v a,.v b]/\0<=way/\way<=2/\GB h w cs/\QaM a/\R (Qbu h w cs way a b)
def QeP:DF:=λargs R _=>∃(h w:Nat)(cs:List (Int×Int))(k:Nat),args=[.pot,.v (bdD h w cs),.v (.list ((evS cs k).map stT)),.v (.int k)]/\GB h w cs/\k<=min h w/\0<(evS cs k).length/\R (.bool true)
def Qi4:DF:=λargs R _=>∃(h w:Nat)(cs L:List (Int×Int)),args=[.pot,.v (bdD h w cs),.v (stT L)]/\GB h w cs/\cs.length<=36/\L.length<=6/\∀d,QaM d->R d
theorem QgR{e:Qb}{n:Int}(q:inW e 0 n=true):∃k:Nat,e=.int k/\(k:Int)<=n:=by
 obtain⟨i,rfl,a,b⟩:=Qrn q;exact⟨i.toNat,by rw[show((i.toNat:Nat):Int)=i by omega],by omega⟩
theorem QeB{h w:Nat}{cs:List (Int×Int)}{a b:Qb}(q:inW a 0 ((min h w:Nat):Int)=false):Qbu h w cs 0 a b=.str "size" := by
 unfold Qbu;rw[if_pos rfl,if_neg (by rw[q];exact Qt)]
theorem QeC{h w k:Nat}{cs:List (Int×Int)}{b:Qb}(hk:k<=min h w)(q:inW b 0 (((evS cs k).length:Int) - 1)=false):Qbu h w cs 0 (.int k) b=.str "number" := by
 unfold Qbu;rw[if_pos rfl,if_pos (QhX (by omega) (by omega)),show(toI (.int (k:Int))).toNat=k from QN k,if_neg (by rw[q];exact Qt)]
theorem Qix{h w k n:Nat}{cs L:List (Int×Int)}(hk:k<=min h w)(q:(evS cs k)[n]? = some L):Qbu h w cs 0 (.int k) (.int n)=stT L:=by
 have hn:=(Qx.mp q).1;unfold Qbu;rw[if_pos rfl,if_pos (QhX (by omega) (by omega)),show(toI (.int (k:Int))).toNat=k from QN k,if_pos (QhX (by omega) (by omega))];unfold atS;rw[show(toI (.int (k:Int))).toNat=k from QN k,show(toI (.int (n:Int))).toNat=n from QN n,q]
theorem Qgi{h w:Nat}{cs:List (Int×Int)}{a b:Qb}{way:Int}(hw:way≠0)(q:QfV h w cs a=false):Qbu h w cs way a b=.str "stand" := by
 unfold Qbu;rw[if_neg hw,if_neg (by rw[q];exact Qt)]
theorem Qjv{h w:Nat}{cs L:List (Int×Int)}{b:Qb}(q:QfV h w cs (stT L)=true):Qbu h w cs 1 (stT L) b=.int (numN cs L L.length L.length:Nat):=by
 unfold Qbu;rw[if_neg (by decide),if_pos q,if_pos rfl,QoZ]
theorem Qju{h w:Nat}{cs L:List (Int×Int)}{b:Qb}(q:QfV h w cs (stT L)=true):Qbu h w cs 2 (stT L) b=QoC cs L:=by
 unfold Qbu;rw[if_neg (by decide),if_pos q,if_neg (by decide),QoZ]
theorem QnM{h w:Nat}{cs:List (Int×Int)}(g:GB h w cs)(k:Nat):Wc cs h h 0 k=((evS cs k).length:Int):=(Qw5 g k).symm
end Rk
namespace Dl
open L2 _root_.Rd Rk
@[irreducible] def QxY(t:DT)(wb:DS)(D:Qc8)(δ:Sts):Prop:=∃Iv:Nat->Sts->Prop,(∃m,Iv m δ)/\∀m δ,Iv m δ->t δ (λb=>if b=true then wb { D with nx:=λδ'=>∃m',m'<m/\Iv m' δ',ct:=λδ'=>∃m',m'<m/\Iv m' δ',bk:=D.nx } δ else D.nx δ) D.ex
def QnZ(t:DT)(wb:DS):DS:=λD δ=>QxY t wb D δ
section
variable{X:Cx}{E:XK}
theorem QmN{c:Q5}{body:List Z6}{pos:Pos}{t:DT}{wb:DS}(hp:Qf7 (model X.prog X.w) X.A X.env X.xe)(hc:PT X c (tT X.K E t))(hb:PSs X body (tS X.K E wb)):PS X (.While c body [] pos) (tS X.K E (QnZ t wb)):=by
 refine PS.imp (Qpn hp hc hb) λD σ H ⟨F,δ,DD,rel,hw,en⟩=>?_
 unfold QnZ QxY at hw;obtain⟨Iv,⟨m0,i0⟩,step⟩:=hw;refine⟨λm σ' H'=>∃δ',Iv m δ'/\Rel X.K F σ' H' δ'/\Stp F σ H δ σ' H' δ',⟨m0,δ,i0,rel,Stp.refl⟩,?_⟩;rintro m σ' H' ⟨δ',iv,r',st'⟩;refine⟨F,δ',_,DD.ex,r',step m δ' iv,λb hb H1 rel1 kp1=>?_,en.ex⟩;have st1:Stp F σ H δ σ' H1 δ':=st'.trans (Stp.kp kp1);cases b with
 |true=>
  rw[if_pos rfl] at hb;show if true=true then _ else _
  rw[if_pos rfl];refine⟨λσ2 H2=>∃δ2,(∃m',m'<m/\Iv m' δ2)/\Rel X.K F σ2 H2 δ2/\Stp F σ H δ σ2 H2 δ2,λσ2 H2 ⟨δ2,⟨m',hm,h2⟩,r2,s2⟩=>⟨m',hm,δ2,h2,r2,s2⟩,F,δ',_,rel1,hb,?_⟩;exact⟨⟨λδ6 h6 σ6 H6 r6 s6=>⟨δ6,h6,r6,st1.trans s6⟩⟩,en.rt,en.rtF,(en.step st1).nx,⟨λδ6 h6 σ6 H6 r6 s6=>⟨δ6,h6,r6,st1.trans s6⟩⟩,en.ex⟩
 |false=>
  rw[if_neg Qt] at hb;show if false=true then _ else _
  rw[if_neg Qt];exact(en.step st1).nx.go δ' hb σ' H1 rel1 Stp.refl
theorem Qpg{c:Q5}{body:List Z6}{pos:Pos}{t:DT}{wb:DS}(hp:Qf7 (model X.prog X.w) X.A X.env X.xe)(hc:QT X E c t)(hb:QSs X E body wb):QS X E (.While c body [] pos) (QnZ t wb):=⟨QmN hp hc.h hb.h⟩
end
theorem Qva{t:DT}{wb:DS}{D:Qc8}{δ:Sts}(Iv:Nat->Sts->Prop)(m0:Nat)(h0:Iv m0 δ)
  (hs:∀m δ,Iv m δ->t δ (λb=>if b=true then wb { D with nx:=λδ'=>∃m',m'<m/\Iv m' δ',ct:=λδ'=>∃m',m'<m/\Iv m' δ',bk:=D.nx } δ else D.nx δ) D.ex):QxY t wb D δ:=by
 unfold QxY;exact⟨Iv,⟨m0,h0⟩,hs⟩
end Dl
namespace L2
section
variable{X:Cx}{pins:List (Addr×Obj)}{σ:St}{H H3:Hp}{s3:Shared}{M:List Str}{scope:Qbk}{cap:List (Option Nat)}{fp:List Addr}{h4:Zl}{t4:Nat}
end
section
variable{X:Cx}{pins:List (Addr×Obj)}{σ:St}{H:Hp}
end
end L2
namespace Rk
open L2 _root_.Rd Dl
end Rk
namespace Dl
open L2
section
variable{X:Cx}{E:XK}
end
end Dl
namespace Rk
open L2 _root_.Rd
def top(i:Nat):Z6:=PySem.Challenge.pw_rooklands_k14_stands_numbered.main.body.getD i (.Pass ⟨0,0,0,0⟩)
abbrev Qfz:Z6:=top 22
abbrev Qdm:Z6:=top 23
abbrev Qdn:Z6:=top 24
abbrev QfE:Z6:=top 26
abbrev QfC:Z6:=top 27
abbrev QfA:Z6:=top 29
abbrev QfF:Z6:=top 30
abbrev Qdo:Z6:=top 31
abbrev QkQ:Z6:=top 32
abbrev Qcb:Z6:=top 33
abbrev QfD:Z6:=top 34
abbrev QkP:Z6:=top 35
abbrev QfB:Z6:=top 36
abbrev sFol:Z6:=top 37
abbrev QkO:Z6:=top 38
abbrev Qdp:Z6:=top 39
abbrev QkN:Z6:=top 40
abbrev QkM:Z6:=top 41
abbrev sRow:Z6:=top 42
abbrev QdC:Z6:=top 44
abbrev lPot:Z6:=top 45
abbrev Qla:Z6:=top 46
abbrev QfU:Z6:=top 47
abbrev lOdd:Z6:=top 48
abbrev Qlc:Z6:=top 49
abbrev QdV:Z6:=top 50
abbrev Qlb:Z6:=top 51
abbrev QfT:Z6:=top 52
abbrev QfS:Z6:=top 53
abbrev lIsS:Z6:=top 54
abbrev QdA:Z6:=top 55
abbrev Qk9:Z6:=top 56
abbrev QdB:Z6:=top 57
abbrev lBad:Z6:=top 58
abbrev sLaw:Z6:=top 59
section
variable{P:QP}{w:JH}{K:PySem.W.Frag}{mg:Str->Option Value}{base:Zl}
theorem Qo7:Jx ["_law_script", "_law_k"] ["_law_script", "_law_k"] (Qs QdC):=⟨rfl,rfl,rfl,by decide +kernel,rfl,by decide +kernel,by decide +kernel⟩
theorem Qnd{f:Addr}{fd:QL}(F:Fun K "_law_cell_at" "_law_cell_at" QdC f fd)(T:GlbA mg):FnOk P w K mg base CX0 1 f fd ["_law_script", "_law_k"] (QcY K):=by
 refine F.ok Qo7 (λvs H Q E h=>?_) (λcdv A outer s H vs Q E hr h=>?_)
 ·obtain⟨a,ns,k,rfl,_⟩:=h;rfl
 ·obtain⟨a,ns,n,rfl,hs,hl,h0,k⟩:=h;refine⟨_,ZM (QiL (Qcw QkY (pv 1) (ZB QaC (by rfl) T.len YC (JF (pv 0) J3)) (ZS _)) (Qaf (Qa3 (QkU QdD (pv 0) (pv 1) (λ_ _=>rfl)))) Qcx) (Qaf (Qa3 YM)),?_⟩;refine⟨_,rfl,_,rfl,a,_,rfl,.inl hs,_,_,rfl,rfl,_,rfl,?_⟩;refine QzN (λhlt=>?_) (λ_=>k 0);have hlt':n<(ns.map V.int).length:=of_decide_eq_true hlt;rw[Qh] at hlt';obtain⟨j,rfl⟩:=Int.eq_ofNat_of_zero_le h0;have hj:j<ns.length:=by omega
  refine⟨_,rfl,_,rfl,a,_,_,.int ns[j],rfl,rfl,hs,JM ?_,k _⟩;rw[QD,Qf hj];rfl
theorem QkL:Jx ["_law_cell", "_law_number", "_law_j", "_law_more"] ["_law_cell"] (Qs lPot):=⟨rfl,rfl,rfl,by decide +kernel,rfl,by decide +kernel,by decide +kernel⟩
theorem Qwu{f:Addr}{fd:QL}(F:Fun K "_law_pot" "_law_pot" lPot f fd)(T:GlbA mg):FnOk P w K mg base CX0 1 f fd ["_law_cell"] Qvu:=by
 refine F.ok QkL (λvs H Q E h=>?_) (λcdv A outer s H vs Q E hr h=>?_)
 ·obtain⟨c,rfl,_⟩:=h;rfl
 ·obtain⟨c,rfl,k⟩:=h;refine⟨_,ZM (QiL (Qcw QtV (pv 0) (QaT QhM YM YM) (ZS _)) (Qaf (Qa3 (Qsf (JF (QaT Qcp (pv 0) (QaT QhM YM YM)) J3)))) Qcx)
   (ZM (Qa2 (i:=1) QkL.nd rfl (QR rfl) YM)
   (ZM (Qr6 JW rfl (QhI (by rfl) T.range (JF YM J3)) (QeL (i:=2) QkL.nd rfl (QR rfl))
    (ZM (Qa2 (i:=3) QkL.nd rfl (QR rfl) (QaT QhO (QaT QfK (QaT QfL (QaT QfL (QaT QhO (pv 0) YM) (QaT QfK YM (pv 2))) YM) YM) YM))
    (ZM (Qa2 (i:=3) QkL.nd rfl (QR rfl) (QaT QhO (QaT QfL (QaT QfL (QaT QfK (pv 3) (pv 3)) (QaT QfK YM (pv 2))) YM) YM))
    (Qaf (Qa2 (i:=1) QkL.nd rfl (QR rfl) (QaT QfL (QaT QfK (pv 1) YM) (pv 3)))))))
   (Qaf (Qa3 (Qsf (JF (pv 1) J3)))))),?_⟩
  refine⟨_,rfl,_,_,rfl,rfl,⟨by decide,by decide,by decide⟩,_,_,rfl,rfl,_,rfl,?_⟩;refine QzN (λ_=>?_) (λ_=>?_)
  ·exact⟨_,rfl,_,_,rfl,rfl,⟨by decide,by decide,by decide⟩,_,_,rfl,rfl,by show 1<=sizeLine;decide,λp hp=>k p _ hp⟩
  ·refine⟨64,rfl,by decide,by decide,QnI (n:=64) (λi σ H2=>∃n v u,σ=[some (.int c),some (.int n),v,u]/\H2=H) ⟨0,none,none,rfl,rfl⟩ ?_ ?_⟩
   ·rintro i σ H2 hi ⟨n,v,u,rfl,rfl⟩;have b1:=Qkb ((c % 2147483629+7919*(0+(i:Int))+1)*48271) (m:=2147483647) (by decide);refine⟨_,rfl,_,_,rfl,rfl,by show(0:Int)<2147483629;decide,_,rfl,_,_,rfl,rfl,.inl ⟨by decide,by decide⟩,_,_,rfl,rfl,_,_,rfl,rfl,_,_,rfl,rfl,.inr ⟨by decide,by decide⟩,_,_,rfl,rfl,by show(0:Int)<2147483647;decide,?_⟩;refine⟨_,rfl,_,rfl,_,_,rfl,rfl,.inl ⟨by omega,by omega⟩,_,rfl,_,_,rfl,rfl,.inl ⟨by decide,by decide⟩,_,_,rfl,rfl,_,_,rfl,rfl,_,_,rfl,rfl,by show(0:Int)<2147483587;decide,?_⟩;exact⟨_,rfl,_,_,rfl,rfl,.inr ⟨by decide,by decide⟩,_,rfl,_,_,rfl,rfl,_,_,_,rfl,rfl⟩
   ·rintro σ H2 ⟨n,v,u,rfl,rfl⟩;exact⟨_,rfl,by show 1<=sizeLine;decide,λp hp=>k p _ hp⟩
theorem Qr2:Jx ["_law_pot_here", "_law_far", "_law_found"] ["_law_pot_here", "_law_far"] (Qs Qla):=⟨rfl,rfl,rfl,by decide +kernel,rfl,by decide +kernel,by decide +kernel⟩
theorem Qt3{f:Addr}{fd:QL}(F:Fun K "_law_take" "_law_take" Qla f fd)(T:GlbA mg):FnOk P w K mg base CX0 1 f fd ["_law_pot_here", "_law_far"] QjC:=by
 refine F.ok Qr2 (λvs H Q E h=>?_) (λcdv A outer s H vs Q E hr h=>?_)
 ·obtain⟨p,n,m,rfl,_⟩:=h;rfl
 ·obtain⟨p,n,m,rfl,hp,h0,h1,k⟩:=h;refine⟨_,ZM (Qa2 (i:=2) Qr2.nd rfl (QR rfl) (QaT QhO (QkU QdD (pv 0) YM (λ_ _=>rfl)) (pv 1)))
   (ZM (Qr7 (QaT QjT (QkU QdD (pv 0) YM (λ_ _=>rfl)) (pv 1)) (QvY (pv 0) YM QjE))
   (Qaf (Qa3 (pv 2)))),?_⟩
  have b:=Qkb n h0;exact⟨_,rfl,p,_,_,_,rfl,rfl,SqL.of hp,rfl,_,rfl,_,_,rfl,rfl,h0,_,rfl,p,_,_,_,rfl,rfl,SqL.of hp,rfl,_,rfl,_,_,rfl,rfl,⟨h0,h1⟩,_,rfl,p,_,_,_,rfl,rfl,hp,rfl,_,rfl,k _ _ b.1 b.2⟩
end
end Rk
namespace Rk
open L2 _root_.Rd
open Dl
open Rt
section
variable{P:QP}{w:JH}{K:PySem.W.Frag}{mg:Str->Option Value}{base:Zl}
theorem Qo2:Jx ["thing"] ["thing"] (Qs Qfz):=⟨rfl,rfl,rfl,by decide +kernel,rfl,by decide +kernel,by decide +kernel⟩
theorem QpY{f   : Addr}{fd  : QL}(F:Fun K "is_whole" "is_whole" Qfz f fd)(T:GlbA mg) :
  FnOk P w K mg base CX0 1 f fd ["thing"] (Zh false Qfu):=by
 refine okQ false F Qo2 (λargs R EX h=>?_) (λcdv A outer s H E hr=>?_)
 ·obtain⟨d,rfl,_⟩:=h;rfl
 ·have hU:=Room.u60 hr;have hI:=Room.i60 hr;refine⟨_,Ja (Z7 (QhE (QM (Qco .int (by rfl) T.isinstance (qp 0) (by rfl) T.int Qkp)) (QhC (QvP (QM (Qco .bool (by rfl) T.isinstance (qp 0) (by rfl) T.bool QcB)))))),λargs R EX h=>?_⟩;obtain⟨d,rfl,hR⟩:=h;cases d<;>exact hR
theorem Qma:Jx ["thing", "least", "most"] ["thing", "least", "most"] (Qs Qdm):=⟨rfl,rfl,rfl,by decide +kernel,rfl,by decide +kernel,by decide +kernel⟩
theorem Qm1{f f1  : Addr}{fd fd1:QL}(F:Fun K "is_whole_within" "is_whole_within" Qdm f fd)(T:GlbA mg)
  (m1:mg "is_whole" = some (.ref f1))(G1:FnOk P w K mg base CX0 1 f1 fd1 ["thing"] (Zh false Qfu))(b1:Binds K fd1 ["thing"] [])(k1:PySem.W.keepIn K (.ref f1)=true) :
  FnOk P w K mg base CX0 2 f fd ["thing", "least", "most"] (Zh false QeA):=by
 refine okQ false F Qma (λargs R EX h=>?_) (λcdv A outer s H E hr=>?_)
 ·obtain⟨d,a,b,rfl,_⟩:=h;rfl
 ·have hU:=Room.u60 hr;have hI:=Room.i60 hr;refine⟨_,Ja (Z7 (QhE (Q3 (Zf G1 (hr.mono (by decide)) (by rfl) m1 k1 b1 Zr (Zm (qv 0) JB))) (QhC (JD (QyM QkZ QkZ (qp 1) (qp 0) (qp 2)))))),λargs R EX h=>?_⟩;obtain⟨d,a,b,rfl,hR⟩:=h;refine⟨d,rfl,?_⟩;cases d with
  |int i=>exact Qha (Qxv hR)
  |_=>exact hR
theorem Qs0:Jx ["board"] ["board"] (Qs QkQ):=⟨rfl,rfl,rfl,by decide +kernel,rfl,by decide +kernel,by decide +kernel⟩
theorem Qt6{f   : Addr}{fd  : QL}(F:Fun K "most_size" "most_size" QkQ f fd)(T:GlbA mg) :
  FnOk P w K mg base CX0 1 f fd ["board"] (Zh false Qrf):=by
 refine okQ false F Qs0 (λargs R EX h=>?_) (λcdv A outer s H E hr=>?_)
 ·obtain⟨h,w,cs,rfl,_⟩:=h;rfl
 ·have hU:=Room.u60 hr;have hI:=Room.i60 hr;refine⟨_,Ja (Qbn (Zj (Qe6 rfl) Qkn (by rfl) T.min Qog (QbR (Q3 (Qay JP ZE (qp 0) (Q3 Q9) (λ_ _=>rfl))) (QbR (Q3 (Qay JP ZE (qp 0) (Q3 Q9) (λ_ _=>rfl))) Jd)))),λargs R EX h=>?_⟩;obtain⟨h,w,cs,rfl,hR⟩:=h;exact⟨_,JM (j:=0) rfl,_,JM (j:=1) rfl,Qnp (by split<;>omega) hR⟩
theorem Qdl:Jx ["below", "columns", "taken", "ways", "column", "bit", "size", "many"] ["below", "columns", "taken"] (Qs sRow):=⟨rfl,rfl,rfl,by decide +kernel,rfl,by decide +kernel,by decide +kernel⟩
theorem QtZ{f   : Addr}{fd  : QL}(F:Fun K "ways_with_row" "ways_with_row" sRow f fd)(T:GlbA mg) :
  FnOk P w K mg base CX0 1 f fd ["below", "columns", "taken"] (Zh true QsN):=by
 refine okQ true F Qdl (λargs R EX h=>?_) (λcdv A outer s H E hr=>?_)
 ·obtain⟨h,w,B,cols,t,rfl,_⟩:=h;rfl
 ·have hU:=Room.u60 hr;have hI:=Room.i60 hr;refine⟨_,QF (Qgu 3 (Qgx Qc5 Qoa (by rfl) T.list Qe7 (QbR (Q3 (Qay JP ZE (qp 0) (qp 2) (λ_ _=>rfl))) Jd)) Qdl.nd)
   (QF (QbO JW rfl (QbG (qv 1)) (ZP 4 Qdl.nd rfl (by first | exact QR rfl | exact Q2 rfl))
    (QF (Ze 5 (JD (ZD QjR QgE (Q3 Q9) (qp 4))) Qdl.nd)
   (Ja (QbQ (Y1 (Qmw (QM (ZD Qwt Qb2 (qp 2) (qp 5))))) (Ja (QbO JW rfl (Qpi (by rfl) T.enumerate (JD (Qdv (Q3 (Qay JP ZE (qp 0) (QM (ZD QyX Qb2 (qp 2) (qp 5))) (λ_ _=>rfl))) Qdu (Qdt (QM (QhD (Q3 Q9))))))) (Qbw rfl (Zq 6 (Zq 7 Qbx Qdl.nd rfl (by first | exact QR rfl | exact Q2 rfl)) Qdl.nd rfl (by first | exact QR rfl | exact Q2 rfl)))
    (Ja (Qtc 3 Qnz QgD (QM (ZD Zn Z4 (qp 6) (Q3 Q9))) (qp 7))))) Yf))))
   (Ja (Qmx 3))),λargs R EX h=>?_⟩
  obtain⟨h,w,B,cols,t,rfl,ht,hc,h6,w6,hR⟩:=h;refine⟨_,JM (QeD ht),?_⟩;refine QaA (λj δ=>∃ds x4 x5 x6 x7,δ=[.v (.list (QiB h w B)),.v (.list (Quo cols)),.v (.int t),.own ds,x4,x5,x6,x7]/\ds=Qek h (stepB B (cols.take j) t)) ⟨_,_,_,_,_,rfl,Qbv λk _=>?_⟩ ?_ ?_
  ·show B t k=B t k+if k=0 then 0 else 0
   split<;>omega
  ·rintro j d δ hd ⟨ds,x4,x5,x6,x7,rfl,rfl⟩;unfold Quo at hd;rw[QD] at hd;obtain⟨c,ec,rfl⟩:∃c:Nat,cols[j]? = some c/\d=.int (c:Int):=by
    cases e:cols[j]? with
    |none=>rw[e] at hd;cases hd
    |some p=>rw[e] at hd;cases hd;exact⟨p,rfl,rfl⟩
   have hcw:=hc c (QV ec);have et:cols.take (j+1)=cols.take j++[c]:=by rw[QaJ,ec];rfl
   refine⟨⟨by omega,by omega,by decide⟩,trivial,?_⟩;show if(!tru (.int (QcK (t:Int) (1*2^((c:Nat):Int).toNat))))=true then _ else _
   rw[QuJ ht hcw w6];cases hb:t.testBit c with
   |true=>
    have np:(2:Int)^c≠0:=by
     have:(0:Int)<2^c:=Int.pow_pos (by decide);omega
    rw[if_pos rfl];refine ifF ?_ ⟨_,_,_,_,_,rfl,Qbv λk _=>?_⟩
    ·show(!((2:Int)^c != 0))=false;simp[np]
    ·unfold stepB;rw[et,QeF,if_pos hb,QcS]
   |false=>
    refine ifT rfl ?_
    have olt:=Qwj ht hcw;refine⟨.list (Qek h (B (t ||| 2^c))),?_,?_⟩
    ·show atI (QiB h w B) (Qdi (t:Int) (1*2^((c:Nat):Int).toNat))=_;rw[Qwk ht hcw w6];exact JM (QeD olt)
    ·show QuL (Qi7 (Dl.cutD (Qek h (B (t ||| 2^c))) none (some (-1)))) _ _ _ _;rw[Qpd];refine QaA (λi δ=>∃ds x6 x7,δ=[.v (.list (QiB h w B)),.v (.list (Quo cols)),.v (.int t),.own ds,.v (.int c),.v (.int (1*2^((c:Nat):Int).toNat)),x6,x7]/\ds=Qek h (λk=>stepB B (cols.take j) t k+if 1<=k/\k<=i then B (t ||| 2^c) (k - 1) else 0)) ⟨_,_,_,rfl,Qbv λk _=>?_⟩ ?_ ?_
     ·rw[if_neg (by omega),QcS]
     ·rintro i d δ hd ⟨ds,x6,x7,rfl,rfl⟩;obtain⟨e,he,rfl⟩:=Qes hd;rw[QD] at he;have hi:i<h:=by
       by_cases z:i<h
       ·exact z
       ·rw[Jn (by rw[JN];omega)] at he;cases he
      rw[Zk hi] at he;cases he;refine⟨rfl,i+1,_,?_,Qb0 (by omega),_,_,_,rfl,?_⟩
      ·rw[Qcc];exact Qul (k:=i+1) (by omega)
      ·rw[Qpb (by omega)];refine Qbv λk hk=>?_
       show(if k=i+1 then(stepB B (cols.take j) t (i+1)+if 1<=i+1/\i+1<=i then B (t ||| 2^c) (i+1 - 1) else 0)+B (t ||| 2^c) i else stepB B (cols.take j) t k+if 1<=k/\k<=i then B (t ||| 2^c) (k - 1) else 0)=stepB B (cols.take j) t k+if 1<=k/\k<=i+1 then B (t ||| 2^c) (k - 1) else 0
       by_cases z:k=i+1
       ·subst z;rw[if_pos rfl,if_neg (by omega),if_pos (by omega),QbM,QcS]
       ·rw[if_neg z];by_cases z2:1<=k/\k<=i
        ·rw[if_pos z2,if_pos (by omega)]
        ·rw[if_neg z2,if_neg (by omega)]
     ·rintro δ ⟨ds,x6,x7,rfl,rfl⟩;rw[Qcg,Qh,JN];refine⟨_,_,_,_,_,rfl,Qbv λk hk=>?_⟩;unfold stepB;rw[et];by_cases z:k=0
      ·subst z;rw[if_pos rfl,if_neg (by omega),if_pos rfl];omega
      ·rw[if_neg z,if_neg z,if_pos (by omega),QeF,if_neg (by rw[hb];decide)];omega
  ·rintro δ ⟨ds,x4,x5,x6,x7,rfl,rfl⟩;unfold Quo;rw[Qh,Ym];exact hR
theorem Qra:(["taken", "high"]:List Str).Nodup:=by decide +kernel
theorem QjZ:(["at", "column", "row"]:List Str).Nodup:=by decide +kernel
theorem Qp9:(["taken", "columns", "table"]:List Str).Nodup:=by decide +kernel
theorem Qcu:Jx ["board", "high", "wide", "cells", "table", "row", "columns"] ["board"] (Qs QkM):=⟨rfl,rfl,rfl,by decide +kernel,rfl,by decide +kernel,by decide +kernel⟩
theorem Qt1{f f1  : Addr}{fd fd1:QL}(F:Fun K "ways_to_go_on" "ways_to_go_on" QkM f fd)(T:GlbA mg)
  (m1:mg "ways_with_row" = some (.ref f1))(G1:FnOk P w K mg base CX0 1 f1 fd1 ["below", "columns", "taken"] (Zh true QsN))(b1:Binds K fd1 ["below", "columns", "taken"] [])(k1:PySem.W.keepIn K (.ref f1)=true) :
  FnOk P w K mg base CX0 2 f fd ["board"] (Zh true QlR):=by
 refine okQ true F Qcu (λargs R EX h=>?_) (λcdv A outer s H E hr=>?_)
 ·obtain⟨h,w,cs,rfl,_⟩:=h;rfl
 ·have hU:=Room.u60 hr;have hI:=Room.i60 hr;refine⟨_,QF (Qmz (qv 0) (Qbw rfl (Zq 1 (Zq 2 (Zq 3 Qbx Qcu.nd rfl (by first | exact QR rfl | exact Q2 rfl)) Qcu.nd rfl (by first | exact QR rfl | exact Q2 rfl)) Qcu.nd rfl (by first | exact QR rfl | exact Q2 rfl))))
   (QF (Qgu 4 (Qbo (ZR (JD (Qao ["taken", "high"] [none,some 1] (Qcv (by rfl) T.range (QM (ZD QjR QgE (Q3 Q9) (qp 2)))) (λcl ex s3 H3 C=>⟨(ZP 0 Qra rfl (QR rfl) (Q2 rfl)),Yq,(JD (ZD Zn Z4 (QM (Qbo (ZR Q9 Jd))) (QM (ZD QgC QjV (QM (Qbo (ZR Q9 Jd))) (qp 1)))))⟩))) Jd)) Qcu.nd)
   (QF (QbO JW rfl (QmA (by rfl) T.reversed (by rfl) T.range (qp 1)) (ZP 5 Qcu.nd rfl (by first | exact QR rfl | exact Q2 rfl))
    (QF (Ze 6 (JD (Qao ["at", "column", "row"] [none,none,some 5] (Qbf (qp 3)) (λcl ex s3 H3 C=>⟨(Qbw rfl (Zq 0 (Zq 1 Qbx QjZ rfl (QR rfl) (Q2 rfl)) QjZ rfl (QR rfl) (Q2 rfl))),(Qds (Qbe Qc0 (QgF hU) (qp 0) (qp 2) (ZS _))),(qv 1)⟩))) Qcu.nd)
   (Ja (QvM 4 Q9 (JD (Qao ["taken", "columns", "table"] [none,some 6,some 4] (Qcv (by rfl) T.range (QM (ZD QjR QgE (Q3 Q9) (qp 2)))) (λcl ex s3 H3 C=>⟨(ZP 0 Qp9 rfl (QR rfl) (Q2 rfl)),Yq,(JD (YD G1 (hr.mono (by decide)) (by rfl) m1 k1 b1 Zr (Zm (Qay JP ZE (qp 2) (Q3 Q9) (λ_ _=>rfl)) (Zm (qv 1) (Zm (qv 0) JB)))))⟩)))))))
   (Ja (Qmx 4)))),λargs R EX h=>?_⟩
  obtain⟨h,w,cs,rfl,h6,w6,hb,hR⟩:=h;refine⟨rfl,⟨by omega,by omega,by decide⟩,?_,Qah (λ_=>.list (Q7 1::Jh h (.int 0))) (λd hd k2 hk=>?_) ?_⟩
  ·exact Qr8 w6
  ·refine⟨⟨by omega,by omega,by rw[QN];show 1*h<=_;omega⟩,?_⟩;rw[QN,Qs3];refine⟨by rw[QaV];show 1+h<=_;omega,hk⟩
  ·have e0:(QjG 0 (1*2^((w:Nat):Int).toNat:Int).toNat).map (λ_=>QaE (Q7 1::Jh h (.int 0)))=QiB h w (Wc cs h 0):=by
    rw[Qgz,QN];unfold QjG QiB;rw[Jt];refine QdO λt _=>?_
    show QaE _=QaE _;rw[Qpc]
   rw[e0];refine⟨⟨by omega,by omega⟩,QaA (λi δ=>∃ds x5 x6,δ=[.v (bdD h w cs),.v (.int h),.v (.int w),.v (.tuple (cs.map pairD)),.own ds,x5,x6]/\ds=QiA cs h w i) ⟨_,_,_,rfl,rfl⟩ ?_ ?_⟩
   ·rintro i d δ hd ⟨ds,x5,x6,rfl,rfl⟩;obtain⟨hi,rfl⟩:=Qgs hd;rw[QN] at hi;have er:((((h:Nat):Int).toNat:Nat):Int) - 1 - (i:Int)=((h - 1 - i:Nat):Int):=by omega
    rw[er];refine Qlj (λd=>if(toP d).1=((h - 1 - i:Nat):Int) then some (.int (toP d).2) else none) (λd hd k1 k2 h1 h2=>?_) ?_
    ·obtain⟨p,_,rfl⟩:=Qy.mp hd;have h1:(if p.1=((h - 1 - i:Nat):Int) then some (Q7 p.2) else none)=none->k1:=h1;have h2:∀e,(if p.1=((h - 1 - i:Nat):Int) then some (Q7 p.2) else none)=some e->k2 e:=h2
     refine⟨rfl,?_⟩;show if decide (p.1=((h - 1 - i:Nat):Int))=true then k2 (.int p.2) else k1
     by_cases z:p.1=((h - 1 - i:Nat):Int)
     ·rw[if_pos (decide_eq_true z)];exact h2 _ (if_pos z)
     ·rw[if_neg (by simpa using z)];exact h1 (if_neg z)
    ·rw[Qxp cs (h - 1 - i) λp hp=>(hb p hp).1];refine⟨⟨by omega,by omega,by decide⟩,?_,Qah (λd=>match d with | .int t=>.list (Qek h (Wc cs h (i+1) t.toNat)) | _=>.none) (λd hd k2 hk=>?_) ?_⟩
     ·exact Qr8 w6
     ·obtain⟨t,ht⟩:=Zd.mp hd;obtain⟨htl,rfl⟩:=QeJ ht;rw[Qgz,QN] at htl;have hk:k2 (.list (Qek h (Wc cs h (i+1) (0+(t:Int)).toNat))):=hk;rw[show(0+(t:Int)).toNat=t by omega] at hk;refine⟨_,JM (j:=0) (Qiz cs h w i),h,w,Wc cs h i,QoD cs (h - 1 - i),t,by rw[show(0:Int)+(t:Int)=(t:Int) by omega],htl,λc hc=>QuB hb hc,h6,w6,hk⟩
     ·refine⟨by rw[Qjx];omega,_,_,_,rfl,?_⟩;show QaE _::QiA cs h w i=QaE (QiB h w (Wc cs h (i+1)))::QiA cs h w i
      congr 2
      rw[Qgz,QN];unfold QjG QiB;rw[Jt];refine QdO λt _=>?_
      show QaE (Qek h (Wc cs h (i+1) (0+(t:Int)).toNat))=_;rw[show(0+(t:Int)).toNat=t by omega]
   ·rintro δ ⟨ds,x5,x6,rfl,rfl⟩;rw[Qel,QN];exact hR
theorem Qmj:Jx ["board"] ["board"] (Qs Qdo):=⟨rfl,rfl,rfl,by decide +kernel,rfl,by decide +kernel,by decide +kernel⟩
theorem Qnb{f f1 f2  : Addr}{fd fd1 fd2:QL}(F:Fun K "counts" "counts" Qdo f fd)(T:GlbA mg)
  (m1:mg "ways_to_go_on" = some (.ref f1))(G1:FnOk P w K mg base CX0 2 f1 fd1 ["board"] (Zh true QlR))(b1:Binds K fd1 ["board"] [])(k1:PySem.W.keepIn K (.ref f1)=true)
  (m2:mg "most_size" = some (.ref f2))(G2:FnOk P w K mg base CX0 1 f2 fd2 ["board"] (Zh false Qrf))(b2:Binds K fd2 ["board"] [])(k2:PySem.W.keepIn K (.ref f2)=true) :
  FnOk P w K mg base CX0 3 f fd ["board"] (Zh true Qi9):=by
 refine okQ true F Qmj (λargs R EX h=>?_) (λcdv A outer s H E hr=>?_)
 ·obtain⟨h,w,cs,rfl,_⟩:=h;rfl
 ·have hU:=Room.u60 hr;have hI:=Room.i60 hr;refine⟨_,Ja (Qbn (Qdv (Q3 (Qay JP ZE (Q3 (Qay JP ZE (QM (YD G1 (hr.mono (by decide)) (by rfl) m1 k1 b1 Zr (Zm (qv 0) JB))) (Q3 Q9) (λ_ _=>rfl))) (Q3 Q9) (λ_ _=>rfl))) Qdu (Qdt (QM (ZD Zn Z4 (Q3 (Zf G2 (hr.mono (by decide)) (by rfl) m2 k2 b2 Zr (Zm (qv 0) JB))) (Q3 Q9)))))),λargs R EX h=>?_⟩;obtain⟨h,w,cs,rfl,h6,w6,hb,hR⟩:=h;refine⟨_,_,_,rfl,h6,w6,hb,_,JM (j:=0) (Qiz cs h w h),_,JM (j:=0) (QeD (Qhl w)),_,_,_,rfl,?_⟩;have e:Dl.cutD (Qek h (Wc cs h h 0)) none (some (((min h w:Nat):Int)+1))=QuX cs h w:=by
   rw[Qkh _ _ (by omega)];unfold Qek QuX;rw[<- Qjm,QuS,show min (((min h w:Nat):Int)+1).toNat (h+1)=min h w+1 by omega]
  have hR:R (.list (QuX cs h w)):=hR;rw[<- e] at hR;exact hR
theorem QsZ:Jx ["start"] ["start"] (Qs QkO):=⟨rfl,rfl,rfl,by decide +kernel,rfl,by decide +kernel,by decide +kernel⟩
theorem Qt4{f   : Addr}{fd  : QL}(F:Fun K "row_behind" "row_behind" QkO f fd)(T:GlbA mg) :
  FnOk P w K mg base CX0 1 f fd ["start"] (Zh false Qo9):=by
 refine okQ false F QsZ (λargs R EX h=>?_) (λcdv A outer s H E hr=>?_)
 ·obtain⟨S,rfl,_⟩:=h;rfl
 ·have hU:=Room.u60 hr;have hI:=Room.i60 hr;refine⟨_,Ja (Z7 (QyJ (Qmw (qp 0)) (JD (ZD Zn Z4 (Q3 (Qay JP ZE (Q3 (Qay JP ZE (qp 0) (QM (QhD (Q3 Q9))) (λ_ _=>rfl))) (Q3 Q9) (λ_ _=>rfl))) (Q3 Q9))) Q9)),λargs R EX h=>?_⟩;obtain⟨S,rfl,hR⟩:=h;refine⟨trivial,?_⟩;unfold rbI at hR;cases e:S.getLast? with
  |none=>
   rw[e] at hR;rw[List.getLast?_eq_none_iff] at e;subst e;exact hR
  |some c=>
   rw[e] at hR;refine ifT ?_ ⟨_,Quh e,_,JM (j:=0) rfl,hR⟩
   cases S with
   |nil=>cases e
   |cons a b=>rfl
theorem Qud:(["cell"]:List Str).Nodup:=by decide +kernel
theorem Quc:(["cell", "row", "taken"]:List Str).Nodup:=by decide +kernel
theorem Qmi:Jx ["board", "start", "row", "taken"] ["board", "start"] (Qs sFol):=⟨rfl,rfl,rfl,by decide +kernel,rfl,by decide +kernel,by decide +kernel⟩
theorem Qwx{f f1  : Addr}{fd fd1:QL}(F:Fun K "followers" "followers" sFol f fd)(T:GlbA mg)
  (m1:mg "row_behind" = some (.ref f1))(G1:FnOk P w K mg base CX0 1 f1 fd1 ["start"] (Zh false Qo9))(b1:Binds K fd1 ["start"] [])(k1:PySem.W.keepIn K (.ref f1)=true) :
  FnOk P w K mg base CX0 2 f fd ["board", "start"] (Zh false QxU):=by
 refine okQ false F Qmi (λargs R EX h=>?_) (λcdv A outer s H E hr=>?_)
 ·obtain⟨h,w,cs,S,rfl,_⟩:=h;rfl
 ·have hU:=Room.u60 hr;have hI:=Room.i60 hr;refine⟨_,QF (Ze 2 (Zf G1 (hr.mono (by decide)) (by rfl) m1 k1 b1 Zr (Zm (qv 1) JB)) Qmi.nd)
   (QF (Ze 3 (JD (Qao ["cell"] [none] (Qbf (qp 1)) (λcl ex s3 H3 C=>⟨(ZP 0 Qud rfl (QR rfl) (Q2 rfl)),Yq,(Qay JP ZE (qp 0) (Q3 Q9) (λ_ _=>rfl))⟩))) Qmi.nd)
   (Ja (Qbn (Qao ["cell", "row", "taken"] [none,some 2,some 3] (Qbf (Q3 (Qay JP ZE (qp 0) (Q3 Q9) (λ_ _=>rfl)))) (λcl ex s3 H3 C=>⟨(ZP 0 Quc rfl (QR rfl) (Q2 rfl)),(Qds (Qr4 (QjK (Qbe QtV QhQ (Q3 (Qay JP ZE (qp 0) (Q3 Q9) (λ_ _=>rfl))) (qp 1) (ZS _)) (QiK (Qbe QhN (Qng hI) (Q3 (Qay JP ZE (qp 0) (Q3 Q9) (λ_ _=>rfl))) (qp 2) (by rfl)))))),(qv 0)⟩))))),λargs R EX h=>?_⟩
  obtain⟨h,w,cs,S,rfl,hR⟩:=h;refine⟨_,rfl,Qah (λd=>.int (toP d).2) (λd hd k2 hk=>?_) ?_⟩
  ·obtain⟨p,_,rfl⟩:=Qy.mp hd;exact⟨_,JM (j:=1) rfl,hk⟩
  ·rw[show(S.map pairD).map (λd=>Q7 (toP d).2)=(S.map (·.2)).map Q7 by rw[Jt,Jt];rfl];refine⟨_,JM (j:=2) rfl,Qlj (λd=>if(λc:Int×Int=>decide (rbI S<=c.1) && !decide (c.2∈S.map (·.2))) (toP d)=true then some d else none) (λd hd k1 k2 h1 h2=>?_) ?_⟩
   ·obtain⟨c,_,rfl⟩:=Qy.mp hd;have h1:(if(decide (rbI S<=c.1) && !decide (c.2∈S.map (·.2)))=true then some (pairD c) else none)=none->k1:=h1;have h2:∀e,(if(decide (rbI S<=c.1) && !decide (c.2∈S.map (·.2)))=true then some (pairD c) else none)=some e->k2 e:=h2
    refine⟨_,JM (j:=0) rfl,?_⟩;refine ifC (λz1=>?_) λz1=>?_
    ·have z1:decide (rbI S<=c.1)=true:=z1;rw[z1,Qav] at h1 h2;refine⟨_,JM (j:=1) rfl,⟨QjX _,rfl,by show Jp (.int _)<=50;unfold Jp;decide⟩,?_⟩;show if(!((S.map (·.2)).map Q7).any λe=>Q6 e (.int c.2))=true then _ else k1
     rw[Qoq];by_cases z:(!decide (c.2∈S.map (·.2)))=true
     ·rw[if_pos z];exact h2 _ (if_pos z)
     ·rw[if_neg z];exact h1 (if_neg z)
    ·have z1:decide (rbI S<=c.1)=false:=z1;rw[z1] at h1;exact h1 rfl
   ·rw[Qj9 (λc:Int×Int=>decide (rbI S<=c.1) && !decide (c.2∈S.map (·.2)))];exact hR
theorem Qo3:Jx ["board", "size"] ["board", "size"] (Qs QfB):=⟨rfl,rfl,rfl,by decide +kernel,rfl,by decide +kernel,by decide +kernel⟩
theorem Qp0{f f1 f2 CS:Addr}{fd fd1 fd2:QL}(F:Fun K "refuse_no_size" "refuse_no_size" QfB f fd)(T:GlbA mg)
  (m1:mg "is_whole_within" = some (.ref f1))(G1:FnOk P w K mg base CX0 2 f1 fd1 ["thing", "least", "most"] (Zh false QeA))(b1:Binds K fd1 ["thing", "least", "most"] [])(k1:PySem.W.keepIn K (.ref f1)=true)
  (m2:mg "most_size" = some (.ref f2))(G2:FnOk P w K mg base CX0 1 f2 fd2 ["board"] (Zh false Qrf))(b2:Binds K fd2 ["board"] [])(k2:PySem.W.keepIn K (.ref f2)=true)
  (mCS:mg "NoSize" = some (.ref CS))(qCS:PySem.W.excIn K CS Rx.mroV "ValueError.__new__" = true) :
  FnOk P w K mg base (Rx.CXE P w) 3 f fd ["board", "size"] (Zh false (Qmo CS)):=by
 refine QxT false F Qo3 (λargs R EX h=>?_) (λcdv A outer s H E hr=>?_)
 ·obtain⟨h,w,cs,d,rfl,_⟩:=h;rfl
 ·have hU:=Room.u60 hr;have hI:=Room.i60 hr;refine⟨_,Ja (QbQ (Y1 (Y0 (Q3 (Zf G1 (hr.mono (by decide)) (by rfl) m1 k1 b1 Zr (Zm (qv 1) (Zm Q9 (Zm (Zf G2 (hr.mono (by decide)) (by rfl) m2 k2 b2 Zr (Zm (qv 0) JB)) JB))))))) (Ja (Qgv (λ_ _ h=>h) mCS qCS (Q3 Qd5))) Yf),λargs R EX h=>?_⟩;obtain⟨h,w,cs,d,rfl,hR,hX⟩:=h;refine⟨_,_,_,rfl,_,_,_,rfl,?_⟩;cases ha:inW d 0 ((min h w:Nat):Int) with
  |false=>exact hX ha
  |true=>exact hR ha
theorem QfO:(["one", "other"]:List Str).Nodup:=by decide +kernel
theorem Qmd:Jx ["things"] ["things"] (Qs Qdn):=⟨rfl,rfl,rfl,by decide +kernel,rfl,by decide +kernel,by decide +kernel⟩
theorem Qm5{f   : Addr}{fd  : QL}(F:Fun K "is_rising" "is_rising" Qdn f fd)(T:GlbA mg) :
  FnOk P w K mg base CX0 1 f fd ["things"] (Zh false QiI):=by
 refine okQ false F Qmd (λargs R EX h=>?_) (λcdv A outer s H E hr=>?_)
 ·obtain⟨ds,rfl | rfl,_⟩:=h<;>rfl
 ·have hU:=Room.u60 hr;have hI:=Room.i60 hr;refine⟨_,Ja (Qbn (Zj QbK (Qf3 rfl) (by rfl) T.all Qe8 (QbR (QM (Qao ["one", "other"] [none,none] (QyH (Qtd (by rfl) T.zip (qp 0) (QM (Qdv (qp 0) (Qdt (Q3 Q9)) Qdu))) (Qte (by rfl) T.zip (qp 0) (QM (Qdv (qp 0) (Qdt (Q3 Q9)) Qdu)))) (λcl ex s3 H3 C=>⟨(Qbw rfl (Zq 0 (Zq 1 Qbx QfO rfl (QR rfl) (Q2 rfl)) QfO rfl (QR rfl) (Q2 rfl))),Yq,(JD (Qd6 (QmY hU) Qnf (qp 0) (qp 1) (ZS _)))⟩))) Jd))),λargs R EX h=>?_⟩;obtain⟨ds,h,hc,hR⟩:=h;have go:∀d∈QkH ds (Dl.cutD ds (some 1) none),∃a b,d=.tuple [a,b]/\(okK a=true/\okK b=true/\Qip a b=true/\a.depth<=20):=λd hd=>by
   obtain⟨i,hi⟩:=Zd.mp hd;obtain⟨a,b,ha,hb,rfl⟩:=Dl.zip_get hi;have ma:=QV ha;have mb:=Qrz (QV hb);exact⟨a,b,rfl,(hc a ma).1,(hc b mb).1,(hc a ma).2.2 b mb,(hc a ma).2.1⟩
  rcases h with rfl | rfl
  ·refine .inl (Qah (λd=>.bool (QwF d)) (λd hd k2 hk=>?_) (Qb9 (items:=QkH ds (Dl.cutD ds (some 1) none)) rfl (by rw[Qew];exact hR)));obtain⟨a,b,rfl,q⟩:=go d hd;exact⟨rfl,q,hk⟩
  ·refine .inr (Qah (λd=>.bool (QwF d)) (λd hd k2 hk=>?_) (Qb9 (items:=QkH ds (Dl.cutD ds (some 1) none)) rfl (by rw[Qew];exact hR)));obtain⟨a,b,rfl,q⟩:=go d hd;exact⟨rfl,q,hk⟩
theorem Qo4:Jx ["high", "wide", "thing"] ["high", "wide", "thing"] (Qs QfC):=⟨rfl,rfl,rfl,by decide +kernel,rfl,by decide +kernel,by decide +kernel⟩
theorem Qp1{f f1  : Addr}{fd fd1:QL}(F:Fun K "is_place" "is_place" QfC f fd)(T:GlbA mg)
  (m1:mg "is_whole_within" = some (.ref f1))(G1:FnOk P w K mg base CX0 2 f1 fd1 ["thing", "least", "most"] (Zh false QeA))(b1:Binds K fd1 ["thing", "least", "most"] [])(k1:PySem.W.keepIn K (.ref f1)=true) :
  FnOk P w K mg base CX0 3 f fd ["high", "wide", "thing"] (Zh false QmG):=by
 refine okQ false F Qo4 (λargs R EX h=>?_) (λcdv A outer s H E hr=>?_)
 ·obtain⟨h,w,d,rfl,_⟩:=h;rfl
 ·have hU:=Room.u60 hr;have hI:=Room.i60 hr;refine⟨_,QF (QbQ (Qr4 (QiJ (Y1 (Y0 (QM (Qco .tuple (by rfl) T.isinstance (qp 2) (by rfl) T.tuple Qbj)))) (QhB (Qbe QjS (Qp5 hU) (QM (Zj ZG QaB (by rfl) T.len YC (QbR (qp 2) Jd))) (Q3 Q9) (ZS _))))) (Ja (Z7 QfH)) Yf)
   (Ja (Z7 (QhE (Q3 (Zf G1 (hr.mono (by decide)) (by rfl) m1 k1 b1 Zr (Zm (Qay JP ZE (qp 2) (Q3 Q9) (λ_ _=>rfl)) (Zm Q9 (Zm (JD (ZD Qcp Qb2 (qp 0) (Q3 Q9))) JB))))) (QhC (Zf G1 (hr.mono (by decide)) (by rfl) m1 k1 b1 Zr (Zm (Qay JP ZE (qp 2) (Q3 Q9) (λ_ _=>rfl)) (Zm Q9 (Zm (JD (ZD Qcp Qb2 (qp 1) (Q3 Q9))) JB)))))))),λargs R EX h=>?_⟩
  obtain⟨h,w,d,rfl,hR⟩:=h;cases d with
  |tuple ds=>
   match ds,hR with
   |[a,b],hR=>
    refine⟨a,rfl,_,_,_,rfl,?_⟩;refine Qg1 hR λ_ hR=>?_
    exact⟨b,rfl,_,_,_,rfl,hR⟩
   |[],hR=>exact hR
   |[_],hR=>exact hR
   |a::b::c::r,hR=>
    exact hR
  |_=>exact hR
theorem Qnn:(["part", "high", "wide"]:List Str).Nodup:=by decide +kernel
theorem Qo5:Jx ["high", "wide", "thing"] ["high", "wide", "thing"] (Qs QfE):=⟨rfl,rfl,rfl,by decide +kernel,rfl,by decide +kernel,by decide +kernel⟩
theorem Qp3{f f1 f2  : Addr}{fd fd1 fd2:QL}(F:Fun K "is_cells" "is_cells" QfE f fd)(T:GlbA mg)
  (m1:mg "is_place" = some (.ref f1))(G1:FnOk P w K mg base CX0 3 f1 fd1 ["high", "wide", "thing"] (Zh false QmG))(b1:Binds K fd1 ["high", "wide", "thing"] [])(k1:PySem.W.keepIn K (.ref f1)=true)
  (m2:mg "is_rising" = some (.ref f2))(G2:FnOk P w K mg base CX0 1 f2 fd2 ["things"] (Zh false QiI))(b2:Binds K fd2 ["things"] [])(k2:PySem.W.keepIn K (.ref f2)=true) :
  FnOk P w K mg base CX0 4 f fd ["high", "wide", "thing"] (Zh false Qn8):=by
 refine okQ false F Qo5 (λargs R EX h=>?_) (λcdv A outer s H E hr=>?_)
 ·obtain⟨h,w,d,rfl,_⟩:=h;rfl
 ·have hU:=Room.u60 hr;have hI:=Room.i60 hr;refine⟨_,QF (QbQ (Y1 (Y0 (QM (Qco .tuple (by rfl) T.isinstance (qp 2) (by rfl) T.tuple Qbj)))) (Ja (Z7 QfH)) Yf)
   (Ja (Z7 (QhE (QM (Zj QbK (Qf3 rfl) (by rfl) T.all Qe8 (QbR (QM (Qao ["part", "high", "wide"] [none,some 0,some 1] (Qbf (qp 2)) (λcl ex s3 H3 C=>⟨(ZP 0 Qnn rfl (QR rfl) (Q2 rfl)),Yq,(Zf G1 (hr.mono (by decide)) (by rfl) m1 k1 b1 Zr (Zm (qv 1) (Zm (qv 2) (Zm (qv 0) JB))))⟩))) Jd))) (QhC (Zf G2 (hr.mono (by decide)) (by rfl) m2 k2 b2 Zr (Zm (qv 2) JB)))))),λargs R EX h=>?_⟩
  obtain⟨h,w,d,rfl,hR⟩:=h;cases d with
  |tuple ds=>
   refine Qah (λd=>.bool (QfW h w d)) (λd hd k2 hk=>⟨_,_,_,rfl,hk⟩) (Qb9 (items:=ds) rfl ?_);refine Qg1 hR λha hR=>?_
   obtain⟨L,rfl,_⟩:=Qen ha;exact⟨_,.inl rfl,Qb7 L,hR⟩
  |_=>exact hR
theorem QhT:(["row", "column"]:List Str).Nodup:=by decide +kernel
theorem QhS:(["row", "column"]:List Str).Nodup:=by decide +kernel
theorem Qgp:Jx ["cells", "rows", "columns"] ["cells"] (Qs QfF):=⟨rfl,rfl,rfl,by decide +kernel,rfl,by decide +kernel,by decide +kernel⟩
theorem Qp4{f   : Addr}{fd  : QL}(F:Fun K "are_apart" "are_apart" QfF f fd)(T:GlbA mg) :
  FnOk P w K mg base CX0 1 f fd ["cells"] (Zh false Qop):=by
 refine okQ false F Qgp (λargs R EX h=>?_) (λcdv A outer s H E hr=>?_)
 ·obtain⟨L,rfl,_⟩:=h;rfl
 ·have hU:=Room.u60 hr;have hI:=Room.i60 hr;refine⟨_,QF (QeK ["row", "column"] [none,none] 1 Qgp.nd (Qbf (qp 0)) (λcl ex s3 H3 C=>⟨(Qbw rfl (Zq 0 (Zq 1 Qbx QhT rfl (QR rfl) (Q2 rfl)) QhT rfl (QR rfl) (Q2 rfl))),Yq,(qv 0)⟩))
   (QF (QeK ["row", "column"] [none,none] 2 Qgp.nd (Qbf (qp 0)) (λcl ex s3 H3 C=>⟨(Qbw rfl (Zq 0 (Zq 1 Qbx QhS rfl (QR rfl) (Q2 rfl)) QhS rfl (QR rfl) (Q2 rfl))),Yq,(qv 1)⟩))
   (Ja (Z7 (QhE (QM (Qd6 Qc0 (QgF hU) (QM (Qgw (by rfl) T.len (by rfl) T.set (qp 1))) (QM (Zj ZG QaB (by rfl) T.len YC (QbR (qp 1) Jd))) (ZS _))) (QhC (JD (Qd6 Qc0 (QgF hU) (QM (Qgw (by rfl) T.len (by rfl) T.set (qp 2))) (QM (Zj ZG QaB (by rfl) T.len YC (QbR (qp 2) Jd))) (ZS _)))))))),λargs R EX h=>?_⟩
  obtain⟨L,rfl,hl,hR⟩:=h;have e1:(L.map pairD).map (λd=>Q7 (toP d).1)=(L.map (λp=>p.1)).map Q7:=by rw[Jt,Jt];rfl
  have e2:(L.map pairD).map (λd=>Q7 (toP d).2)=(L.map (λp=>p.2)).map Q7:=by rw[Jt,Jt];rfl
  refine Qah (λd=>.int (toP d).1) (λd hd k2 hk=>?_) ?_
  ·obtain⟨p,_,rfl⟩:=Qy.mp hd;exact⟨rfl,hk⟩
  ·refine Qah (λd=>.int (toP d).2) (λd hd k2 hk=>?_) ?_
   ·obtain⟨p,_,rfl⟩:=Qy.mp hd;exact⟨rfl,hk⟩
   ·rw[e1,e2];refine⟨_,QdM _,by rw[Qh];exact hl,?_⟩;have c1:∀ns:List Int,decide (((ddI ns).length:Int)=(((ns.map Q7).length:Nat):Int))=decide ns.Nodup:=λns=>by
     rw[Qh];refine decide_eq_decide.mpr ⟨λz=>(QgU ns).mp (by omega),λz=>by have:=(QgU ns).mpr z;omega⟩
    show if decide _=true then _ else _
    rw[c1];refine Qg1 hR λ_ hR=>?_
    refine⟨_,QdM _,by rw[Qh];exact hl,?_⟩;show R (.bool (decide _));rw[c1];exact hR
theorem Qnk:(["cell", "cells"]:List Str).Nodup:=by decide +kernel
theorem Qej:Jx ["board", "thing", "high", "wide", "cells"] ["board", "thing"] (Qs QfA):=⟨rfl,rfl,rfl,by decide +kernel,rfl,by decide +kernel,by decide +kernel⟩
theorem QpZ{f f1 f2  : Addr}{fd fd1 fd2:QL}(F:Fun K "is_stand" "is_stand" QfA f fd)(T:GlbA mg)
  (m1:mg "is_cells" = some (.ref f1))(G1:FnOk P w K mg base CX0 4 f1 fd1 ["high", "wide", "thing"] (Zh false Qn8))(b1:Binds K fd1 ["high", "wide", "thing"] [])(k1:PySem.W.keepIn K (.ref f1)=true)
  (m2:mg "are_apart" = some (.ref f2))(G2:FnOk P w K mg base CX0 1 f2 fd2 ["cells"] (Zh false Qop))(b2:Binds K fd2 ["cells"] [])(k2:PySem.W.keepIn K (.ref f2)=true) :
  FnOk P w K mg base CX0 5 f fd ["board", "thing"] (Zh false Ql5):=by
 refine okQ false F Qej (λargs R EX h=>?_) (λcdv A outer s H E hr=>?_)
 ·obtain⟨h,w,cs,d,rfl,_⟩:=h;rfl
 ·have hU:=Room.u60 hr;have hI:=Room.i60 hr;refine⟨_,QF (Qmz (qv 0) (Qbw rfl (Zq 2 (Zq 3 (Zq 4 Qbx Qej.nd rfl (by first | exact QR rfl | exact Q2 rfl)) Qej.nd rfl (by first | exact QR rfl | exact Q2 rfl)) Qej.nd rfl (by first | exact QR rfl | exact Q2 rfl))))
   (QF (QbQ (Y1 (Y0 (Q3 (Zf G1 (hr.mono (by decide)) (by rfl) m1 k1 b1 Zr (Zm (qv 2) (Zm (qv 3) (Zm (qv 1) JB))))))) (Ja (Z7 QfH)) Yf)
   (Ja (Z7 (QhE (QM (Zj QbK (Qf3 rfl) (by rfl) T.all Qe8 (QbR (QM (Qao ["cell", "cells"] [none,some 4] (Qbf (qp 1)) (λcl ex s3 H3 C=>⟨(ZP 0 Qnk rfl (QR rfl) (Q2 rfl)),Yq,(JD (Qd6 QmZ (Qng hI) (qp 0) (qp 1) (by rfl)))⟩))) Jd))) (QhC (Zf G2 (hr.mono (by decide)) (by rfl) m2 k2 b2 Zr (Zm (qv 1) JB))))))),λargs R EX h=>?_⟩
  obtain⟨h,w,cs,d,rfl,hs,hR⟩:=h;refine⟨rfl,_,_,_,rfl,?_⟩;cases d with
  |tuple ds=>
   show if(!(ds.all (QfW h w)&&Qba ds))=true then _ else _
   cases hc:(ds.all (QfW h w)&&Qba ds) with
   |false=>
    rw[show QfV h w cs (.tuple ds)=false by show((ds.all (QfW h w)&&Qba ds)&&_)=false;rw[hc];rfl] at hR;exact hR
   |true=>
    rw[show QfV h w cs (.tuple ds)=(ds.all (inC cs)&&apB (ds.map toP)) by show((ds.all (QfW h w)&&Qba ds)&&_)=_;rw[hc];rfl] at hR;obtain⟨L,rfl,hL⟩:=Qen (Qu.mp hc).1;have hl:=hs _ rfl;rw[Qh] at hl;refine Qah (λd=>.bool (inC cs d)) (λd hd k2 hk=>?_) (Qb9 (items:=L.map pairD) rfl ?_)
    ·obtain⟨p,_,rfl⟩:=Qy.mp hd;exact⟨⟨Qby cs,rfl,by have:=Qf0 p;omega⟩,hk⟩
    ·rw[Qb1] at hR;refine Qg1 hR λ_ hR=>⟨L,rfl,by omega,hR⟩
  |_=>exact hR
end
section
variable{P:QP}{w:JH}{K:PySem.W.Frag}{mg:Str->Option Value}{base:Zl}
theorem QjY:(["row", "column"]:List Str).Nodup:=by decide +kernel
theorem Qmb:Jx ["table", "start", "more", "taken"] ["table", "start", "more"] (Qs QkN):=⟨rfl,rfl,rfl,by decide +kernel,rfl,by decide +kernel,by decide +kernel⟩
theorem Qt0{f f1  : Addr}{fd fd1:QL}(F:Fun K "ways_behind" "ways_behind" QkN f fd)(T:GlbA mg)
  (m1:mg "row_behind" = some (.ref f1))(G1:FnOk P w K mg base CX0 1 f1 fd1 ["start"] (Zh false Qo9))(b1:Binds K fd1 ["start"] [])(k1:PySem.W.keepIn K (.ref f1)=true) :
  FnOk P w K mg base CX0 2 f fd ["table", "start", "more"] (Zh false QoR):=by
 refine okQ false F Qmb (λargs R EX h=>?_) (λcdv A outer s H E hr=>?_)
 ·obtain⟨h,w,cs,S,k,rfl,_⟩:=h;rfl
 ·have hU:=Room.u60 hr;have hI:=Room.i60 hr;refine⟨_,QF (Ze 3 (JD (Zj (Qh4 rfl) Qsy (by rfl) T.sum Qsz (QbR (QM (Qao ["row", "column"] [none,none] (Qbf (qp 1)) (λcl ex s3 H3 C=>⟨(Qbw rfl (Zq 0 (Zq 1 Qbx QjY rfl (QR rfl) (Q2 rfl)) QjY rfl (QR rfl) (Q2 rfl))),Yq,(JD (ZD QjR QgE (Q3 Q9) (qp 1)))⟩))) Jd))) Qmb.nd)
   (Ja (Z7 (Qay JP ZE (Q3 (Qay JP ZE (Q3 (Qay JP ZE (qp 0) (Q3 (Zf G1 (hr.mono (by decide)) (by rfl) m1 k1 b1 Zr (Zm (qv 1) JB))) (λ_ _=>rfl))) (qp 3) (λ_ _=>rfl))) (qp 2) (λ_ _=>rfl)))),λargs R EX h=>?_⟩
  obtain⟨h,w,cs,S,k,rfl,g,st,hk,hR⟩:=h;have rb:=QvD g st;have hw:=g.bds.2.1;have hb:∀p∈S,0<=p.2/\p.2<(w:Int):=λp hp=>g.bds.col p (st.sub p hp)
  have ms:=Qsj hw (T:=[]) (S:=S) hb st.cols (Qhl w);rw[Qbq] at ms;refine Qah (λd=>.int (1*2^(toP d).2.toNat)) (λd hd k2 hk=>?_) ?_
  ·obtain⟨p,hp,rfl⟩:=Qy.mp hd;have:=hb p hp;exact⟨rfl,⟨by omega,by show p.2<=_;omega,by decide⟩,hk⟩
  ·have es:(S.map pairD).map (λd=>Q7 (1*2^(toP d).2.toNat))=(S.map λp=>(1*2^p.2.toNat:Int)).map Q7:=by rw[Jt,Jt];rfl
   rw[es];refine Ql1 _ rfl ?_
   have e2:(S.map λp=>(1*2^p.2.toNat:Int)).sum=((mkL S:Nat):Int):=by
    have:=ms.1;rw[show((mkL []:Nat):Int)=0 from rfl,Qfs] at this;exact this
   rw[e2];obtain⟨r,er⟩:∃r:Nat,rbI S=r:=⟨(rbI S).toNat,by omega⟩
   have xl:=QlQ g k S st;rw[er,QN] at xl;rw[xl] at hR;refine⟨_,rfl,.list (QiB h w (Wc cs h (h - r))),?_,_,JM (QeD ms.2),_,JM (Qb0 hk),hR⟩;rw[er];exact JM (Qjy cs h w h r (by omega))
theorem Qa0:Jx ["board", "table", "start", "more", "number", "cells", "at", "ways"] ["board", "table", "start", "more", "number"] (Qs Qdp):=⟨rfl,rfl,rfl,by decide +kernel,rfl,by decide +kernel,by decide +kernel⟩
theorem Qnc{f f1 f2  : Addr}{fd fd1 fd2:QL}(F:Fun K "cell_at" "cell_at" Qdp f fd)(T:GlbA mg)
  (m1:mg "followers" = some (.ref f1))(G1:FnOk P w K mg base CX0 2 f1 fd1 ["board", "start"] (Zh false QxU))(b1:Binds K fd1 ["board", "start"] [])(k1:PySem.W.keepIn K (.ref f1)=true)
  (m2:mg "ways_behind" = some (.ref f2))(G2:FnOk P w K mg base CX0 2 f2 fd2 ["table", "start", "more"] (Zh false QoR))(b2:Binds K fd2 ["table", "start", "more"] [])(k2:PySem.W.keepIn K (.ref f2)=true) :
  FnOk P w K mg base CX0 3 f fd ["board", "table", "start", "more", "number"] (Zh false Qjd):=by
 refine okQ false F Qa0 (λargs R EX h=>?_) (λcdv A outer s H E hr=>?_)
 ·obtain⟨h,w,cs,S,m,n,rfl,_⟩:=h;rfl
 ·have hU:=Room.u60 hr;have hI:=Room.i60 hr;refine⟨_,QF (Ze 5 (Zf G1 (hr.mono (by decide)) (by rfl) m1 k1 b1 Zr (Zm (qv 0) (Zm (qv 2) JB))) Qa0.nd)
   (QF (Ze 6 Q9 Qa0.nd)
   (QF (Ze 7 (Zf G2 (hr.mono (by decide)) (by rfl) m2 k2 b2 Zr (Zm (qv 1) (Zm (JD (ZD Zn Z4 (qp 2) (QM (QaS (ZR (Qay JP ZE (qp 5) (qp 6) (λ_ _=>rfl)) Jd))))) (Zm (qv 3) JB)))) Qa0.nd)
   (QF (Qpg JW (Qbe QtV QhQ (qp 4) (qp 7) (ZS _))
    (QF (Qmy 4 QwU QgD (qp 7) Qa0.nd)
   (QF (Qmy 6 Qnz QgD (Q3 Q9) Qa0.nd)
   (Ja (Ze 7 (Zf G2 (hr.mono (by decide)) (by rfl) m2 k2 b2 Zr (Zm (qv 1) (Zm (JD (ZD Zn Z4 (qp 2) (QM (QaS (ZR (Qay JP ZE (qp 5) (qp 6) (λ_ _=>rfl)) Jd))))) (Zm (qv 3) JB)))) Qa0.nd)))))
   (Ja (Qbn (QaS (ZR (Qay JP ZE (qp 5) (qp 6) (λ_ _=>rfl)) (ZR (qv 4) Jd)))))))),λargs R EX h=>?_⟩
  obtain⟨h,w,cs,S,m,n,rfl,g,st,hm,hn,hR⟩:=h;have en:xts cs (m+1) S=(fol cs S).flatMap λc=>xts cs m (S++[c]):=rfl
  rw[en] at hn hR;have lS:(S.map pairD).length=S.length:=Qh _;have sl:=Qgm g st;have h6:=g.bds.1;refine⟨_,_,_,_,rfl,?_⟩;have get:∀a,a<(fol cs S).length->((fol cs S).map pairD)[a]? = some (pairD ((fol cs S).getD a (0,0)))/\(fol cs S).getD a (0,0)∈fol cs S/\(fol cs S).drop a=(fol cs S).getD a (0,0)::(fol cs S).drop (a+1):=λa ha=>by
   have e:(fol cs S).getD a (0,0)=(fol cs S)[a]:=by rw[JE,Qf ha];rfl
   refine⟨by rw[QD,Qf ha,e];rfl,by rw[e];exact Qcl ha,by rw[e];exact Y8 ha⟩
  have l0:0<(fol cs S).length:=by
   cases e:fol cs S with
   |nil=>rw[e] at hn;exact absurd hn (Qu3 _)
   |cons a b=>rw[QU];omega
  have wy:∀(a:Nat)(ha:a<(fol cs S).length),Yd (S.map pairD++[pairD ((fol cs S).getD a (0,0))])=stT (S++[(fol cs S).getD a (0,0)]):=λa _=>by
   show _=Yd ((S++[(fol cs S).getD a (0,0)]).map pairD);rw[Jj];rfl
  refine⟨_,JM (get 0 l0).1,by rw[lS];show _+1<=_;omega,?_⟩;refine⟨h,w,cs,S++[(fol cs S).getD 0 (0,0)],m,by rw[wy 0 l0],g,QeU st (get 0 l0).2.1,by omega,?_⟩;refine Qva (λz δ=>∃a n2:Nat,z=(fol cs S).length - a/\a<(fol cs S).length/\δ=[.v (bdD h w cs),.v (.list (QiA cs h w h)),.v (stT S),.v (.int m),.v (.int n2),.v (.list ((fol cs S).map pairD)),.v (.int a),.v (.int ((xts cs m (S++[(fol cs S).getD a (0,0)])).length:Nat))]/\n2<(((fol cs S).drop a).flatMap λc=>xts cs m (S++[c])).length/\((fol cs S).flatMap λc=>xts cs m (S++[c]))[n]? = (((fol cs S).drop a).flatMap λc=>xts cs m (S++[c]))[n2]?) _ ⟨0,n,rfl,l0,rfl,hn,rfl⟩ ?_
  rintro z δ ⟨a,n2,rfl,ha,rfl,hn2,he⟩;obtain⟨g1,g2,g3⟩:=get a ha;rw[g3,ZY,Qq] at hn2;rw[g3,ZY] at he;refine ifC (λy=>?_) λy=>?_
  ·have y:((xts cs m (S++[(fol cs S).getD a (0,0)])).length:Int)<=(n2:Int):=of_decide_eq_true y;have ha2:a+1<(fol cs S).length:=by
    by_cases q:a+1<(fol cs S).length
    ·exact q
    ·rw[List.drop_eq_nil_of_le (by omega)] at hn2;exact absurd hn2 (by show ¬n2<_+0;omega)
   obtain⟨f1,f2,f3⟩:=get (a+1) ha2;refine⟨pairD ((fol cs S).getD (a+1) (0,0)),by rw[show(a:Int)+1=((a+1:Nat):Int) by omega];exact JM f1,by rw[lS];show _+1<=_;omega,?_⟩;refine⟨h,w,cs,S++[(fol cs S).getD (a+1) (0,0)],m,by rw[<- wy (a+1) ha2],g,QeU st f2,by omega,?_⟩;refine⟨(fol cs S).length - (a+1),by omega,a+1,n2 - (xts cs m (S++[(fol cs S).getD a (0,0)])).length,rfl,ha2,?_,by omega,?_⟩
   ·rw[show((n2 - (xts cs m (S++[(fol cs S).getD a (0,0)])).length:Nat):Int)=(n2:Int) - ((xts cs m (S++[(fol cs S).getD a (0,0)])).length:Int) by omega,show((a+1:Nat):Int)=(a:Int)+1 by omega];rfl
   ·rw[he,Ju (by omega)]
  ·have y:(n2:Int)<((xts cs m (S++[(fol cs S).getD a (0,0)])).length:Int):=by have:=of_decide_eq_false y;omega
   refine⟨_,JM g1,hR _ n2 g2 (by omega) ?_⟩;rw[he,J5 (by omega)]
theorem YY:Jx ["board", "size", "number", "table", "stand", "left", "more", "cell"] ["board", "size", "number"] (Qs Qcb):=⟨rfl,rfl,rfl,by decide +kernel,rfl,by decide +kernel,by decide +kernel⟩
theorem Qk1{f f1 f2 f3 f4 CN:Addr}{fd fd1 fd2 fd3 fd4:QL}{CS:Addr}(F:Fun K "stand_at" "stand_at" Qcb f fd)(T:GlbA mg)
  (m1:mg "refuse_no_size" = some (.ref f1))(G1:FnOk P w K mg base (Rx.CXE P w) 3 f1 fd1 ["board", "size"] (Zh false (Qmo CS)))(b1:Binds K fd1 ["board", "size"] [])(k1:PySem.W.keepIn K (.ref f1)=true)
  (m2:mg "ways_to_go_on" = some (.ref f2))(G2:FnOk P w K mg base CX0 2 f2 fd2 ["board"] (Zh true QlR))(b2:Binds K fd2 ["board"] [])(k2:PySem.W.keepIn K (.ref f2)=true)
  (m3:mg "is_whole_within" = some (.ref f3))(G3:FnOk P w K mg base CX0 2 f3 fd3 ["thing", "least", "most"] (Zh false QeA))(b3:Binds K fd3 ["thing", "least", "most"] [])(k3:PySem.W.keepIn K (.ref f3)=true)
  (m4:mg "cell_at" = some (.ref f4))(G4:FnOk P w K mg base CX0 3 f4 fd4 ["board", "table", "start", "more", "number"] (Zh false Qjd))(b4:Binds K fd4 ["board", "table", "start", "more", "number"] [])(k4:PySem.W.keepIn K (.ref f4)=true)
  (mCN:mg "NoNumber" = some (.ref CN))(qCN:PySem.W.excIn K CN Rx.mroV "ValueError.__new__" = true) :
  FnOk P w K mg base (Rx.CXE P w) 4 f fd ["board", "size", "number"] (Zh false (Qei CS CN)):=by
 refine QxT false F YY (λargs R EX h=>?_) (λcdv A outer s H E hr=>?_)
 ·obtain⟨h,w,cs,d,e,rfl,_⟩:=h;rfl
 ·have hU:=Room.u60 hr;have hI:=Room.i60 hr;refine⟨_,QF (Qtb (Q3 (Zf G1 (hr.mono (by decide)) (by rfl) m1 k1 b1 (Rx.QtS (E:=E) (λ_ _ h=>h) rfl rfl rfl) (Zm (qv 0) (Zm (qv 1) JB)))))
   (QF (Ze 3 (JD (YD G2 (hr.mono (by decide)) (by rfl) m2 k2 b2 Zr (Zm (qv 0) JB))) YY.nd)
   (QF (QbQ (Y1 (Y0 (Q3 (Zf G3 (hr.mono (by decide)) (by rfl) m3 k3 b3 Zr (Zm (qv 2) (Zm Q9 (Zm (JD (ZD Qcp Qb2 (Q3 (Qay JP ZE (Q3 (Qay JP ZE (Q3 (Qay JP ZE (qp 3) (Q3 Q9) (λ_ _=>rfl))) (Q3 Q9) (λ_ _=>rfl))) (qp 1) (λ_ _=>rfl))) (Q3 Q9))) JB))))))) (Ja (Qgv (λ_ _ h=>h) mCN qCN (Q3 Qd5))) Yf)
   (QF (Ze 4 (JD (QaS Jd)) YY.nd)
   (QF (Ze 5 (qv 2) YY.nd)
   (QF (Qr3 (QbO JW rfl (QmA (by rfl) T.reversed (by rfl) T.range (qp 1)) (ZP 6 YY.nd rfl (by first | exact QR rfl | exact Q2 rfl))
    (QF (Qmz (Zf G4 (hr.mono (by decide)) (by rfl) m4 k4 b4 Zr (Zm (qv 0) (Zm (qv 3) (Zm (qv 4) (Zm (qv 6) (Zm (qv 5) JB)))))) (Qbw rfl (Zq 7 (Zq 5 Qbx YY.nd rfl (by first | exact QR rfl | exact Q2 rfl)) YY.nd rfl (by first | exact QR rfl | exact Q2 rfl))))
   (Ja (Ze 4 (JD (ZD Zn Z4 (qp 4) (QM (QaS (ZR (qv 7) Jd))))) YY.nd)))))
   (Ja (Z7 (qv 4)))))))),λargs R EX h=>?_⟩
  obtain⟨h,w,cs,d,e,rfl,g,hS,hN,hR⟩:=h;refine⟨_,_,_,_,rfl,λha=>?_,hS⟩;obtain⟨k,rfl,hk⟩:=QgR ha;have h6:=g.bds.1;have w6:=g.bds.2.1;refine⟨_,_,_,rfl,h6,w6,g.bds.col,?_⟩;refine⟨_,JM (j:=0) (Qiz cs h w h),_,JM (j:=0) (QeD (Qhl w)),_,JM (Qb0 (show k<=h by omega)),?_⟩;refine⟨_,_,_,rfl,?_⟩;show if(!inW e 0 (Wc cs h h 0 k - 1))=true then _ else _
  rw[QnM g];cases hb:inW e 0 (((evS cs k).length:Int) - 1) with
  |false=>exact hN k rfl (by omega) hb
  |true=>
   obtain⟨n,rfl,hn⟩:=QgR hb;have hn:n<(evS cs k).length:=by omega
   obtain⟨L,eL⟩:∃L,(evS cs k)[n]? = some L:=⟨_,Qf hn⟩
   have hR:=hR k n L rfl rfl (by omega) eL;rw[<- QnK] at eL hn;refine⟨⟨by omega,by omega⟩,QaA (λi δ=>∃(S:List (Int×Int))(n2:Nat)(x6 x7:Sl),δ=[.v (bdD h w cs),.v (.int k),.v (.int n),.v (.list (QiA cs h w h)),.v (stT S),.v (.int n2),x6,x7]/\Std cs S/\S.length=i/\n2<(xts cs (k - i) S).length/\(xts cs (k - i) S)[n2]? = some L) ⟨[],n,_,_,rfl,.nil,rfl,hn,eL⟩ ?_ ?_⟩
   ·rintro i d δ hd ⟨S,n2,x6,x7,rfl,st,lS,hn2,e2⟩;obtain⟨hi,rfl⟩:=Qgs hd;rw[QN] at hi;have er:((((k:Nat):Int).toNat:Nat):Int) - 1 - (i:Int)=((k - i - 1:Nat):Int):=by omega
    rw[er];have ek:k - i=(k - i - 1)+1:=by omega
    rw[ek] at hn2 e2;refine⟨_,_,_,_,_,_,rfl,g,st,by omega,hn2,λc n3 hc hc3 ee3=>⟨rfl,?_⟩⟩;have es:stT (S++[c])=.tuple (S.map pairD++[pairD c]):=by unfold stT;rw[Jj];rfl
    refine⟨by rw[Qh];show _+1<=_;omega,S++[c],n3,.v (.int ((k - i - 1:Nat):Int)),.v (pairD c),by rw[es];rfl,QeU st hc,by rw[Qq,lS];rfl,?_,?_⟩
    ·rw[show k - (i+1)=k - i - 1 by omega];exact hc3
    ·rw[show k - (i+1)=k - i - 1 by omega,<- ee3];exact e2
   ·rintro δ ⟨S,n2,x6,x7,rfl,st,lS,hn2,e2⟩;rw[Qel,QN,QcO] at hn2 e2;have hn2:n2<1:=hn2;obtain rfl:n2=0:=by omega
    have e2:=Qw e2;rw[e2];exact hR
end
section
variable{P:QP}{w:JH}{K:PySem.W.Frag}{mg:Str->Option Value}{base:Zl}
theorem Qnm:(["other", "cell"]:List Str).Nodup:=by decide +kernel
theorem Qnl:(["other", "more", "start", "table"]:List Str).Nodup:=by decide +kernel
theorem QaQ:Jx ["board", "stand", "table", "number", "at", "cell", "start", "more", "lesser"] ["board", "stand"] (Qs QfD):=⟨rfl,rfl,rfl,by decide +kernel,rfl,by decide +kernel,by decide +kernel⟩
theorem Qp2{f f1 f2 f3 f4 CT:Addr}{fd fd1 fd2 fd3 fd4:QL}(F:Fun K "number_of" "number_of" QfD f fd)(T:GlbA mg)
  (m1:mg "is_stand" = some (.ref f1))(G1:FnOk P w K mg base CX0 5 f1 fd1 ["board", "thing"] (Zh false Ql5))(b1:Binds K fd1 ["board", "thing"] [])(k1:PySem.W.keepIn K (.ref f1)=true)
  (m2:mg "ways_to_go_on" = some (.ref f2))(G2:FnOk P w K mg base CX0 2 f2 fd2 ["board"] (Zh true QlR))(b2:Binds K fd2 ["board"] [])(k2:PySem.W.keepIn K (.ref f2)=true)
  (m3:mg "followers" = some (.ref f3))(G3:FnOk P w K mg base CX0 2 f3 fd3 ["board", "start"] (Zh false QxU))(b3:Binds K fd3 ["board", "start"] [])(k3:PySem.W.keepIn K (.ref f3)=true)
  (m4:mg "ways_behind" = some (.ref f4))(G4:FnOk P w K mg base CX0 2 f4 fd4 ["table", "start", "more"] (Zh false QoR))(b4:Binds K fd4 ["table", "start", "more"] [])(k4:PySem.W.keepIn K (.ref f4)=true)
  (mCT:mg "NoStand" = some (.ref CT))(qCT:PySem.W.excIn K CT Rx.mroV "ValueError.__new__" = true) :
  FnOk P w K mg base (Rx.CXE P w) 6 f fd ["board", "stand"] (Zh false (QhR CT)):=by
 refine QxT false F QaQ (λargs R EX h=>?_) (λcdv A outer s H E hr=>?_)
 ·obtain⟨h,w,cs,d,rfl,_⟩:=h;rfl
 ·have hU:=Room.u60 hr;have hI:=Room.i60 hr;refine⟨_,QF (QbQ (Y1 (Y0 (Q3 (Zf G1 (hr.mono (by decide)) (by rfl) m1 k1 b1 Zr (Zm (qv 0) (Zm (qv 1) JB)))))) (Ja (Qgv (λ_ _ h=>h) mCT qCT (Q3 Qd5))) Yf)
   (QF (Ze 2 (JD (YD G2 (hr.mono (by decide)) (by rfl) m2 k2 b2 Zr (Zm (qv 0) JB))) QaQ.nd)
   (QF (Ze 3 Q9 QaQ.nd)
   (QF (Qr3 (QbO JW rfl (Qph (by rfl) T.enumerate (qv 1)) (Qbw rfl (Zq 4 (Zq 5 Qbx QaQ.nd rfl (by first | exact QR rfl | exact Q2 rfl)) QaQ.nd rfl (by first | exact QR rfl | exact Q2 rfl)))
    (QF (Ze 6 (JD (Qdv (qp 1) Qdu (Qdt (qp 4)))) QaQ.nd)
   (QF (Ze 7 (JD (ZD Qcp Qb2 (QM (ZD Qcp Qb2 (QM (Zj ZG QaB (by rfl) T.len YC (QbR (qp 1) Jd))) (qp 4))) (Q3 Q9))) QaQ.nd)
   (QF (QeK ["other", "cell"] [none,some 5] 8 QaQ.nd (QbG (Q3 (Zf G3 (hr.mono (by decide)) (by rfl) m3 k3 b3 Zr (Zm (qv 0) (Zm (qv 6) JB))))) (λcl ex s3 H3 C=>⟨(ZP 0 Qnm rfl (QR rfl) (Q2 rfl)),(Qds (Qbe (QmY hU) Qnf (qp 0) (qp 1) (ZS _))),(qv 0)⟩))
   (Ja (Qmy 3 Qnz QgD (QM (Zj (Qh4 rfl) Qsy (by rfl) T.sum Qsz (QbR (QM (Qao ["other", "more", "start", "table"] [none,some 7,some 6,some 2] (QbG (qp 8)) (λcl ex s3 H3 C=>⟨(ZP 0 Qnl rfl (QR rfl) (Q2 rfl)),Yq,(Zf G4 (hr.mono (by decide)) (by rfl) m4 k4 b4 Zr (Zm (qv 3) (Zm (JD (ZD Zn Z4 (qp 2) (QM (QaS (ZR (qv 0) Jd))))) (Zm (qv 1) JB))))⟩))) Jd))) QaQ.nd)))))))
   (Ja (Z7 (qv 3)))))),λargs R EX h=>?_⟩
  obtain⟨h,w,cs,d,rfl,g,hs,hX,hR⟩:=h;refine⟨_,_,_,_,rfl,hs,?_⟩;have h6:=g.bds.1;have w6:=g.bds.2.1;show if(!QfV h w cs d)=true then _ else _
  cases hb:QfV h w cs d with
  |false=>exact hX hb
  |true=>
   obtain⟨L,rfl,st⟩:=Qvt hb;have hR:=hR L rfl st;have sl:=Qgm g st;have lL:(L.map pairD).length=L.length:=Qh _;refine⟨_,_,_,rfl,h6,w6,g.bds.col,?_⟩;refine QaA (λa δ=>∃x4 x5 x6 x7 x8,δ=[.v (bdD h w cs),.v (stT L),.v (.list (QiA cs h w h)),.v (.int (numN cs L L.length a:Nat)),x4,x5,x6,x7,x8]) ⟨_,_,_,_,_,rfl⟩ ?_ ?_
   ·rintro a d δ hd ⟨x4,x5,x6,x7,x8,rfl⟩;obtain⟨e,he,rfl⟩:=Qes hd;have ha:a<L.length:=by rw[<- lL];exact(Qx.mp he).1
    have ee:e=pairD (L.getD a (0,0)):=by
     rw[QD,Qf ha] at he;rw[JE,Qf ha];exact(Qw he).symm
    subst ee;have ct:Dl.cutD (L.map pairD) none (some (a:Int))=(L.take a).map pairD:=by rw[Qkh _ _ (Qeu a),QN,<- Qjm]
    have st1:=QjA st a;have sd:((fol cs (L.take a)).filter λo=>decide (plt o (L.getD a (0,0)))).Pairwise plt:=JV _ (JV _ g.srt);refine⟨rfl,h,w,cs,L.take a,by show[Sl.v _,Sl.v (.tuple (Dl.cutD (L.map pairD) none (some (a:Int))))]=_;rw[ct];rfl,?_⟩;refine Qlj (λd=>if(λo:Int×Int=>decide (plt o (L.getD a (0,0)))) (toP d)=true then some d else none) (λd hd k1 k2 h1 h2=>?_) ?_
    ·obtain⟨o,_,rfl⟩:=Qy.mp hd;have h1:(if decide (plt o (L.getD a (0,0)))=true then some (pairD o) else none)=none->k1:=h1;have h2:∀e,(if decide (plt o (L.getD a (0,0)))=true then some (pairD o) else none)=some e->k2 e:=h2
     have q:=Qb7 [o,L.getD a (0,0)];have m1:pairD o∈[o,L.getD a (0,0)].map pairD:=.head _;have m2:pairD (L.getD a (0,0))∈[o,L.getD a (0,0)].map pairD:=.tail _ (.head _);refine⟨⟨(q _ m1).1,(q _ m2).1,(q _ m1).2.2 _ m2,(q _ m1).2.1⟩,?_⟩;show if ltD (pairD o) (pairD (L.getD a (0,0)))=true then k2 (pairD o) else k1
     rw[QgK];by_cases z:decide (plt o (L.getD a (0,0)))=true
     ·rw[if_pos z];exact h2 _ (if_pos z)
     ·rw[if_neg z];exact h1 (if_neg z)
    ·rw[Qj9 (λo:Int×Int=>decide (plt o (L.getD a (0,0))))];refine Qah (λd=>.int ((xts cs (L.length - a - 1) (L.take a++[toP d])).length:Nat)) (λd hd k2 hk=>?_) ?_
     ·obtain⟨o,ho,rfl⟩:=Qy.mp hd;have ho:=(Ji.mp ho).1;refine⟨by show(Dl.cutD (L.map pairD) none (some (a:Int))).length+1<=_;rw[ct,Qh,Zi];omega,h,w,cs,L.take a++[o],L.length - a - 1,?_,g,QeU st1 ho,by omega,hk⟩;show[Sl.v _,Sl.v (.tuple (Dl.cutD (L.map pairD) none (some (a:Int))++[pairD o])),Sl.v (.int (((L.map pairD).length:Int) - (a:Int) - 1))]=_;rw[ct,lL,show(L.length:Int) - (a:Int) - 1=((L.length - a - 1:Nat):Int) by omega];show _=[Sl.v _,Sl.v (.tuple ((L.take a++[o]).map pairD)),Sl.v _];rw[Jj];rfl
     ·have es:(((fol cs (L.take a)).filter λo=>decide (plt o (L.getD a (0,0)))).map pairD).map (λd=>Q7 ((xts cs (L.length - a - 1) (L.take a++[toP d])).length:Nat))=(((fol cs (L.take a)).filter λo=>decide (plt o (L.getD a (0,0)))).map λo=>((xts cs (L.length - a - 1) (L.take a++[o])).length:Int)).map Q7:=by rw[Jt,Jt];rfl
      rw[es];refine Ql1 _ rfl ?_
      rw[Qvr,<- QgQ];exact⟨_,_,_,_,_,rfl⟩
   ·rintro δ ⟨x4,x5,x6,x7,x8,rfl⟩;rw[Qcg,lL];exact hR
theorem QiG:Jx ["board", "stand", "number", "size"] ["board", "stand"] (Qs QkP):=⟨rfl,rfl,rfl,by decide +kernel,rfl,by decide +kernel,by decide +kernel⟩
theorem Qt5{f f1 f2 f3  : Addr}{fd fd1 fd2 fd3:QL}{CT CS CN:Addr}(F:Fun K "next_stand" "next_stand" QkP f fd)(T:GlbA mg)
  (m1:mg "number_of" = some (.ref f1))(G1:FnOk P w K mg base (Rx.CXE P w) 6 f1 fd1 ["board", "stand"] (Zh false (QhR CT)))(b1:Binds K fd1 ["board", "stand"] [])(k1:PySem.W.keepIn K (.ref f1)=true)
  (m2:mg "counts" = some (.ref f2))(G2:FnOk P w K mg base CX0 3 f2 fd2 ["board"] (Zh true Qi9))(b2:Binds K fd2 ["board"] [])(k2:PySem.W.keepIn K (.ref f2)=true)
  (m3:mg "stand_at" = some (.ref f3))(G3:FnOk P w K mg base (Rx.CXE P w) 4 f3 fd3 ["board", "size", "number"] (Zh false (Qei CS CN)))(b3:Binds K fd3 ["board", "size", "number"] [])(k3:PySem.W.keepIn K (.ref f3)=true) :
  FnOk P w K mg base (Rx.CXE P w) 7 f fd ["board", "stand"] (Zh false (Qp8 CT)):=by
 refine QxT false F QiG (λargs R EX h=>?_) (λcdv A outer s H E hr=>?_)
 ·obtain⟨h,w,cs,d,rfl,_⟩:=h;rfl
 ·have hU:=Room.u60 hr;have hI:=Room.i60 hr;refine⟨_,QF (Ze 2 (JD (ZD Zn Z4 (Q3 (Zf G1 (hr.mono (by decide)) (by rfl) m1 k1 b1 (Rx.QtS (E:=E) (λ_ _ h=>h) rfl rfl rfl) (Zm (qv 0) (Zm (qv 1) JB)))) (Q3 Q9))) QiG.nd)
   (QF (Ze 3 (JD (Zj ZG QaB (by rfl) T.len YC (QbR (qp 1) Jd))) QiG.nd)
   (QF (QbQ (Qbe Qc0 (QgF hU) (qp 2) (Q3 (Qay JP ZE (QM (YD G2 (hr.mono (by decide)) (by rfl) m2 k2 b2 Zr (Zm (qv 0) JB))) (qp 3) (λ_ _=>rfl))) (ZS _)) (Ja (Z7 QkS)) Yf)
   (Ja (Z7 (Zf G3 (hr.mono (by decide)) (by rfl) m3 k3 b3 (Rx.QtS (E:=E) (λ_ _ h=>h) rfl rfl rfl) (Zm (qv 0) (Zm (qv 3) (Zm (qv 2) JB)))))))),λargs R EX h=>?_⟩
  obtain⟨h,w,cs,d,rfl,g,hs,hX,hR⟩:=h;refine⟨_,_,_,_,rfl,g,hs,hX,λL ed st=>?_⟩;subst ed;have hR:=hR L rfl st;have sl:=Qgm g st;have h6:=g.bds.1;have w6:=g.bds.2.1;have lL:(L.map pairD).length=L.length:=Qh _;have na:=Qsi g st;have nl:=(Qx.mp na).1;refine⟨_,_,_,rfl,h6,w6,g.bds.col,.int (Wc cs h h 0 L.length),?_,?_⟩
  ·show atI (QuX cs h w) (((L.map pairD).length:Nat):Int)=_;rw[lL];exact JM (by unfold QuX;rw[QD,Zk (by omega)];rfl)
  ·rw[QnM g];refine ifC (λz=>?_) λz=>?_
   ·have z:((numN cs L L.length L.length:Nat):Int)+1=((evS cs L.length).length:Int):=of_decide_eq_true z;unfold QoC at hR;rw[Jn (by omega)] at hR;exact hR
   ·have z:¬((numN cs L L.length L.length:Nat):Int)+1=((evS cs L.length).length:Int):=of_decide_eq_false z;have hn:numN cs L L.length L.length+1<(evS cs L.length).length:=by omega
    obtain⟨M,eM⟩:∃M,(evS cs L.length)[numN cs L L.length L.length+1]? = some M:=⟨_,Qf hn⟩
    unfold QoC at hR;rw[eM] at hR;refine⟨h,w,cs,.int (L.length:Nat),.int ((numN cs L L.length L.length+1:Nat):Int),?_,g,λq=>?_,λk ek hk q=>?_,λk n M2 ek en hk q=>?_⟩
    ·show[Sl.v _,Sl.v (.int (((L.map pairD).length:Nat):Int)),Sl.v (.int (((numN cs L L.length L.length:Nat):Int)+1))]=_;rw[lL,show((numN cs L L.length L.length:Nat):Int)+1=((numN cs L L.length L.length+1:Nat):Int) by omega]
    ·rw[QhX (by omega) (by omega)] at q;cases q
    ·have ek:L.length=k:=Qf9 (Qck ek);subst ek;rw[QhX (by omega) (by omega)] at q;cases q
    ·have ek:L.length=k:=Qf9 (Qck ek);have en:numN cs L L.length L.length+1=n:=Qf9 (Qck en);subst ek;rw[<- en,eM] at q;cases q;exact hR
end
section
variable{P:QP}{w:JH}{K:PySem.W.Frag}{mg:Str->Option Value}{base:Zl}
theorem Qme:Jx ["_law_thing"] ["_law_thing"] (Qs QdV):=⟨rfl,rfl,rfl,by decide +kernel,rfl,by decide +kernel,by decide +kernel⟩
theorem Qm7{f   : Addr}{fd  : QL}(F:Fun K "_law_whole" "_law_whole" QdV f fd)(T:GlbA mg) :
  FnOk P w K mg base CX0 1 f fd ["_law_thing"] (Zh false Qfu):=by
 refine okQ false F Qme (λargs R EX h=>?_) (λcdv A outer s H E hr=>?_)
 ·obtain⟨d,rfl,_⟩:=h;rfl
 ·have hU:=Room.u60 hr;have hI:=Room.i60 hr;refine⟨_,Ja (Z7 (QhE (QM (Qco .int (by rfl) T.isinstance (qp 0) (by rfl) T.int Qkp)) (QhC (QvP (QM (Qco .bool (by rfl) T.isinstance (qp 0) (by rfl) T.bool QcB)))))),λargs R EX h=>?_⟩;obtain⟨d,rfl,hR⟩:=h;cases d<;>exact hR
theorem YL:Jx ["_law_pot_here", "_law_most", "_law_high", "_law_wide", "_law_way", "_law_thick", "_law_cells", "_law_row", "_law_column", "_law_drawn", "_law_some"] ["_law_pot_here", "_law_most"] (Qs QfU):=⟨rfl,rfl,rfl,by decide +kernel,rfl,by decide +kernel,by decide +kernel⟩
theorem Qna{f f1  : Addr}{fd fd1:QL}(F:Fun K "_law_board" "_law_board" QfU f fd)(T:GlbA mg)
  (m1:mg "_law_take" = some (.ref f1))(G1:FnOk P w K mg base CX0 1 f1 fd1 ["_law_pot_here", "_law_far"] (Zh true Qiy))(b1:Binds K fd1 ["_law_pot_here", "_law_far"] [])(k1:PySem.W.keepIn K (.ref f1)=true) :
  FnOk P w K mg base CX0 2 f fd ["_law_pot_here", "_law_most"] (Zh false Qi3):=by
 refine okQ false F YL (λargs R EX h=>?_) (λcdv A outer s H E hr=>?_)
 ·obtain⟨m,rfl,_⟩:=h;rfl
 ·have hU:=Room.u60 hr;have hI:=Room.i60 hr;refine⟨_,QF (Ze 2 (JD (ZD Zn Z4 (Q3 Q9) (QM (YD G1 (hr.mono (by decide)) (by rfl) m1 k1 b1 Zr (Qa1 0 (Zm (qv 1) JB)))))) YL.nd)
   (QF (Ze 3 (JD (ZD Zn Z4 (Q3 Q9) (QM (YD G1 (hr.mono (by decide)) (by rfl) m1 k1 b1 Zr (Qa1 0 (Zm (qv 1) JB)))))) YL.nd)
   (QF (Ze 4 (JD (YD G1 (hr.mono (by decide)) (by rfl) m1 k1 b1 Zr (Qa1 0 (Zm Q9 JB)))) YL.nd)
   (QF (Ze 5 (JD (ZD Zn Z4 (Q3 Q9) (QM (YD G1 (hr.mono (by decide)) (by rfl) m1 k1 b1 Zr (Qa1 0 (Zm Q9 JB)))))) YL.nd)
   (QF (Qgu 6 (Qbo Jd) YL.nd)
   (QF (QbO JW rfl (Qcv (by rfl) T.range (qp 2)) (ZP 7 YL.nd rfl (by first | exact QR rfl | exact Q2 rfl))
    (Ja (QbO JW rfl (Qcv (by rfl) T.range (qp 3)) (ZP 8 YL.nd rfl (by first | exact QR rfl | exact Q2 rfl))
    (QF (Ze 9 (JD (Qd6 QkY QhQ (QM (YD G1 (hr.mono (by decide)) (by rfl) m1 k1 b1 Zr (Qa1 0 (Zm Q9 JB)))) (qp 5) (ZS _))) YL.nd)
   (QF (Ze 10 (JD (ZD Zn Z4 (QM (ZD QgC QjV (QM (Qbo (ZR (qv 9) Jd))) (Q3 Q9))) (QM (Qbo (ZR QfH (ZR QfH (ZR (JD (Qd6 QkY QhQ (qp 8) (qp 7) (ZS _))) (ZR (JD (Qd6 Qc0 (QgF hU) (QM (ZD QhO QgE (QM (ZD Zn Z4 (qp 7) (qp 8))) (Q3 Q9))) (Q3 Q9) (ZS _))) (ZR (JD (Qd6 QkZ QhQ (qp 7) (qp 8) (ZS _))) Jd))))))))) YL.nd)
   (Ja (QbQ (Qmw (Q3 (Qay JP ZE (qp 10) (qp 4) (λ_ _=>rfl)))) (Ja (QvO 6 (JD (QaS (ZR (qv 7) (ZR (qv 8) Jd)))))) Yf)))))))
   (Ja (Qbn (QaS (ZR (qv 2) (ZR (qv 3) (ZR (JD (Qgx Qfo QrC (by rfl) T.tuple Qbj (QbR (qp 6) Jd))) Jd))))))))))),λargs R EX h=>?_⟩
  obtain⟨m,rfl,m1,m6,hR⟩:=h;refine⟨_,rfl,by omega,by omega,λrh rh0 rh1=>⟨_,rfl,by omega,by omega,λrw0 rw1 rw2=>?_⟩⟩;refine⟨_,rfl,by decide,by decide,λway way0 way1=>⟨_,rfl,by decide,by decide,λth th0 th1=>?_⟩⟩;obtain⟨h,hh⟩:∃h:Nat,(h:Int)=1+rh:=⟨(1+rh).toNat,by omega⟩
  obtain⟨w,hw⟩:∃w:Nat,(w:Int)=1+rw0:=⟨(1+rw0).toNat,by omega⟩
  rw[<- hh,<- hw];refine⟨⟨by omega,by omega⟩,QgS (λi δ=>∃f ds x1 x2 x3 x4,δ=[.pot,.v (.int m),.v (.int h),.v (.int w),.v (.int way),.v (.int (1+th)),.own ds,x1,x2,x3,x4]/\ds=(cellsF i w f).map pairD) ⟨λ_ _=>false,_,_,_,_,_,rfl,rfl⟩ ?_ ?_⟩
  ·rintro i δ hi ⟨f,ds,x1,x2,x3,x4,rfl,rfl⟩;refine⟨⟨by omega,by omega⟩,QgS (λj δ=>∃f ds x2 x3 x4,δ=[.pot,.v (.int m),.v (.int h),.v (.int w),.v (.int way),.v (.int (1+th)),.own ds,.v (.int (0+(i:Int))),x2,x3,x4]/\ds=(cellsF i w f++Qd4 i j f).map pairD) ⟨f,_,_,_,_,rfl,by rw[show Qd4 i 0 f=[] from rfl,Je]⟩ ?_ ?_⟩
   ·rintro j δ hj ⟨f,ds,x2,x3,x4,rfl,rfl⟩;refine⟨_,rfl,by decide,by decide,λdr dr0 dr1=>?_⟩;refine⟨⟨by decide,by decide,by show 1*5<=_;decide⟩,by show(0:Int)<2;decide,by show 5+5<=_;decide,?_⟩;refine Qld way0 (by show way<10;exact way1) λd hd=>?_
    obtain⟨b,rfl⟩:∃b,d=.bool b:=Jl (p:=λd=>∃b,d=Ye b) ⟨_,rfl⟩ (Jl ⟨_,rfl⟩ (Jl ⟨_,rfl⟩ (Jl ⟨_,rfl⟩ (Jl ⟨_,rfl⟩ (Jl ⟨_,rfl⟩ (Jl ⟨_,rfl⟩ (Jl ⟨_,rfl⟩ (Jl ⟨_,rfl⟩ (Jl ⟨_,rfl⟩ Qfb))))))))) d hd
    refine⟨trivial,?_⟩;have ec:cellsF i w (QsR f i j b)++Qd4 i (j+1) (QsR f i j b)=cellsF i w f++Qd4 i j f++(if b=true then[((i:Int),(j:Int))] else[]):=by
     rw[Qlk (Ql _),Qmm,Qpa (Ql _),<- QZ,show QsR f i j b i j=b from if_pos ⟨rfl,rfl⟩]
    cases b with
    |false=>
     refine⟨QsR f i j false,_,_,_,_,rfl,?_⟩;rw[ec,if_neg (by decide),Je]
    |true=>
     have l1:=QdK w f i;have l2:=Qgr i j f;have l3:i*w<=6*6:=QxG (by omega) (by omega);refine⟨by rw[Qh,Qq];omega,QsR f i j true,_,_,_,_,rfl,?_⟩;rw[ec,if_pos rfl,Jj (l₁:=cellsF i w f++Qd4 i j f),show(0:Int)+(i:Int)=(i:Int) by omega,show(0:Int)+(j:Int)=(j:Int) by omega];rfl
   ·rintro δ ⟨f,ds,x2,x3,x4,rfl,rfl⟩;exact⟨f,_,_,_,_,_,rfl,by rw[Qar,QN]⟩
  ·rintro δ ⟨f,ds,x1,x2,x3,x4,rfl,rfl⟩;rw[QN];exact hR h w f (by omega) (by omega) (by omega) (by omega)
theorem Qk3:(["_law_cell", "_law_row"]:List Str).Nodup:=by decide +kernel
theorem QfN:(["_law_line", "_law_column"]:List Str).Nodup:=by decide +kernel
theorem Qk2:(["_law_cell", "_law_columns", "_law_stand"]:List Str).Nodup:=by decide +kernel
theorem Qax:Jx ["_law_board_here", "_law_found", "_law_row", "_law_cells", "_law_more", "_law_stand", "_law_columns"] ["_law_board_here"] (Qs QdA):=⟨rfl,rfl,rfl,by decide +kernel,rfl,by decide +kernel,by decide +kernel⟩
theorem Qm3{f   : Addr}{fd  : QL}(F:Fun K "_law_stands" "_law_stands" QdA f fd)(T:GlbA mg) :
  FnOk P w K mg base CX0 2 f fd ["_law_board_here"] (Zh false QgM):=by
 refine okQ false F Qax (λargs R EX h=>?_) (λcdv A outer s H E hr=>?_)
 ·obtain⟨h,w,cs,rfl,_⟩:=h;rfl
 ·have hU:=Room.u60 hr;have hI:=Room.i60 hr;refine⟨_,QF (Ze 1 (JD (Qbo (ZR (JD (QaS Jd)) Jd))) Qax.nd)
   (QF (QbO JW rfl (Qcv (by rfl) T.range (Q3 (Qay JP ZE (qp 0) (Q3 Q9) (λ_ _=>rfl)))) (ZP 2 Qax.nd rfl (by first | exact QR rfl | exact Q2 rfl))
    (QF (QeK ["_law_cell", "_law_row"] [none,some 2] 3 Qax.nd (Qbf (Q3 (Qay JP ZE (qp 0) (Q3 Q9) (λ_ _=>rfl)))) (λcl ex s3 H3 C=>⟨(ZP 0 Qk3 rfl (QR rfl) (Q2 rfl)),(Qds (Qbe Qc0 (QgF hU) (Q3 (Qay JP ZE (qp 0) (Q3 Q9) (λ_ _=>rfl))) (qp 1) (ZS _))),(qv 0)⟩))
   (QF (Qgu 4 (Qbo Jd) Qax.nd)
   (QF (QbO JW rfl (QbG (qv 1)) (ZP 5 Qax.nd rfl (by first | exact QR rfl | exact Q2 rfl))
    (QF (Ze 6 (JD (Qao ["_law_line", "_law_column"] [none,none] (Qbf (qp 5)) (λcl ex s3 H3 C=>⟨(Qbw rfl (Zq 0 (Zq 1 Qbx QfN rfl (QR rfl) (Q2 rfl)) QfN rfl (QR rfl) (Q2 rfl))),Yq,(qv 1)⟩))) Qax.nd)
   (Ja (QvN 4 (QM (Qao ["_law_cell", "_law_columns", "_law_stand"] [none,some 6,some 5] (QbG (qp 3)) (λcl ex s3 H3 C=>⟨(ZP 0 Qk2 rfl (QR rfl) (Q2 rfl)),(Qds (Qbe QhN (Qng hI) (Q3 (Qay JP ZE (qp 0) (Q3 Q9) (λ_ _=>rfl))) (qp 1) (by rfl))),(JD (ZD Zn Z4 (qp 2) (QM (QaS (ZR (qv 0) Jd)))))⟩)))))))
   (Ja (Ze 1 (JD (ZD Zn Z4 (qp 1) (qp 4))) Qax.nd))))))
   (Ja (Qbn (Zj (Qll hU) QrD (by rfl) T.sorted Qof (QbR (qp 1) Jd))))),λargs R EX h=>?_⟩
  obtain⟨h,w,cs,rfl,h6,hr,hR⟩:=h;refine⟨_,JM (j:=0) rfl,⟨by omega,by omega⟩,QgS (λi δ=>∃x1 x2 x3 x4 x5 x6,δ=[.v (bdD h w cs),x1,x2,x3,x4,x5,x6]/\x1=.v (.list ((stsN cs i).map stT))) ⟨_,_,_,_,_,_,rfl,rfl⟩ ?_ ?_⟩
  ·rintro i δ hi ⟨x1,x2,x3,x4,x5,x6,rfl,rfl⟩;rw[QN] at hi;have b1:=Qgl hr i;have b2:=QAt (i:=i) (by omega);refine⟨_,JM (j:=2) rfl,Qlj (λd=>if(toP d).1=(i:Int) then some d else none) (λd hd k1 k2 hk1 hk2=>?_) ?_⟩
   ·obtain⟨p,_,rfl⟩:=Qy.mp hd;refine⟨_,JM (j:=0) rfl,?_⟩;have hk1:(if p.1=(i:Int) then some (pairD p) else none)=none->k1:=hk1;have hk2:∀e,(if p.1=(i:Int) then some (pairD p) else none)=some e->k2 e:=hk2
    show if decide (p.1=0+(i:Int))=true then k2 (pairD p) else k1
    rw[show(0:Int)+(i:Int)=(i:Int) by omega];by_cases z:p.1=(i:Int)
    ·rw[if_pos (decide_eq_true z)];exact hk2 _ (if_pos z)
    ·rw[if_neg (by simpa using z)];exact hk1 (if_neg z)
   ·rw[QvB];refine QaA (λj δ=>∃ds x5 x6,δ=[.v (bdD h w cs),.v (.list ((stsN cs i).map stT)),.v (.int (0+(i:Int))),.v (.list ((Qcm cs i).map pairD)),.own ds,x5,x6]/\ds=(((stsN cs i).take j).flatMap (Qd7 (Qcm cs i))).map stT) ⟨_,_,_,rfl,rfl⟩ ?_ ?_
    ·rintro j d δ hd ⟨ds,x5,x6,rfl,rfl⟩;rw[QD] at hd;obtain⟨L,eL,rfl⟩:∃L,(stsN cs i)[j]? = some L/\d=stT L:=by
      cases e:(stsN cs i)[j]? with
      |none=>rw[e] at hd;cases hd
      |some L=>rw[e] at hd;cases hd;exact⟨L,rfl,rfl⟩
     refine Qah (λd=>.int (toP d).2) (λd hd k2 hk=>?_) ?_
     ·obtain⟨p,_,rfl⟩:=Qy.mp hd;exact⟨rfl,hk⟩
     ·rw[show(L.map pairD).map (λd=>Q7 (toP d).2)=(L.map (·.2)).map Q7 by rw[Jt,Jt];rfl];have lL:=QcX i L (QV eL);refine Qlj (λd=>if(toP d).2∈L.map (·.2) then none else some (.tuple (L.map pairD++[d]))) (λd hd k1 k2 hk1 hk2=>?_) ?_
      ·obtain⟨p,_,rfl⟩:=Qy.mp hd;have hk1:(if p.2∈L.map (·.2) then none else some (Yd (L.map pairD++[pairD p])))=none->k1:=hk1;have hk2:∀e,(if p.2∈L.map (·.2) then none else some (Yd (L.map pairD++[pairD p])))=some e->k2 e:=hk2
       refine⟨_,JM (j:=1) rfl,⟨QjX _,rfl,by show Jp (.int _)<=50;unfold Jp;decide⟩,?_⟩;show if(!((L.map (·.2)).map Q7).any λe=>Q6 e (.int p.2))=true then _ else k1
       rw[Qoq];by_cases z:p.2∈L.map (·.2)
       ·rw[if_neg (by simpa using z)];exact hk1 (if_pos z)
       ·rw[if_pos (by simpa using z)];exact⟨by rw[Qh];show _+1<=_;omega,hk2 _ (if_neg z)⟩
      ·rw[Qw2];have c1:((stsN cs i).take (j+1)).flatMap (Qd7 (Qcm cs i))=((stsN cs i).take j).flatMap (Qd7 (Qcm cs i))++Qd7 (Qcm cs i) L:=by
        rw[QaJ,eL,QdP];simp
       have c2:=Qeq (xs:=(stsN cs i).take (j+1)) (f:=Qd7 (Qcm cs i)) (k:=6) λL _=>QQ (QgT (Qcm cs i) L) (hr i)
       rw[c1,Qq] at c2;have c3:((stsN cs i).take (j+1)).length<=(stsN cs i).length:=List.length_take_le' _ _;have c4:((stsN cs i).take (j+1)).length*6<=7^i*6:=Qde 6 (QQ c3 b1);refine⟨by rw[Qh,Qh];omega,_,_,_,rfl,?_⟩;rw[c1,Jj]
    ·rintro δ ⟨ds,x5,x6,rfl,rfl⟩;rw[Qh,Ym];have c2:=Qeq (xs:=stsN cs i) (f:=Qd7 (Qcm cs i)) (k:=6) λL _=>QQ (QgT (Qcm cs i) L) (hr i)
     have c4:(stsN cs i).length*6<=7^i*6:=Qde 6 b1;refine⟨by rw[Qh,Qh];omega,_,_,_,_,_,_,rfl,?_⟩;show Sl.v (.list ((stsN cs i).map stT++((stsN cs i).flatMap (Qd7 (Qcm cs i))).map stT))=.v (.list ((stsN cs i++(stsN cs i).flatMap (Qd7 (Qcm cs i))).map stT));rw[Jj]
  ·rintro δ ⟨x1,x2,x3,x4,x5,x6,rfl,rfl⟩;rw[QN];refine(Qo0 (QeG (stsN cs h)) λes pm pw=>?_).1;obtain⟨Ls,p2,rfl⟩:=QdU stT pm rfl;exact hR Ls p2 pw
theorem Qr1:Jx ["_law_pot_here", "_law_some"] ["_law_pot_here"] (Qs lOdd):=⟨rfl,rfl,rfl,by decide +kernel,rfl,by decide +kernel,by decide +kernel⟩
theorem Qwv{f f1  : Addr}{fd fd1:QL}(F:Fun K "_law_odd" "_law_odd" lOdd f fd)(T:GlbA mg)
  (m1:mg "_law_take" = some (.ref f1))(G1:FnOk P w K mg base CX0 1 f1 fd1 ["_law_pot_here", "_law_far"] (Zh true Qiy))(b1:Binds K fd1 ["_law_pot_here", "_law_far"] [])(k1:PySem.W.keepIn K (.ref f1)=true) :
  FnOk P w K mg base CX0 2 f fd ["_law_pot_here"] (Zh false Qrh):=by
 refine okQ false F Qr1 (λargs R EX h=>?_) (λcdv A outer s H E hr=>?_)
 ·obtain⟨rfl,_⟩:=h;rfl
 ·have hU:=Room.u60 hr;have hI:=Room.i60 hr;refine⟨_,QF (Ze 1 (JD (Qbo (ZR QkS (ZR QfH (ZR QfH (ZR (JD (QhD (Q3 Q9))) (ZR Q9 (ZR (JD (ZD QhM QgE (Q3 Q9) (Q3 Q9))) (ZR Qd5 (ZR Qd5 (ZR Qd5 (ZR (JD (QaS Jd)) (ZR (JD (QaS (ZR Q9 Jd))) (ZR (JD (QaS (ZR Q9 (ZR Q9 Jd)))) (ZR (JD (Qbo (ZR Q9 Jd))) (ZR QyL (ZR (JD (QaS (ZR (JD (QaS (ZR Q9 (ZR Q9 Jd)))) Jd))) (ZR (JD (Qbo (ZR (JD (QaS (ZR Q9 (ZR Q9 Jd)))) Jd))) Jd)))))))))))))))))) Qr1.nd)
   (Ja (Z7 (Qay JP ZE (qp 1) (QM (YD G1 (hr.mono (by decide)) (by rfl) m1 k1 b1 Zr (Qa1 0 (Zm Q9 JB)))) (λ_ _=>rfl)))),λargs R EX h=>?_⟩
  obtain⟨rfl,hR⟩:=h;refine⟨⟨by decide,by decide,by decide⟩,_,rfl,by decide,by decide,λr r0 r1=>Qld r0 r1 λd hd=>hR d ?_⟩;exact Jl (p:=QaM) (ZA rfl) (Jl (ZA rfl) (Jl (ZA rfl) (Jl (ZA rfl) (Jl (ZA rfl) (Jl (ZA rfl) (Jl (ZA rfl) (Jl (ZA rfl) (Jl (ZA rfl) (Jl (QeH (by decide)) (Jl (QeH (by decide)) (Jl (QeH (by decide)) (Jl (ZA rfl) (Jl (ZA rfl) (Jl (QeH (by decide)) (Jl (ZA rfl) (Qfb)))))))))))))))) d hd
theorem Qmg:Jx ["_law_thing", "_law_high", "_law_wide"] ["_law_thing", "_law_high", "_law_wide"] (Qs QfT):=⟨rfl,rfl,rfl,by decide +kernel,rfl,by decide +kernel,by decide +kernel⟩
theorem Qm9{f f1  : Addr}{fd fd1:QL}(F:Fun K "_law_is_place" "_law_is_place" QfT f fd)(T:GlbA mg)
  (m1:mg "_law_whole" = some (.ref f1))(G1:FnOk P w K mg base CX0 1 f1 fd1 ["_law_thing"] (Zh false Qfu))(b1:Binds K fd1 ["_law_thing"] [])(k1:PySem.W.keepIn K (.ref f1)=true) :
  FnOk P w K mg base CX0 2 f fd ["_law_thing", "_law_high", "_law_wide"] (Zh false QiZ):=by
 refine okQ false F Qmg (λargs R EX h=>?_) (λcdv A outer s H E hr=>?_)
 ·obtain⟨d,h,w,rfl,_⟩:=h;rfl
 ·have hU:=Room.u60 hr;have hI:=Room.i60 hr;refine⟨_,QF (QbQ (Qr4 (QiJ (Y1 (Y0 (QM (Qco .tuple (by rfl) T.isinstance (qp 0) (by rfl) T.tuple Qbj)))) (QiJ (Qbe QjS (Qp5 hU) (QM (Zj ZG QaB (by rfl) T.len YC (QbR (qp 0) Jd))) (Q3 Q9) (ZS _)) (QiJ (Y1 (Y0 (Q3 (Zf G1 (hr.mono (by decide)) (by rfl) m1 k1 b1 Zr (Zm (Qay JP ZE (qp 0) (Q3 Q9) (λ_ _=>rfl)) JB))))) (QhB (Y1 (Y0 (Q3 (Zf G1 (hr.mono (by decide)) (by rfl) m1 k1 b1 Zr (Zm (Qay JP ZE (qp 0) (Q3 Q9) (λ_ _=>rfl)) JB)))))))))) (Ja (Z7 QfH)) Yf)
   (Ja (Z7 (QhE (QM (QyM QkZ QkY (Q3 Q9) (Q3 (Qay JP ZE (qp 0) (Q3 Q9) (λ_ _=>rfl))) (qp 1))) (QhC (JD (QyM QkZ QkY (Q3 Q9) (Q3 (Qay JP ZE (qp 0) (Q3 Q9) (λ_ _=>rfl))) (qp 2))))))),λargs R EX h=>?_⟩
  obtain⟨d,h,w,rfl,hR⟩:=h;cases d with
  |tuple ds=>
   match ds,hR with
   |[a,b],hR=>
    have hR:R (.bool (inW a 0 (h - 1)&&inW b 0 (w - 1))):=hR;rw[<- QnE,<- QnE] at hR;refine⟨a,rfl,a,rfl,?_⟩;cases a with
    |int i=>
     refine⟨b,rfl,b,rfl,?_⟩;cases b with
     |int j=>
      refine⟨.int i,rfl,?_⟩;have hR:R (.bool ((decide (0<=i)&&decide (i<h))&&(decide (0<=j)&&decide (j<w)))):=hR;refine ifC (λz1=>?_) λz1=>?_
      ·rw[show decide (0<=i)=true from z1,Qav] at hR;refine ifC (λz2=>?_) λz2=>?_
       ·rw[show decide (i<h)=true from z2,Qav] at hR;refine⟨.int j,rfl,ifC (λz3=>?_) λz3=>?_⟩
        ·rw[show decide (0<=j)=true from z3,Qav] at hR;exact hR
        ·rw[show decide (0<=j)=false from z3,Qab] at hR;exact hR
       ·rw[show decide (i<h)=false from z2,Qab] at hR;exact hR
      ·rw[show decide (0<=i)=false from z1,Qab,Qab] at hR;exact hR
     |_=>simp only[inL,Qin] at hR;exact hR
    |_=>exact hR
   |[],hR=>exact hR
   |[_],hR=>exact hR
   |a::b::c::r,hR=>
    exact hR
  |_=>exact hR
theorem Qk4:(["_law_k", "_law_things"]:List Str).Nodup:=by decide +kernel
theorem Qmf:Jx ["_law_things"] ["_law_things"] (Qs QfS):=⟨rfl,rfl,rfl,by decide +kernel,rfl,by decide +kernel,by decide +kernel⟩
theorem Qm8{f   : Addr}{fd  : QL}(F:Fun K "_law_rises" "_law_rises" QfS f fd)(T:GlbA mg) :
  FnOk P w K mg base CX0 1 f fd ["_law_things"] (Zh false QiY):=by
 refine okQ false F Qmf (λargs R EX h=>?_) (λcdv A outer s H E hr=>?_)
 ·obtain⟨ds,rfl | rfl,_⟩:=h<;>rfl
 ·have hU:=Room.u60 hr;have hI:=Room.i60 hr;refine⟨_,Ja (Qbn (Zj QbK (Qf3 rfl) (by rfl) T.all Qe8 (QbR (QM (Qao ["_law_k", "_law_things"] [none,some 0] (Qcv (by rfl) T.range (QM (ZD Qcp Qb2 (QM (Zj ZG QaB (by rfl) T.len YC (QbR (qp 0) Jd))) (Q3 Q9)))) (λcl ex s3 H3 C=>⟨(ZP 0 Qk4 rfl (QR rfl) (Q2 rfl)),Yq,(JD (Qd6 (QmY hU) Qnf (Q3 (Qay JP ZE (qp 1) (qp 0) (λ_ _=>rfl))) (Q3 (Qay JP ZE (qp 1) (QM (ZD Zn Z4 (qp 0) (Q3 Q9))) (λ_ _=>rfl))) (ZS _)))⟩))) Jd))),λargs R EX h=>?_⟩;obtain⟨ds,h,hc,hl,hR⟩:=h;have go:∀(i:Int)(k:Nat),i=k->k<ds.length->atI ds i=some (ds.getD k .none):=λi k e hk=>by rw[e];exact JM (by rw[Qf hk,JE,Qf hk];rfl)
  have gm:∀k,k<ds.length->ds.getD k .none∈ds:=λk hk=>by rw[JE,Qf hk];exact Qcl hk
  rcases h with rfl | rfl
  ·refine⟨⟨by omega,by omega⟩,Qah (λd=>.bool (Qs2 ds d)) (λd hd k2 hk=>?_) (Qb9 (items:=QjG 0 ((ds.length:Int) - 1).toNat) rfl (by rw[Qhy];exact hR))⟩;obtain⟨k,hk'⟩:=Zd.mp hd;obtain⟨hlt,rfl⟩:=QeJ hk';have hk:k2 (.bool (ltD (ds.getD (0+(k:Int)).toNat .none) (ds.getD ((0+(k:Int)).toNat+1) .none))):=hk;rw[show(0+(k:Int)).toNat=k by omega] at hk;have m1:=gm k (by omega);have m2:=gm (k+1) (by omega);exact⟨_,go (0+(k:Int)) k (by omega) (by omega),_,go (0+(k:Int)+1) (k+1) (by omega) (by omega),⟨(hc _ m1).1,(hc _ m2).1,(hc _ m1).2.2 _ m2,(hc _ m1).2.1⟩,hk⟩
  ·refine⟨⟨by omega,by omega⟩,Qah (λd=>.bool (Qs2 ds d)) (λd hd k2 hk=>?_) (Qb9 (items:=QjG 0 ((ds.length:Int) - 1).toNat) rfl (by rw[Qhy];exact hR))⟩;obtain⟨k,hk'⟩:=Zd.mp hd;obtain⟨hlt,rfl⟩:=QeJ hk';have hk:k2 (.bool (ltD (ds.getD (0+(k:Int)).toNat .none) (ds.getD ((0+(k:Int)).toNat+1) .none))):=hk;rw[show(0+(k:Int)).toNat=k by omega] at hk;have m1:=gm k (by omega);have m2:=gm (k+1) (by omega);exact⟨_,go (0+(k:Int)) k (by omega) (by omega),_,go (0+(k:Int)+1) (k+1) (by omega) (by omega),⟨(hc _ m1).1,(hc _ m2).1,(hc _ m1).2.2 _ m2,(hc _ m1).2.1⟩,hk⟩
theorem Qrc:(["_law_cell", "_law_board_here"]:List Str).Nodup:=by decide +kernel
theorem Qrb:(["_law_cell", "_law_board_here"]:List Str).Nodup:=by decide +kernel
theorem Qj1:(["_law_row", "_law_column"]:List Str).Nodup:=by decide +kernel
theorem Qj0:(["_law_row", "_law_column"]:List Str).Nodup:=by decide +kernel
theorem Qmh:Jx ["_law_board_here", "_law_thing", "_law_lines"] ["_law_board_here", "_law_thing"] (Qs lIsS):=⟨rfl,rfl,rfl,by decide +kernel,rfl,by decide +kernel,by decide +kernel⟩
theorem Qt7{f f1 f2  : Addr}{fd fd1 fd2:QL}(F:Fun K "_law_is_stand" "_law_is_stand" lIsS f fd)(T:GlbA mg)
  (m1:mg "_law_is_place" = some (.ref f1))(G1:FnOk P w K mg base CX0 2 f1 fd1 ["_law_thing", "_law_high", "_law_wide"] (Zh false QiZ))(b1:Binds K fd1 ["_law_thing", "_law_high", "_law_wide"] [])(k1:PySem.W.keepIn K (.ref f1)=true)
  (m2:mg "_law_rises" = some (.ref f2))(G2:FnOk P w K mg base CX0 1 f2 fd2 ["_law_things"] (Zh false QiY))(b2:Binds K fd2 ["_law_things"] [])(k2:PySem.W.keepIn K (.ref f2)=true) :
  FnOk P w K mg base CX0 3 f fd ["_law_board_here", "_law_thing"] (Zh false QiX):=by
 refine okQ false F Qmh (λargs R EX h=>?_) (λcdv A outer s H E hr=>?_)
 ·obtain⟨h,w,cs,d,rfl,_⟩:=h;rfl
 ·have hU:=Room.u60 hr;have hI:=Room.i60 hr;refine⟨_,QF (QbQ (Qr4 (QiJ (Y1 (Y0 (QM (Qco .tuple (by rfl) T.isinstance (qp 1) (by rfl) T.tuple Qbj)))) (QhB (Y1 (Y0 (QM (Zj QbK (Qf3 rfl) (by rfl) T.all Qe8 (QbR (QM (Qao ["_law_cell", "_law_board_here"] [none,some 0] (Qbf (qp 1)) (λcl ex s3 H3 C=>⟨(ZP 0 Qrc rfl (QR rfl) (Q2 rfl)),Yq,(Zf G1 (hr.mono (by decide)) (by rfl) m1 k1 b1 Zr (Zm (qv 0) (Zm (Qay JP ZE (qp 1) (Q3 Q9) (λ_ _=>rfl)) (Zm (Qay JP ZE (qp 1) (Q3 Q9) (λ_ _=>rfl)) JB))))⟩))) Jd)))))))) (Ja (Z7 QfH)) Yf)
   (QF (QbQ (Qr4 (QiJ (Y1 (Y0 (QM (Zj QbK (Qf3 rfl) (by rfl) T.all Qe8 (QbR (QM (Qao ["_law_cell", "_law_board_here"] [none,some 0] (Qbf (qp 1)) (λcl ex s3 H3 C=>⟨(ZP 0 Qrb rfl (QR rfl) (Q2 rfl)),Yq,(JD (Qd6 QmZ (Qng hI) (qp 0) (Q3 (Qay JP ZE (qp 1) (Q3 Q9) (λ_ _=>rfl))) (by rfl)))⟩))) Jd))))) (QhB (Y1 (Y0 (Q3 (Zf G2 (hr.mono (by decide)) (by rfl) m2 k2 b2 Zr (Zm (qv 1) JB)))))))) (Ja (Z7 QfH)) Yf)
   (QF (Ze 2 (JD (ZD Zn Z4 (QM (Qao ["_law_row", "_law_column"] [none,none] (Qbf (qp 1)) (λcl ex s3 H3 C=>⟨(Qbw rfl (Zq 0 (Zq 1 Qbx Qj1 rfl (QR rfl) (Q2 rfl)) Qj1 rfl (QR rfl) (Q2 rfl))),Yq,(qv 0)⟩))) (QM (Qao ["_law_row", "_law_column"] [none,none] (Qbf (qp 1)) (λcl ex s3 H3 C=>⟨(Qbw rfl (Zq 0 (Zq 1 Qbx Qj0 rfl (QR rfl) (Q2 rfl)) Qj0 rfl (QR rfl) (Q2 rfl))),Yq,(JD (ZD Zn Z4 (Q3 Q9) (qp 1)))⟩))))) Qmh.nd)
   (Ja (Qbn (Qd6 Qc0 (QgF hU) (QM (Qgw (by rfl) T.len (by rfl) T.set (qp 2))) (QM (ZD QgC QjV (Q3 Q9) (QM (Zj ZG QaB (by rfl) T.len YC (QbR (qp 1) Jd))))) (ZS _)))))),λargs R EX h=>?_⟩
  obtain⟨h,w,cs,d,rfl,h6,hs,hR⟩:=h;cases d with
  |tuple ds=>
   have hl:=hs ds rfl;refine Qah (λd=>.bool (QfW h w d)) (λd hd k2 hk=>⟨_,rfl,_,rfl,_,_,_,rfl,hk⟩) (Qb9 (items:=ds) rfl ?_);cases ha:ds.all (QfW h w) with
   |false=>
    rw[show QfV h w cs (.tuple ds)=false by show((ds.all (QfW h w)&&_)&&_)=false;rw[ha];rfl] at hR;exact hR
   |true=>
    obtain⟨L,rfl,hL⟩:=Qen ha;rw[Qh] at hl;rw[show QfV h w cs (.tuple (L.map pairD))=(Qba (L.map pairD)&&((L.map pairD).all (inC cs)&&apB L)) by show(((L.map pairD).all (QfW h w)&&_)&&(_&&apB ((L.map pairD).map toP)))=_;rw[ha,Qb1];rfl] at hR;refine Qah (λd=>.bool (inC cs d)) (λd hd k2 hk=>?_) (Qb9 (items:=L.map pairD) rfl ?_)
    ·obtain⟨p,_,rfl⟩:=Qy.mp hd;exact⟨_,rfl,⟨Qby cs,rfl,by have:=Qf0 p;omega⟩,hk⟩
    ·cases hi:(L.map pairD).all (inC cs) with
     |false=>
      rw[hi,Qab,Qin] at hR;exact hR
     |true=>
      rw[hi,Qav] at hR;refine⟨_,.inl rfl,Qb7 L,by rw[Qh];omega,?_⟩;cases hr:Qba (L.map pairD) with
      |false=>
       rw[hr,Qab] at hR;exact hR
      |true=>
       rw[hr,Qav] at hR;have e1:(L.map pairD).map (λd=>Q7 (toP d).1)=(L.map (λp=>p.1)).map Q7:=by rw[Jt,Jt];rfl
       have e2:(L.map pairD).map (λd=>Q7 (6+(toP d).2))=(L.map (λp=>6+p.2)).map Q7:=by rw[Jt,Jt];rfl
       refine Qah (λd=>.int (toP d).1) (λd hd k2 hk=>?_) (Qah (λd=>.int (6+(toP d).2)) (λd hd k2 hk=>?_) ?_)
       ·obtain⟨p,_,rfl⟩:=Qy.mp hd;exact⟨rfl,hk⟩
       ·obtain⟨p,_,rfl⟩:=Qy.mp hd;exact⟨rfl,hk⟩
       ·rw[e1,e2];refine⟨by rw[Qh,Qh,Qh,Qh];omega,?_⟩;rw[<- Jj];refine⟨_,QdM _,by rw[Qq,Qh,Qh];omega,.inl (.inl (by decide)),?_⟩;have c1:decide (((ddI (L.map (λp=>p.1)++L.map (λp=>6+p.2))).length:Int)=2*(((L.map pairD).length:Nat):Int))=apB L:=by
         unfold apB;rw[<- QuV];refine decide_eq_decide.mpr ?_
         rw[<- Qi1 (L:=L) λp hp=>by have:=hL p hp;omega,<- QgU,Qq,Qh,Qh,Qh];omega
        show R (.bool (decide _));rw[c1];exact hR
  |_=>exact hR
end
end Rk
namespace Rk
open L2 _root_.Rd
section
variable{P:QP}{w:JH}{K:PySem.W.Frag}{mg:Str->Option Value}{base:Zl}
theorem QdT:Jx ["_law_e", "_law_some", "_law_words"] ["_law_e"] (Qs Qlc):=⟨rfl,rfl,rfl,by decide +kernel,rfl,by decide +kernel,by decide +kernel⟩
theorem Qt8{f c1 c2 c3 c4 c5 c6 c7 c8 c9 c10 c11 c12 c13 c14 c15 c16 c17 c18 c19:Addr}{fd:QL}(F:Fun K "_law_kind_of" "_law_kind_of" Qlc f fd)(T:GlbA mg)(mV:mg "ValueError" = none)
  (m1:mg "NoText" = some (.ref c1))(m2:mg "NoOrder" = some (.ref c2))(m3:mg "NoLines" = some (.ref c3))(m4:mg "TooFew" = some (.ref c4))(m5:mg "NoSize" = some (.ref c5))(m6:mg "TooMany" = some (.ref c6))(m7:mg "NoNumber" = some (.ref c7))(m8:mg "NoStand" = some (.ref c8))(m9:mg "NoCell" = some (.ref c9))(m10:mg "NotSquare" = some (.ref c10))(m11:mg "NoHits" = some (.ref c11))(m12:mg "NoCounts" = some (.ref c12))(m13:mg "NoStairs" = some (.ref c13))(m14:mg "NotAlike" = some (.ref c14))(m15:mg "NoParting" = some (.ref c15))(m16:mg "NoPlace" = some (.ref c16))(m17:mg "Double" = some (.ref c17))(m18:mg "NoDeed" = some (.ref c18))(m19:mg "NoRow" = some (.ref c19)) :
  Rx.FnM P w K mg base 1 f fd ["_law_e"] (QjD K [c1,c2,c3,c4,c5,c6,c7,c8,c9,c10,c11,c12,c13,c14,c15,c16,c17,c18,c19]):=by
 refine Rx.okM F QdT (λvs H Q E h=>?_) (λcdv A outer s H vs Q E hr h=>?_)
 ·obtain⟨a,C,bs,j,wd,rfl,_⟩:=h;rfl
 ·obtain⟨a,C,bs,j,wd,rfl,ha,hc,pb,eV,hcnt,hj,hm,hw,k⟩:=h;refine' ⟨_,ZM (Qa2 (i:=1) QdT.nd rfl (QR rfl) (QbH (QfJ (x := "_law_e") (ns:=["NoText", "NoOrder", "NoLines", "TooFew"]) (cs:=[c1,c2,c3,c4]) rfl (QR rfl) (by decide) (by decide) (by rfl) T.isinstance (by decide +kernel) (by rfl) (.cons m1 (.cons m2 (.cons m3 (.cons m4 .nil))))))) ?p1,?rd⟩
  case p1=>
   show PSs _ _ _;refine' ZM (Qa2 (i:=1) QdT.nd rfl (QR rfl) (QaT QeO (pv 1) (QbH (QfJ (x := "_law_e") (ns:=["NoSize", "TooMany", "NoNumber", "NoStand"]) (cs:=[c5,c6,c7,c8]) rfl (QR rfl) (by decide) (by decide) (by rfl) T.isinstance (by decide +kernel) (by rfl) (.cons m5 (.cons m6 (.cons m7 (.cons m8 .nil)))))))) ?_
   show PSs _ _ _;refine' ZM (Qa2 (i:=1) QdT.nd rfl (QR rfl) (QaT QeO (pv 1) (QbH (QfJ (x := "_law_e") (ns:=["NoCell", "NotSquare", "NoHits", "NoCounts"]) (cs:=[c9,c10,c11,c12]) rfl (QR rfl) (by decide) (by decide) (by rfl) T.isinstance (by decide +kernel) (by rfl) (.cons m9 (.cons m10 (.cons m11 (.cons m12 .nil)))))))) ?_
   show PSs _ _ _;refine' ZM (Qa2 (i:=1) QdT.nd rfl (QR rfl) (QaT QeO (pv 1) (QbH (QfJ (x := "_law_e") (ns:=["NoStairs", "NotAlike", "NoParting", "NoPlace"]) (cs:=[c13,c14,c15,c16]) rfl (QR rfl) (by decide) (by decide) (by rfl) T.isinstance (by decide +kernel) (by rfl) (.cons m13 (.cons m14 (.cons m15 (.cons m16 .nil)))))))) ?_
   show PSs _ _ _;refine' ZM (Qa2 (i:=1) QdT.nd rfl (QR rfl) (QaT QeO (pv 1) (QbH (QfJ (x := "_law_e") (ns:=["Double", "NoDeed", "NoRow"]) (cs:=[c17,c18,c19]) rfl (QR rfl) (by decide) (by decide) (by rfl) T.isinstance (by decide +kernel) (by rfl) (.cons m17 (.cons m18 (.cons m19 .nil))))))) ?_
   show PSs _ _ _;refine' ZM (QiL (QmB (Qcw QpX (QkV PySem.F.plainAttrs_list PySem.F.slot_list_count PySem.F.type_list_count Rx.Qre (pv 1) (JF Qpz J3)) YM (ZS _)) (QjL (Qr5 (QhH (ZB Rx.Qh7 (by rfl) T.isinstance J4 (JF (pv 0) (JF (Qag (v:=.ty "ValueError") (by rfl) mV Qzo rfl) J3))))))).pt (Qaf (Qa3 QmL)) Qcx) ?_
   show PSs _ _ _;refine' ZM ?a1 ?_
   case a1=>
    refine' Qa2 (i:=2) (hs:=?hh) (hf:=?hf) ?hN ?hi ?hx ?he
    case hN=>exact QdT.nd
    case hi=>exact rfl
    case hx=>exact QR rfl
    case hf=>exact QR rfl
    case hh=>kernel_rfl
    case he=>
     refine' QbH ?ww
     case ww=>exact QiM (ws:=Qhp.take 10) (by kernel_rfl)
   show PSs _ _ _;refine' ZM ?a2 ?_
   case a2=>
    refine' Qa2 (i:=2) (hs:=?hh) (hf:=?hf) ?hN ?hi ?hx ?he
    case hN=>exact QdT.nd
    case hi=>exact rfl
    case hx=>exact QR rfl
    case hf=>exact QR rfl
    case hh=>kernel_rfl
    case he=>
     refine' QaT QeO (pv 2) ?ww
     case ww=>
      refine' QbH ?w2
      case w2=>exact QiM (ws:=Qhp.drop 10) (by kernel_rfl)
   show PSs _ _ _;exact Qaf (Qa3 (QkU QdD (pv 2) (QkV PySem.F.plainAttrs_list PySem.F.slot_list_index PySem.F.type_list_index Rx.mt_index (pv 1) (JF Qpz J3)) (λ_ _=>rfl)))
  obtain⟨b1,bs1,rfl,q1,pb1⟩:=JQ pb;obtain⟨b2,bs2,rfl,q2,pb2⟩:=JQ pb1;obtain⟨b3,bs3,rfl,q3,pb3⟩:=JQ pb2;obtain⟨b4,bs4,rfl,q4,pb4⟩:=JQ pb3;obtain⟨b5,bs5,rfl,q5,pb5⟩:=JQ pb4;obtain⟨b6,bs6,rfl,q6,pb6⟩:=JQ pb5;obtain⟨b7,bs7,rfl,q7,pb7⟩:=JQ pb6;obtain⟨b8,bs8,rfl,q8,pb8⟩:=JQ pb7;obtain⟨b9,bs9,rfl,q9,pb9⟩:=JQ pb8;obtain⟨b10,bs10,rfl,q10,pb10⟩:=JQ pb9;obtain⟨b11,bs11,rfl,q11,pb11⟩:=JQ pb10;obtain⟨b12,bs12,rfl,q12,pb12⟩:=JQ pb11;obtain⟨b13,bs13,rfl,q13,pb13⟩:=JQ pb12;obtain⟨b14,bs14,rfl,q14,pb14⟩:=JQ pb13;obtain⟨b15,bs15,rfl,q15,pb15⟩:=JQ pb14;obtain⟨b16,bs16,rfl,q16,pb16⟩:=JQ pb15;obtain⟨b17,bs17,rfl,q17,pb17⟩:=JQ pb16;obtain⟨b18,bs18,rfl,q18,pb18⟩:=JQ pb17;obtain⟨b19,bs19,rfl,q19,pb19⟩:=JQ pb18;cases QkW pb19;refine⟨a,C,[b1,b2,b3,b4],rfl,ha,hc,(.cons q1 (.cons q2 (.cons q3 (.cons q4 .nil)))),by show 4<=1000;decide,λl1 H1 s1 n1 e_1=>?_⟩;have h1:=s1 _ _ ha;refine⟨_,rfl,a,C,[b5,b6,b7,b8],rfl,h1,hc,(.cons q5 (.cons q6 (.cons q7 (.cons q8 .nil)))),by show 4<=1000;decide,λl2 H2 s2 n2 e_2=>⟨l1,l2,_,_,rfl,rfl,s2 _ _ e_1,e_2,by show 8<=1000;decide,λl3 H3 s3 n3 e_3=>?_⟩⟩;have h3:=s3 _ _ (s2 _ _ h1);refine⟨_,rfl,a,C,[b9,b10,b11,b12],rfl,h3,hc,(.cons q9 (.cons q10 (.cons q11 (.cons q12 .nil)))),by show 4<=1000;decide,λl4 H4 s4 n4 e_4=>⟨l3,l4,_,_,rfl,rfl,s4 _ _ e_3,e_4,by show 12<=1000;decide,λl5 H5 s5 n5 e_5=>?_⟩⟩;have h5:=s5 _ _ (s4 _ _ h3);refine⟨_,rfl,a,C,[b13,b14,b15,b16],rfl,h5,hc,(.cons q13 (.cons q14 (.cons q15 (.cons q16 .nil)))),by show 4<=1000;decide,λl6 H6 s6 n6 e_6=>⟨l5,l6,_,_,rfl,rfl,s6 _ _ e_5,e_6,by show 16<=1000;decide,λl7 H7 s7 n7 e_7=>?_⟩⟩;have h7:=s7 _ _ (s6 _ _ h5);refine⟨_,rfl,a,C,[b17,b18,b19],rfl,h7,hc,(.cons q17 (.cons q18 (.cons q19 .nil))),by show 3<=1000;decide,λl8 H8 s8 n8 e_8=>⟨l7,l8,_,_,rfl,rfl,s8 _ _ e_7,e_8,by show 19<=1000;decide,λl9 H9 s9 n9 e_9=>?_⟩⟩;have h9:=s9 _ _ (s8 _ _ h7);have S:=((((((((s1.trans s2).trans s3).trans s4).trans s5).trans s6).trans s7).trans s8).trans s9);have EL:H9 l9=some (.lst (([b1,b2,b3,b4,b5,b6,b7,b8,b9,b10,b11,b12,b13,b14,b15,b16,b17,b18,b19]:List Bool).map V.bl)):=e_9;refine⟨_,rfl,.inl ⟨rfl,_,SqL.of EL⟩,l9,_,rfl,rfl,EL,rfl,_,rfl,?_⟩;rw[hcnt];refine Qnx rfl ?_
  refine⟨_,rfl,a,C,.ty "ValueError",.type "ValueError",true,rfl,h9,hc,(λu r=>r),eV,_,rfl,?_⟩;refine⟨by show 10<=1000;decide,λl10 H10 s10 n10 e_10=>?_⟩;refine⟨_,rfl,by show 9<=1000;decide,λl11 H11 s11 n11 e_11=>⟨l10,l11,_,_,rfl,rfl,s11 _ _ e_10,e_11,by show 19<=1000;decide,λl12 H12 s12 n12 e_12=>?_⟩⟩;have EL2:=s12 _ _ (s11 _ _ (s10 _ _ EL));refine⟨_,rfl,_,rfl,.inl ⟨rfl,_,SqL.of EL2⟩,l9,_,j,rfl,rfl,EL2,hj,hm,?_⟩;have EW:H12 l12=some (.lst (Qhp.map V.str)):=e_12;exact⟨l12,_,_,.str wd,rfl,rfl,SqL.of EW,JM (by rw[QD,hw];rfl),k H12 (((S.trans s10).trans s11).trans s12)⟩
end
end Rk
namespace Rk
open L2 _root_.Rd
open Dl
open Rt
theorem QnD{i a b:Int}(h:i<a∨b<i):inW (.int i) a b=false:=by
 cases e:inW (.int i) a b with
 |false=>rfl
 |true=>
  obtain⟨j,ej,h1,h2⟩:=Qrn e;have:=Qck ej;omega
section
variable{P:QP}{w:JH}{K:PySem.W.Frag}{mg:Str->Option Value}{base:Zl}
theorem Qmc:Jx ["_law_way", "_law_board_here", "_law_one", "_law_other", "_law_e"] ["_law_way", "_law_board_here", "_law_one", "_law_other"] (Qs Qk9):=⟨rfl,rfl,rfl,by decide +kernel,rfl,by decide +kernel,by decide +kernel⟩
theorem Qt2{f f1 f2 f3  : Addr}{fd fd1 fd2 fd3:QL}{CS CN CT:Addr}(F:Fun K "_law_told" "_law_told" Qk9 f fd)(T:GlbA mg)
  (m1:mg "stand_at" = some (.ref f1))(G1:FnOk P w K mg base (Rx.CXE P w) 4 f1 fd1 ["board", "size", "number"] (Zh false (Qei CS CN)))(b1:Binds K fd1 ["board", "size", "number"] [])(k1:PySem.W.keepIn K (.ref f1)=true)
  (m2:mg "number_of" = some (.ref f2))(G2:FnOk P w K mg base (Rx.CXE P w) 6 f2 fd2 ["board", "stand"] (Zh false (QhR CT)))(b2:Binds K fd2 ["board", "stand"] [])(k2:PySem.W.keepIn K (.ref f2)=true)
  (m3:mg "next_stand" = some (.ref f3))(G3:FnOk P w K mg base (Rx.CXE P w) 7 f3 fd3 ["board", "stand"] (Zh false (Qp8 CT)))(b3:Binds K fd3 ["board", "stand"] [])(k3:PySem.W.keepIn K (.ref f3)=true)
  {fK R:Addr} {cs:List Addr} {fdK:QL} (mK:mg "_law_kind_of" = some (.ref fK)) (GK:Rx.FnM P w K mg base 1 fK fdK ["_law_e"] (QjD K cs)) (bK:Binds K fdK ["_law_e"] []) (kK:PySem.W.keepIn K (.ref fK)=true) (mR:mg "RookError" = some (.ref R)) (oS:KOk K cs R CS "size") (oN:KOk K cs R CN "number") (oT:KOk K cs R CT "stand") :
  FnOk P w K mg base CX0 8 f fd ["_law_way", "_law_board_here", "_law_one", "_law_other"] (Zh false Qgh):=by
 refine okQ false F Qmc (λargs R EX h=>?_) (λcdv A outer s H E hr=>?_)
 ·obtain⟨h,w,cs,way,a,b,rfl,_⟩:=h;rfl
 ·have hU:=Room.u60 hr;have hI:=Room.i60 hr;refine⟨_,Ja (QvL (i:=4) (ks:=λC wd=>KOk K cs R C wd) (QoW (Qyz (Qbe Qc0 (QgF hU) (qp 0) (Q3 Q9) (ZS _)) (Ql0 (Qr0 (Qu9 G1 (hr.mono (by decide)) (by rfl) m1 k1 b1 (Zm (qv 1) (Zm (qv 2) (Zm (qv 3) JB)))))) QsW) (Ql0 (Qr0 (QsM (QnG f2 (QhR CT) (by rfl) m2 (QnG f3 (Qp8 CT) (by rfl) m3 QwX)) (Jl ⟨_,_,_,G2,hr.mono (by decide),k2,b2⟩ (Jl ⟨_,_,_,G3,hr.mono (by decide),k3,b3⟩ Qfb)) (QM (ZD Qcp Qb2 (qp 0) (Q3 Q9))) (Zm (qv 1) (Zm (qv 2) JB)))))) Qmc.nd mR (Qtf GK (hr.mono (by decide)) mK kK bK) (λo=>handled o)),λargs R EX h=>?_⟩;obtain⟨h,w,cs,way,a,b,rfl,w0,w2,g,hs,hR⟩:=h;have hw:way=0∨way=1∨way=2:=by omega
  rcases hw with rfl | rfl | rfl
  ·refine⟨_,_,_,_,_,rfl,g,λq=>⟨"size",oS,by decide +kernel,?_⟩,λk ea hk q=>⟨"number",oN,by decide +kernel,?_⟩,λk n L ea eb hk q=>?_⟩
   ·rw[QeB q] at hR;exact hR
   ·subst ea;rw[QeC hk q] at hR;exact hR
   ·subst ea eb;rw[Qix hk q] at hR;exact hR
  ·refine⟨rfl,_,JM (j:=0) rfl,_,_,_,_,rfl,g,hs,λq=>⟨"stand",oT,by decide +kernel,?_⟩,λL ea st=>?_⟩
   ·rw[Qgi (by decide) q] at hR;exact hR
   ·subst ea;rw[Qjv (QjB g st)] at hR;exact hR
  ·refine⟨rfl,_,JM (j:=1) rfl,_,_,_,_,rfl,g,hs,λq=>⟨"stand",oT,by decide +kernel,?_⟩,λL ea st=>?_⟩
   ·rw[Qgi (by decide) q] at hR;exact hR
   ·subst ea;rw[Qju (QjB g st)] at hR;exact hR
theorem QaZ:Jx ["_law_pot_here", "_law_board_here", "_law_some", "_law_size", "_law_few", "_law_odd_here", "_law_far", "_law_number", "_law_due"] ["_law_pot_here", "_law_board_here", "_law_some", "_law_size"] (Qs QdB):=⟨rfl,rfl,rfl,by decide +kernel,rfl,by decide +kernel,by decide +kernel⟩
theorem Qm6{f f1 f2 f3 f4  : Addr}{fd fd1 fd2 fd3 fd4:QL}(F:Fun K "_law_numbers_right" "_law_numbers_right" QdB f fd)(T:GlbA mg)
  (m1:mg "_law_take" = some (.ref f1))(G1:FnOk P w K mg base CX0 1 f1 fd1 ["_law_pot_here", "_law_far"] (Zh true Qiy))(b1:Binds K fd1 ["_law_pot_here", "_law_far"] [])(k1:PySem.W.keepIn K (.ref f1)=true)
  (m2:mg "_law_told" = some (.ref f2))(G2:FnOk P w K mg base CX0 8 f2 fd2 ["_law_way", "_law_board_here", "_law_one", "_law_other"] (Zh false Qgh))(b2:Binds K fd2 ["_law_way", "_law_board_here", "_law_one", "_law_other"] [])(k2:PySem.W.keepIn K (.ref f2)=true)
  (m3:mg "_law_same" = some (.ref f3))(G3:FnOk P w K mg base CX0 4 f3 fd3 ["_law_found", "_law_due"] (Zh false (Qo8 2)))(b3:Binds K fd3 ["_law_found", "_law_due"] [])(k3:PySem.W.keepIn K (.ref f3)=true)
  (m4:mg "_law_odd" = some (.ref f4))(G4:FnOk P w K mg base CX0 2 f4 fd4 ["_law_pot_here"] (Zh false Qrh))(b4:Binds K fd4 ["_law_pot_here"] [])(k4:PySem.W.keepIn K (.ref f4)=true) :
  FnOk P w K mg base CX0 9 f fd ["_law_pot_here", "_law_board_here", "_law_some", "_law_size"] (Zh false QeP):=by
 refine okQ false F QaZ (λargs R EX h=>?_) (λcdv A outer s H E hr=>?_)
 ·obtain⟨h,w,cs,k,rfl,_⟩:=h;rfl
 ·have hU:=Room.u60 hr;have hI:=Room.i60 hr;refine⟨_,QF (Ze 4 (JD (Zj (Qe6 rfl) Qkn (by rfl) T.min Qog (QbR (Q3 (Qay JP ZE (qp 1) (Q3 Q9) (λ_ _=>rfl))) (QbR (Q3 (Qay JP ZE (qp 1) (Q3 Q9) (λ_ _=>rfl))) Jd)))) QaZ.nd)
   (QF (Ze 5 (Qay JP ZE (QM (Qbo (ZR (JD (QhD (Q3 Q9))) (ZR (JD (Zj ZG QaB (by rfl) T.len YC (QbR (qp 2) Jd))) (ZR QfH (ZR QfH (ZR QkS (ZR Qd5 (ZR (JD (ZD QhM QgE (Q3 Q9) (Q3 Q9))) Jd))))))))) (QM (YD G1 (hr.mono (by decide)) (by rfl) m1 k1 b1 Zr (Qa1 0 (Zm Q9 JB)))) (λ_ _=>rfl)) QaZ.nd)
   (QF (Ze 6 (Qay JP ZE (QM (Qbo (ZR (JD (QhD (Q3 Q9))) (ZR (JD (ZD Zn Z4 (qp 4) (Q3 Q9))) (ZR QfH (ZR QfH (ZR QkS (ZR Qd5 (ZR (JD (ZD QhM QgE (Q3 Q9) (Q3 Q9))) Jd))))))))) (QM (YD G1 (hr.mono (by decide)) (by rfl) m1 k1 b1 Zr (Qa1 0 (Zm Q9 JB)))) (λ_ _=>rfl)) QaZ.nd)
   (QF (QbO JW rfl (QbG (JD (Qbo (ZR Q9 (ZR (JD (ZD Qcp Qb2 (QM (Zj ZG QaB (by rfl) T.len YC (QbR (qp 2) Jd))) (Q3 Q9))) (ZR (JD (ZD QjT QgE (QM (Zj ZG QaB (by rfl) T.len YC (QbR (qp 2) Jd))) (Q3 Q9))) (ZR (qv 5) Jd))))))) (ZP 7 QaZ.nd rfl (by first | exact QR rfl | exact Q2 rfl))
    (QF (Ze 8 Qd5 QaZ.nd)
   (QF (QbQ (Qr4 (QjK (Y0 (QM (Qco .int (by rfl) T.isinstance (qp 7) (by rfl) T.int Qkp))) (QjK (Y1 (Y0 (QM (Qco .bool (by rfl) T.isinstance (qp 7) (by rfl) T.bool QcB)))) (QiK (QyG QkZ QkY (Q3 Q9) (qp 7) (QM (Zj ZG QaB (by rfl) T.len YC (QbR (qp 2) Jd)))))))) (Ja (Ze 8 (Qay JP ZE (qp 2) (qp 7) (λ_ _=>rfl)) QaZ.nd)) Yf)
   (Ja (QbQ (Qr4 (QiJ (Y1 (Y0 (Q3 (Zf G3 (hr.mono (by decide)) (by rfl) m3 k3 b3 Zr (Zm (Zf G2 (hr.mono (by decide)) (by rfl) m2 k2 b2 Zr (Zm Q9 (Zm (qv 1) (Zm (qv 3) (Zm (qv 7) JB))))) (Zm (qv 8) JB)))))) (QhB (Qbe QjS (Qp5 hU) (Q3 (Zf G2 (hr.mono (by decide)) (by rfl) m2 k2 b2 Zr (Zm Q9 (Zm (qv 1) (Zm (qv 6) (Zm (qv 7) JB)))))) (Q3 Qd5) (ZS _))))) (Ja (Z7 QfH)) Yf)))))
   (Ja (Qbn (Qd6 QmZ (Qng hI) (Q3 (Zf G2 (hr.mono (by decide)) (by rfl) m2 k2 b2 Zr (Zm Q9 (Zm (qv 1) (Zm (qv 3) (Zm (Zf G4 (hr.mono (by decide)) (by rfl) m4 k4 b4 Zr (Qa1 0 JB)) JB)))))) (QM (ZD Zn Z4 (QM (Qbo (ZR Qd5 Jd))) (qp 2))) (by rfl))))))),λargs R EX h=>?_⟩
  obtain⟨h,w,cs,k,rfl,g,hk,he,hR⟩:=h;have ls:((evS cs k).map stT).length=(evS cs k).length:=Qh _;have fw:=Qsr g k;have h6:=g.bds.1;have sk:QaM (.int (k:Int)):=ZA rfl;refine⟨_,JM (j:=0) rfl,_,JM (j:=1) rfl,Qnp (k:=((min h w:Nat):Int)) (by split<;>omega) ?_⟩;refine⟨⟨by decide,by decide,by decide⟩,⟨_,rfl,by decide,by decide,λr r0 r1=>Qld r0 r1 λod hod=>?_⟩⟩;refine⟨⟨by decide,by decide,by decide⟩,⟨_,rfl,by decide,by decide,λr2 r20 r21=>Qld r20 r21 λfd hfd=>?_⟩⟩;have nof:inW fd 0 ((min h w:Nat):Int)=false/\QaM fd:=Jl (p:=λd=>inW d 0 ((min h w:Nat):Int)=false/\QaM d) ⟨QnD (.inl (by decide)),ZA rfl⟩ (Jl ⟨QnD (.inr (by omega)),ZA rfl⟩ (Jl ⟨rfl,ZA rfl⟩ (Jl ⟨rfl,ZA rfl⟩ (Jl ⟨rfl,ZA rfl⟩ (Jl ⟨rfl,ZA rfl⟩ (Jl ⟨QnD (.inr (by have:(10:Int)^(30:Int).toNat=10^30:=rfl;omega)),ZA rfl⟩ Qfb)))))) fd hfd;refine⟨⟨by decide,by decide⟩,QaA (λ_ δ=>∃x7 x8,δ=[.pot,.v (bdD h w cs),.v (.list ((evS cs k).map stT)),.v (.int k),.v (.int ((min h w:Nat):Int)),.v od,.v fd,x7,x8]) ⟨_,_,rfl⟩ ?_ ?_⟩
  ·rintro j d δ hd ⟨x7,x8,rfl⟩;cases hq:inW d 0 (((evS cs k).length:Int) - 1) with
   |true=>
    obtain⟨n,rfl,hn⟩:=QgR hq;have hn:n<(evS cs k).length:=by omega
    obtain⟨L,eL⟩:∃L,(evS cs k)[n]? = some L:=⟨_,Qf hn⟩
    have lL:=((Qb3 g.r0 k L).mp (QV eL)).2;have fl:=Ql6 (L:=L) (by omega);refine ifT (decide_eq_true (by rw[ls];omega)) ⟨stT L,JM (by rw[QD,eL];rfl),?_⟩;refine⟨h,w,cs,0,.int k,.int n,rfl,by decide,by decide,g,sk,?_⟩;rw[Qix hk eL];refine⟨_,rfl,fl.1,fl.2,?_⟩;refine⟨h,w,cs,0,fd,.int n,rfl,by decide,by decide,g,nof.2,?_⟩;rw[QeB nof.1];exact⟨_,_,rfl⟩
   |false=>
    cases d with
    |int i=>
     refine ifC (λz1=>?_) λz1=>?_
     ·refine ifF (decide_eq_false λz2=>?_) ?_
      ·have z1:(0:Int)<=i:=of_decide_eq_true z1;rw[ls] at z2;rw[QhX z1 (by omega)] at hq;cases hq
      ·refine⟨h,w,cs,0,.int k,_,rfl,by decide,by decide,g,sk,?_⟩;rw[QeC hk hq];refine⟨_,rfl,rfl,rfl,?_⟩;refine⟨h,w,cs,0,fd,_,rfl,by decide,by decide,g,nof.2,?_⟩;rw[QeB nof.1];exact⟨_,_,rfl⟩
     ·skip
      refine⟨h,w,cs,0,.int k,_,rfl,by decide,by decide,g,sk,?_⟩;rw[QeC hk hq];refine⟨_,rfl,rfl,rfl,?_⟩;refine⟨h,w,cs,0,fd,_,rfl,by decide,by decide,g,nof.2,?_⟩;rw[QeB nof.1];exact⟨_,_,rfl⟩
    |_=>
     refine⟨h,w,cs,0,.int k,_,rfl,by decide,by decide,g,sk,?_⟩;rw[QeC hk hq];refine⟨_,rfl,rfl,rfl,?_⟩;refine⟨h,w,cs,0,fd,_,rfl,by decide,by decide,g,nof.2,?_⟩;rw[QeB nof.1];exact⟨_,_,rfl⟩
  ·rintro δ ⟨x7,x8,rfl⟩;refine⟨rfl,λd sd=>?_⟩;have nl:nds (YF "number" :: (evS cs k).map stT)=true:=by
    show(nd (.str "number")&&nds ((evS cs k).map stT))=true;rw[Qnj];rfl
   have bd:[YF "number"].length+((evS cs k).map stT).length<=1000000:=by rw[ls];show 1+_<=_;omega
   cases hq:inW d 0 (((evS cs k).length:Int) - 1) with
   |true=>
    obtain⟨n,rfl,hn⟩:=QgR hq;have hn:n<(evS cs k).length:=by omega
    obtain⟨L,eL⟩:∃L,(evS cs k)[n]? = some L:=⟨_,Qf hn⟩
    refine⟨h,w,cs,0,.int k,.int n,rfl,by decide,by decide,g,sk,?_⟩;rw[Qix hk eL];refine⟨bd,⟨nl,Qby L,Qkc L⟩,?_⟩;have ea:((YF "number" :: (evS cs k).map stT).any λe=>Q6 e (stT L))=true:=Qae.mpr ⟨stT L,.tail _ (Qy.mpr ⟨L,QV eL,rfl⟩),by rw[QnO];exact decide_eq_true rfl⟩;show R (.bool ((YF "number" :: (evS cs k).map stT).any λe=>Q6 e (stT L)));rw[ea];exact hR
   |false=>
    refine⟨h,w,cs,0,.int k,d,rfl,by decide,by decide,g,sk,?_⟩;rw[QeC hk hq];refine⟨bd,⟨nl,rfl,by unfold Jp;decide⟩,?_⟩;have ea:((YF "number" :: (evS cs k).map stT).any λe=>Q6 e (.str "number"))=true:=Qae.mpr ⟨.str "number",.head _,by decide +kernel⟩;show R (.bool ((YF "number" :: (evS cs k).map stT).any λe=>Q6 e (.str "number")));rw[ea];exact hR
theorem Qmk:Jx ["_law_pot_here", "_law_board_here", "_law_stand", "_law_some"] ["_law_pot_here", "_law_board_here", "_law_stand"] (Qs lBad):=⟨rfl,rfl,rfl,by decide +kernel,rfl,by decide +kernel,by decide +kernel⟩
theorem Qwy{f f1 f2  : Addr}{fd fd1 fd2:QL}(F:Fun K "_law_bad" "_law_bad" lBad f fd)(T:GlbA mg)
  (m1:mg "_law_take" = some (.ref f1))(G1:FnOk P w K mg base CX0 1 f1 fd1 ["_law_pot_here", "_law_far"] (Zh true Qiy))(b1:Binds K fd1 ["_law_pot_here", "_law_far"] [])(k1:PySem.W.keepIn K (.ref f1)=true)
  (m2:mg "_law_odd" = some (.ref f2))(G2:FnOk P w K mg base CX0 2 f2 fd2 ["_law_pot_here"] (Zh false Qrh))(b2:Binds K fd2 ["_law_pot_here"] [])(k2:PySem.W.keepIn K (.ref f2)=true) :
  FnOk P w K mg base CX0 3 f fd ["_law_pot_here", "_law_board_here", "_law_stand"] (Zh false Qi4):=by
 refine okQ false F Qmk (λargs R EX h=>?_) (λcdv A outer s H E hr=>?_)
 ·obtain⟨h,w,cs,L,rfl,_⟩:=h;rfl
 ·have hU:=Room.u60 hr;have hI:=Room.i60 hr;refine⟨_,QF (Ze 3 (JD (Qbo (ZR (JD (Qgx Qc5 Qoa (by rfl) T.list Qe7 (QbR (qp 2) Jd))) (ZR (JD (ZD Zn Z4 (qp 2) (QM (Qdv (qp 2) (Qdt (QM (QhD (Q3 Q9)))) Qdu)))) (ZR (JD (ZD Zn Z4 (qp 2) (QM (QaS (ZR (JD (QaS (ZR (Qay JP ZE (qp 1) (Q3 Q9) (λ_ _=>rfl)) (ZR Q9 Jd)))) Jd))))) (ZR (Zf G2 (hr.mono (by decide)) (by rfl) m2 k2 b2 Zr (Qa1 0 JB)) (ZR (JD (QaS (ZR (qv 2) Jd))) (ZR (JD (QyI (qp 2) (QM (QhD (Q3 Q9))))) Jd)))))))) Qmk.nd)
   (QF (Ze 3 (JD (ZD Zn Z4 (qp 3) (QM (Qbo (ZR (Qay JP ZE (qp 1) (Q3 Q9) (λ_ _=>rfl)) (ZR (JD (ZD Zn Z4 (qp 2) (QM (QaS (ZR (JD (QaS (ZR Q9 (ZR (Qay JP ZE (qp 1) (Q3 Q9) (λ_ _=>rfl)) Jd)))) Jd))))) (ZR (JD (ZD Zn Z4 (qp 2) (QM (QaS (ZR QkS Jd))))) (ZR (JD (ZD Zn Z4 (QM (QaS (ZR (JD (QaS (ZR (JD (QhD (Q3 Q9))) (ZR Q9 Jd)))) Jd))) (qp 2))) (ZR (qv 1) Jd))))))))) Qmk.nd)
   (Ja (Z7 (Qay JP ZE (qp 3) (QM (YD G1 (hr.mono (by decide)) (by rfl) m1 k1 b1 Zr (Qa1 0 (Zm Q9 JB)))) (λ_ _=>rfl))))),λargs R EX h=>?_⟩
  obtain⟨h,w,cs,L,rfl,g,hc,hl,hR⟩:=h;have lL:(L.map pairD).length=L.length:=Qh _;have c3:=Qi8 (L.map pairD) (some (-1)) none;have b1:(L.map pairD).length+1<=1000000:=by omega
  refine⟨by omega,_,JM (j:=0) rfl,b1,rfl,λod sod=>?_⟩;refine⟨rfl,_,JM (j:=2) rfl,_,JM (j:=1) rfl,b1,b1,by show 1+(L.map pairD).length<=_;omega,by show 6+5<=_;decide,_,rfl,by decide,by decide,λr r0 r1=>Qld r0 r1 λd hd=>hR d ?_⟩;exact Jl (p:=QaM) (ZA rfl) (Jl (YK (k:=20) (by rw[Qq];omega) (by decide)) (Jl (YK (k:=20) (by rw[Qq];show _+1<=_;omega) (by decide)) (Jl sod (Jl (YK (k:=1) (Ql _) (by decide)) (Jl (YK (k:=20) (by rw[Qaj];omega) (by decide)) (Jl (YK (k:=36) (by rw[Qh];exact hc) (by decide)) (Jl (YK (k:=20) (by rw[Qq];show _+1<=_;omega) (by decide)) (Jl (YK (k:=20) (by rw[Qq];show _+1<=_;omega) (by decide)) (Jl (YK (k:=20) (by rw[Qq];show 1+_<=_;omega) (by decide)) (Jl (YK (k:=3) (Ql _) (by decide)) Qfb)))))))))) d hd
end
theorem QwZ(g:List (Int×Int)->Bool)(Ls:List (List (Int×Int))):(Ls.map stT).filterMap (λd=>if g (stL d)=true then some d else none)=(Ls.filter g).map stT:=by
 rw[Qau];refine Qru (p:=g) (k:=stT) λL _=>?_
 show(if g (stL (stT L))=true then some (stT L) else none)=_;rw[QoZ]
section
variable{P:QP}{w:JH}{K:PySem.W.Frag}{mg:Str->Option Value}{base:Zl}
theorem Qub:(["_law_one", "_law_stand"]:List Str).Nodup:=by decide +kernel
theorem Qua:(["_law_way", "_law_bad_here", "_law_board_here"]:List Str).Nodup:=by decide +kernel
theorem QbZ:Jx ["_law_script", "_law_k", "_law_pot_here", "_law_board_here", "_law_every", "_law_stand", "_law_some", "_law_at", "_law_number", "_law_later", "_law_bad_here"] ["_law_script"] (Qs sLaw):=⟨rfl,rfl,rfl,by decide +kernel,rfl,by decide +kernel,by decide +kernel⟩
theorem Qww{f f1 f2 f3 f4 f5 f6 f7 f8 f9 f10  : Addr}{fd fd1 fd2 fd3 fd4 fd5 fd6 fd7 fd8 fd9 fd10:QL}(F:Fun K "law" "law" sLaw f fd)(T:GlbA mg)
  (m1:mg "_law_cell_at" = some (.ref f1))(G1:FnOk P w K mg base CX0 1 f1 fd1 ["_law_script", "_law_k"] (QcY K))(b1:Binds K fd1 ["_law_script", "_law_k"] [])(k1:PySem.W.keepIn K (.ref f1)=true)
  (m2:mg "_law_pot" = some (.ref f2))(G2:FnOk P w K mg base CX0 1 f2 fd2 ["_law_cell"] (Zh true QyO))(b2:Binds K fd2 ["_law_cell"] [])(k2:PySem.W.keepIn K (.ref f2)=true)
  (m3:mg "_law_take" = some (.ref f3))(G3:FnOk P w K mg base CX0 1 f3 fd3 ["_law_pot_here", "_law_far"] (Zh true Qiy))(b3:Binds K fd3 ["_law_pot_here", "_law_far"] [])(k3:PySem.W.keepIn K (.ref f3)=true)
  (m4:mg "_law_board" = some (.ref f4))(G4:FnOk P w K mg base CX0 2 f4 fd4 ["_law_pot_here", "_law_most"] (Zh false Qi3))(b4:Binds K fd4 ["_law_pot_here", "_law_most"] [])(k4:PySem.W.keepIn K (.ref f4)=true)
  (m5:mg "_law_stands" = some (.ref f5))(G5:FnOk P w K mg base CX0 2 f5 fd5 ["_law_board_here"] (Zh false QgM))(b5:Binds K fd5 ["_law_board_here"] [])(k5:PySem.W.keepIn K (.ref f5)=true)
  (m6:mg "_law_numbers_right" = some (.ref f6))(G6:FnOk P w K mg base CX0 9 f6 fd6 ["_law_pot_here", "_law_board_here", "_law_some", "_law_size"] (Zh false QeP))(b6:Binds K fd6 ["_law_pot_here", "_law_board_here", "_law_some", "_law_size"] [])(k6:PySem.W.keepIn K (.ref f6)=true)
  (m7:mg "_law_same" = some (.ref f7))(G7:FnOk P w K mg base CX0 4 f7 fd7 ["_law_found", "_law_due"] (Zh false (Qo8 2)))(b7:Binds K fd7 ["_law_found", "_law_due"] [])(k7:PySem.W.keepIn K (.ref f7)=true)
  (m8:mg "_law_told" = some (.ref f8))(G8:FnOk P w K mg base CX0 8 f8 fd8 ["_law_way", "_law_board_here", "_law_one", "_law_other"] (Zh false Qgh))(b8:Binds K fd8 ["_law_way", "_law_board_here", "_law_one", "_law_other"] [])(k8:PySem.W.keepIn K (.ref f8)=true)
  (m9:mg "_law_bad" = some (.ref f9))(G9:FnOk P w K mg base CX0 3 f9 fd9 ["_law_pot_here", "_law_board_here", "_law_stand"] (Zh false Qi4))(b9:Binds K fd9 ["_law_pot_here", "_law_board_here", "_law_stand"] [])(k9:PySem.W.keepIn K (.ref f9)=true)
  (m10:mg "_law_is_stand" = some (.ref f10))(G10:FnOk P w K mg base CX0 3 f10 fd10 ["_law_board_here", "_law_thing"] (Zh false QiX))(b10:Binds K fd10 ["_law_board_here", "_law_thing"] [])(k10:PySem.W.keepIn K (.ref f10)=true) :
  FnOk P w K mg base CX0 10 f fd ["_law_script"] (Qfx K):=by
 refine QAu F QbZ (λcdv A outer s H E hr=>?_);have hU:=Room.u60 hr;have hI:=Room.i60 hr;refine⟨_,QF (QbO JW rfl (Qcv (by rfl) T.range (QM (Zj (Qod rfl) QuE (by rfl) T.max Qxs (QbR (Q3 Q9) (QbR (QM (Zj (Qe6 rfl) Qn9 (by rfl) T.min Qog (QbR (QM (QvQ 0 (by rfl) T.len)) (QbR (Q3 Q9) Jd)))) Jd))))) (ZP 1 QbZ.nd rfl (by first | exact QR rfl | exact Q2 rfl))
    (QF (Qta 2 (YD G2 (hr.mono (by decide)) (by rfl) m2 k2 b2 Zr (Zm (JD (QvR 0 G1 (hr.mono (by decide)) (by rfl) m1 k1 b1 (qp 1))) JB)) QbZ.nd)
   (QF (Ze 3 (Zf G4 (hr.mono (by decide)) (by rfl) m4 k4 b4 Zr (Qa1 2 (Zm Q9 JB))) QbZ.nd)
   (QF (Ze 4 (Zf G5 (hr.mono (by decide)) (by rfl) m5 k5 b5 Zr (Zm (qv 3) JB)) QbZ.nd)
   (QF (Ze 5 (Qay JP ZE (qp 4) (QM (YD G3 (hr.mono (by decide)) (by rfl) m3 k3 b3 Zr (Qa1 2 (Zm (JD (Zj ZG QaB (by rfl) T.len YC (QbR (qp 4) Jd))) JB)))) (λ_ _=>rfl)) QbZ.nd)
   (QF (QeK ["_law_one", "_law_stand"] [none,some 5] 6 QbZ.nd (QbG (qp 4)) (λcl ex s3 H3 C=>⟨(ZP 0 Qub rfl (QR rfl) (Q2 rfl)),(Qds (Qbe Qc0 (QgF hU) (QM (Zj ZG QaB (by rfl) T.len YC (QbR (qp 0) Jd))) (QM (Zj ZG QaB (by rfl) T.len YC (QbR (qp 1) Jd))) (ZS _))),(qv 0)⟩))
   (QF (Ze 7 (JD (QyK hI (qp 6) (qp 5))) QbZ.nd)
   (QF (QbQ (Y1 (Y0 (Q3 (Zf G6 (hr.mono (by decide)) (by rfl) m6 k6 b6 Zr (Qa1 2 (Zm (qv 3) (Zm (qv 6) (Zm (JD (Zj ZG QaB (by rfl) T.len YC (QbR (qp 5) Jd))) JB)))))))) (Ja (Z7 QfH)) Yf)
   (QF (QbO JW rfl (QbG (JD (Qbo (ZR (qv 7) (ZR Q9 (ZR (JD (ZD Qcp Qb2 (QM (Zj ZG QaB (by rfl) T.len YC (QbR (qp 6) Jd))) (Q3 Q9))) (ZR (qv 7) Jd))))))) (ZP 8 QbZ.nd rfl (by first | exact QR rfl | exact Q2 rfl))
    (QF (Ze 9 (Qay JP ZE (QM (ZD Zn Z4 (qp 6) (QM (Qbo (ZR QkS Jd))))) (QM (ZD Zn Z4 (qp 8) (Q3 Q9))) (λ_ _=>rfl)) QbZ.nd)
   (QF (QbQ (Y1 (Y0 (Q3 (Zf G7 (hr.mono (by decide)) (by rfl) m7 k7 b7 Zr (Zm (Zf G8 (hr.mono (by decide)) (by rfl) m8 k8 b8 Zr (Zm Q9 (Zm (qv 3) (Zm (Qay JP ZE (qp 6) (qp 8) (λ_ _=>rfl)) (Zm Q9 JB))))) (Zm (qv 8) JB)))))) (Ja (Z7 QfH)) Yf)
   (Ja (QbQ (Y1 (Y0 (Q3 (Zf G7 (hr.mono (by decide)) (by rfl) m7 k7 b7 Zr (Zm (Zf G8 (hr.mono (by decide)) (by rfl) m8 k8 b8 Zr (Zm Q9 (Zm (qv 3) (Zm (Qay JP ZE (qp 6) (qp 8) (λ_ _=>rfl)) (Zm Q9 JB))))) (Zm (qv 9) JB)))))) (Ja (Z7 QfH)) Yf)))))
   (QF (Ze 10 (Zf G9 (hr.mono (by decide)) (by rfl) m9 k9 b9 Zr (Qa1 2 (Zm (qv 3) (Zm (qv 5) JB)))) QbZ.nd)
   (Ja (QbQ (Qr4 (QjK (Y1 (Y0 (Q3 (Zf G10 (hr.mono (by decide)) (by rfl) m10 k10 b10 Zr (Zm (qv 3) (Zm (qv 10) JB)))))) (QiK (Qbe QjS (Qp5 hU) (QM (Qao ["_law_way", "_law_bad_here", "_law_board_here"] [none,some 10,some 3] (QbG (QM (Qbo (ZR Q9 (ZR Q9 Jd))))) (λcl ex s3 H3 C=>⟨(ZP 0 Qua rfl (QR rfl) (Q2 rfl)),Yq,(Zf G8 (hr.mono (by decide)) (by rfl) m8 k8 b8 Zr (Zm (qv 0) (Zm (qv 2) (Zm (qv 1) (Zm Q9 JB)))))⟩))) (QM (ZD QgC QjV (QM (Qbo (ZR Qd5 Jd))) (Q3 Q9))) (ZS _))))) (Ja (Z7 QfH)) Yf))))))))))))
   (Ja (Z7 QfH)),?_⟩
 intro n0 n63;refine⟨⟨by split<;>split<;>omega,by split<;>split<;>omega⟩,QgS (λi δ=>∃x1 x2 x3 x4 x5 x6 x7 x8 x9 x10,δ=[.scr,x1,x2,x3,x4,x5,x6,x7,x8,x9,x10]) ⟨_,_,_,_,_,_,_,_,_,_,rfl⟩ ?_ ?_⟩
 ·rintro i δ hi ⟨x1,x2,x3,x4,x5,x6,x7,x8,x9,x10,rfl⟩;refine⟨by omega,λc=>⟨c,rfl,λn1=>?_⟩⟩;refine⟨_,rfl,by decide,by decide,λh w f h1 hm w1 wm=>?_⟩;have g:=QAI f (show h<=6 by omega) (show w<=6 by omega);have hrow:∀r,(Qcm (cellsF h w f) r).length<=6:=λr=>QQ (QeI w h f r) (by omega)
  have hcl:(cellsF h w f).length<=36:=QQ (QdK w f h) (QxG (show h<=6 by omega) (show w<=6 by omega));generalize cellsF h w f=cs at g hrow hcl;refine⟨_,_,_,rfl,by omega,hrow,λLs pm pw=>?_⟩;have ll:(Ls.map stT).length=Ls.length:=Qh _;have lp:=pm.length_eq;have lf:=g.few;have l0:0<Ls.length:=by
   rw[lp];exact List.length_pos_of_mem (QiD cs h)
  refine⟨_,rfl,by omega,by omega,λr r0 r1=>Qld r0 r1 λsd hsd=>?_⟩;obtain⟨L,hL,rfl⟩:=Qy.mp hsd;obtain⟨st,_⟩:=(QbI g.r0 h L).mp (pm.mem_iff.mp hL);have sl:=Qgm g st;have ev:=Quv (k:=L.length) g.srt g.r0 g.rh pm pw;have h6:=g.bds.1;refine Qlj (λd=>if(λM:List (Int×Int)=>M.length == L.length) (stL d)=true then some d else none) (λd hd k1 k2 h1 h2=>?_) ?_
  ·obtain⟨M,_,rfl⟩:=Qy.mp hd;have h1:(if((stL (stT M)).length == L.length)=true then some (stT M) else none)=none->k1:=h1;have h2:∀e,(if((stL (stT M)).length == L.length)=true then some (stT M) else none)=some e->k2 e:=h2
   rw[QoZ] at h1 h2;show if decide ((((M.map pairD).length:Nat):Int)=(((L.map pairD).length:Nat):Int))=true then k2 (stT M) else k1
   rw[Qh,Qh];by_cases z:M.length=L.length
   ·rw[if_pos (decide_eq_true (by omega))];exact h2 _ (if_pos (by simpa using z))
   ·rw[if_neg (by simp;omega)];exact h1 (if_neg (by simpa using z))
  ·rw[QwZ (λM:List (Int×Int)=>M.length == L.length),ev];have mL:L∈evS cs L.length:=(Qb3 g.r0 _ L).mpr ⟨st,rfl⟩;obtain⟨at_,ea⟩:=Zd.mp mL;have al:=(Qx.mp ea).1;have fw:=Qsr g L.length;have le:((evS cs L.length).map stT).length=(evS cs L.length).length:=Qh _;refine⟨⟨Qnj _,Qby L,Qkc L⟩,by rw[le];omega,at_,⟨stT L,by rw[QD,ea];rfl,by rw[QnO];exact decide_eq_true rfl⟩,λm hm e he=>?_,?_⟩
   ·rw[QD] at he;cases eM:(evS cs L.length)[m]? with
    |none=>rw[eM] at he;cases he
    |some M=>
     rw[eM] at he;cases he;rw[QnO];refine decide_eq_false λz=>?_
     rw[z] at eM;have:=QwB (Qw4 g _) eM ea;omega
   ·have lL:(L.map pairD).length=L.length:=Qh _;refine⟨h,w,cs,L.length,by rw[<- lL],g,sl,by omega,?_⟩;refine QaA (λ_ δ=>∃y1 y4 x8 x9 x10,δ=[.scr,y1,.pot,.v (bdD h w cs),y4,.v (stT L),.v (.list ((evS cs L.length).map stT)),.v (.int at_),x8,x9,x10]) ⟨_,_,_,_,_,rfl⟩ ?_ ?_
    ·rintro j d δ hd ⟨y1,y4,x8,x9,x10,rfl⟩;obtain⟨n,rfl,hn⟩:∃n:Nat,d=.int n/\n<(evS cs L.length).length:=Jl (p:=λd=>∃n:Nat,d=Q7 n/\n<(evS cs L.length).length) ⟨at_,rfl,al⟩ (Jl ⟨0,rfl,by omega⟩ (Jl ⟨(evS cs L.length).length - 1,by show Q7 ((((evS cs L.length).map stT).length:Int) - 1)=_;rw[le,show((evS cs L.length).length:Int) - 1=(((evS cs L.length).length - 1:Nat):Int) by omega],by omega⟩ (Jl ⟨at_,rfl,al⟩ Qfb))) d (QV hd)
     obtain⟨M,eM⟩:∃M,(evS cs L.length)[n]? = some M:=⟨_,Qf hn⟩
     obtain⟨sM,lM⟩:=(Qb3 g.r0 _ M).mp (QV eM);have nM:numN cs M M.length M.length=n:=by rw[lM];exact Qwz g eM
     have gM:atI ((evS cs L.length).map stT) (n:Int)=some (stT M):=JM (by rw[QD,eM];rfl);have sh:QaM (stT M):=YK (k:=20) (by rw[Qh];omega) (by decide);have nx:atI ((evS cs L.length).map stT++[QbS]) ((n:Int)+1)=some (QoC cs M):=by
      rw[show(n:Int)+1=((n+1:Nat):Int) by omega];refine JM ?_
      unfold QoC;rw[nM,lM];by_cases z:n+1<(evS cs L.length).length
      ·rw[J5 (by rw[le];exact z),QD,Qf z];rfl
      ·rw[Ju (by rw[le];omega),le,show n+1 - (evS cs L.length).length=0 by omega,Jn (show(evS cs L.length).length<=n+1 by omega)];rfl
     have nf:nd (QoC cs M)=true/\QeV 2 (QoC cs M)=true:=by
      unfold QoC;cases e:(evS cs M.length)[numN cs M M.length M.length+1]? with
      |none=>exact⟨rfl,rfl⟩
      |some N=>
       have:=((Qb3 g.r0 _ N).mp (QV e)).2;exact Ql6 (by omega)
     refine⟨by rw[le];show _+1<=_;omega,_,nx,_,gM,h,w,cs,1,stT M,.int 0,rfl,by decide,by decide,g,sh,?_⟩;rw[Qjv (QjB g sM),nM];refine⟨_,rfl,rfl,rfl,_,gM,h,w,cs,2,stT M,.int 0,rfl,by decide,by decide,g,sh,?_⟩;rw[Qju (QjB g sM)];exact⟨_,rfl,nf.1,nf.2,_,_,_,_,_,rfl⟩
    ·rintro δ ⟨y1,y4,x8,x9,x10,rfl⟩;refine⟨h,w,cs,L,rfl,g,hcl,by omega,λbd sbd=>⟨_,_,_,_,rfl,by omega,sbd,?_⟩⟩;show if(!QfV h w cs bd)=true then _ else _
     cases hq:QfV h w cs bd with
     |true=>exact⟨_,_,_,_,_,_,_,_,_,_,rfl⟩
     |false=>
      refine Qah (λ_=>.str "stand") (λd hd k2 hk=>?_) ?_
      ·obtain⟨way,rfl,q1,q2,q3⟩:∃way:Int,d=.int way/\0<=way/\way<=2/\way≠0:=Jl (p:=λd=>∃way:Int,d=Q7 way/\0<=way/\way<=2/\way≠0) ⟨1,rfl,by decide,by decide,by decide⟩ (Jl ⟨2,rfl,by decide,by decide,by decide⟩ Qfb) d hd
       refine⟨h,w,cs,way,bd,.int 0,rfl,q1,q2,g,sbd,?_⟩;rw[Qgi q3 hq];exact hk
      ·refine⟨⟨by decide,by decide,by decide⟩,⟨rfl,rfl,.inl (by decide +kernel)⟩,?_⟩;exact⟨_,_,_,_,_,_,_,_,_,_,rfl⟩
 ·rintro δ ⟨x1,x2,x3,x4,x5,x6,x7,x8,x9,x10,rfl⟩;rfl
end
end Rk
namespace Rk
open L2 _root_.Rd
def QwQ:Qb->Bool
 |.tuple _=>true
 |.list _=>true
 |_=>false
def QAD:Qb->Bool
 |.list _=>true
 |_=>false
def QAB:Qb->Bool
 |.tuple _=>true
 |_=>false
def QAF:Qb->Bool
 |.bool _=>true
 |_=>false
def QAC:Qb->Bool
 |.str _=>true
 |_=>false
theorem Qvc{K:PySem.W.Frag}{H:Hp}:∀{x:V}{d:Qb},Dat H x d->∃t,TyOf K H x t/\PySem.W.kitAny K t [.type "list",.type "tuple"]=some (QwQ d)/\PySem.W.kitOne K t (.type "list")=some (QAD d)/\PySem.W.kitOne K t (.type "tuple")=some (QAB d) /\
  PySem.W.kitOne K t (.type "bool")=some (QAF d)/\PySem.W.kitOne K t (.type "str")=some (QAC d)
 |_,_,.non=>⟨_,.non,rfl,rfl,rfl,rfl,rfl⟩
 |_,_,.bl _=>⟨_,.bl _,rfl,rfl,rfl,rfl,rfl⟩
 |_,_,.int _=>⟨_,.int _,rfl,rfl,rfl,rfl,rfl⟩
 |_,_,.str _ _=>⟨_,.str _,rfl,rfl,rfl,rfl,rfl⟩
 |_,_,.tup e _=>⟨_,.tup e,rfl,rfl,rfl,rfl,rfl⟩
 |_,_,.lst e _=>⟨_,.lst e,rfl,rfl,rfl,rfl,rfl⟩
theorem QwA:(["_law_one", "_law_other"]:List Str).Nodup:=by decide +kernel
def Ql7:Sp:=λvs H Q _=>∃p x,vs=[x]/\Kn p H x/\Q (.bl (isI x)) H
section
variable{P:QP}{w:JH}{K:PySem.W.Frag}{mg:Str->Option Value}{base:Zl}
theorem Qo6:Jx ["_law_thing"] ["_law_thing"] (Qs QdV):=⟨rfl,rfl,rfl,by decide +kernel,rfl,by decide +kernel,by decide +kernel⟩
theorem Qm2{f:Addr}{fd:QL}(F:Fun K "_law_whole" "_law_whole" QdV f fd)(T:GlbA mg):FnOk P w K mg base CX0 1 f fd ["_law_thing"] Ql7:=by
 refine F.ok Qo6 (λvs H Q E h=>?_) (λcdv A outer s H vs Q E hr h=>?_)
 ·obtain⟨p,x,rfl,_⟩:=h;rfl
 ·obtain⟨p,x,rfl,kn,k⟩:=h;refine⟨_,Qaf (Qa3 (QhL (ZB ZU (by rfl) T.isinstance J4 (JF (pv 0) (JF (Qag (v:=.ty "int") (by rfl) T.int Qkp rfl) J3)))
   (QhJ (Qsd (ZB ZU (by rfl) T.isinstance J4 (JF (pv 0) (JF (Qag (v:=.ty "bool") (by rfl) T.bool QcB rfl) J3))))))),?_⟩
  obtain⟨t,ty,e⟩:=Qrm (K:=K) kn;obtain⟨t2,ty2,e2⟩:=QnC (K:=K) kn;refine⟨_,rfl,_,t,_,_,rfl,ty,e,_,rfl,?_⟩;cases x with
  |int i=>exact Qha ⟨_,rfl,_,t2,_,_,rfl,ty2,e2,_,rfl,k⟩
  |bl i=>exact Qha ⟨_,rfl,_,t2,_,_,rfl,ty2,e2,_,rfl,k⟩
  |_=>exact Qj7 k
theorem Qvx:Jx ["_law_found", "_law_due"] ["_law_found", "_law_due"] (Qs Qlb):=⟨rfl,rfl,rfl,by decide +kernel,rfl,by decide +kernel,by decide +kernel⟩
theorem Qm4{f f1:Addr}{fd fd1:QL}(F:Fun K "_law_same" "_law_same" Qlb f fd)(T:GlbA mg)(mf:mg "_law_same" = some (.ref f))(bf:Binds K fd ["_law_found", "_law_due"] [])(kf:PySem.W.keepIn K (.ref f)=true)
  (m1:mg "_law_whole" = some (.ref f1))(G1:FnOk P w K mg base CX0 1 f1 fd1 ["_law_thing"] Ql7)(b1:Binds K fd1 ["_law_thing"] [])(k1:PySem.W.keepIn K (.ref f1)=true) :
  ∀n:Nat,FnOk P w K mg base CX0 (n+1) f fd ["_law_found", "_law_due"] (QiF n)
 |0=>⟨λ_ _ _ _ h=>h.elim,λ_ _ _ _ _ _ _ _ _ _ _ _ _ h=>h.elim⟩
 |n+1=>by
  have IH:=Qm4 F T mf bf kf m1 G1 b1 k1 n;refine F.ok Qvx (λvs H Q E h=>?_) (λcdv A outer s H vs Q E hr h=>?_)
  ·obtain⟨x,y,d,rfl,_⟩:=h;rfl
  ·obtain⟨x,y,d,rfl,qx,qy,fl,k⟩:=h;have hr1:Room 1 _:=hr.mono (by omega);refine⟨_,ZM (QiL (QhH (ZB Qlm (by rfl) T.isinstance J4 (JF (pv 1) (JF (QmK (JF (Qag (v:=.ty "list") (by rfl) T.list Qe7 rfl) (JF (Qag (v:=.ty "tuple") (by rfl) T.tuple Qbj rfl) J3))) J3))))
     (ZM (QiL (QmB (Qcw QpX (ZB ZU (by rfl) T.isinstance J4 (JF (pv 1) (JF (Qag (v:=.ty "list") (by rfl) T.list Qe7 rfl) J3))) (ZB ZU (by rfl) T.isinstance J4 (JF (pv 0) (JF (Qag (v:=.ty "list") (by rfl) T.list Qe7 rfl) J3))) (ZS _))
      (QjL (Qcw QpX (ZB ZU (by rfl) T.isinstance J4 (JF (pv 1) (JF (Qag (v:=.ty "tuple") (by rfl) T.tuple Qbj rfl) J3))) (ZB ZU (by rfl) T.isinstance J4 (JF (pv 0) (JF (Qag (v:=.ty "tuple") (by rfl) T.tuple Qbj rfl) J3))) (ZS _)))).pt (Qaf (Qa3 Qpz)) Qcx)
     (Qaf (Qa3 (QhL (QeM QtW (ZB QaC (by rfl) T.len YC (JF (pv 0) J3)) (ZB QaC (by rfl) T.len YC (JF (pv 1) J3)) (ZS _))
      (QhJ (ZB QbK (by rfl) T.all Qe8 (JF (QjQ (M:=["_law_one", "_law_other"]) (cap:=[none,none]) (g:=Qy9 K 2 (Qrs (Qfm 0) (Qrs (Qfm 1) Qza))) (tc:=QiC) (te:=QsU (QiF n) [] E0 (Qdk (Qhs 0) (Qdk (Qhs 1) QoU))) rfl (by rfl)
       (QyP (Qsa (by rfl) T.zip (JF (pv 0) (JF (pv 1) J3))) (QmH (by rfl) T.zip (JF (pv 0) (JF (pv 1) J3))))
       (λcl ex s3 H3 C=>⟨Qsb rfl (QgA (QeL (i:=0) QwA rfl (QR rfl) (Q2 rfl)) (QgA (QeL (i:=1) QwA rfl (QR rfl) (Q2 rfl)) QmI)),QmC,QeN IH (hr.mono (Ql _)) (by rfl) mf kf bf .nil Qwi (JF (pv 0) (JF (pv 1) J3))⟩)) J3)))))))
     Qcx)
    (ZM (QiL (QmB (Qcw Qwp (pv 1) Qse (ZS _)) (QmB (QhH (ZB ZU (by rfl) T.isinstance J4 (JF (pv 1) (JF (Qag (v:=.ty "bool") (by rfl) T.bool QcB rfl) J3)))) (QjL (QhH (ZB ZU (by rfl) T.isinstance J4 (JF (pv 1) (JF (Qag (v:=.ty "str") (by rfl) T.str Qxr rfl) J3))))))).pt
     (Qaf (Qa3 (QhL (QeM Qm0 (pv 0) (pv 1) (ZS _)) (QhJ (QeM QtW (ZB ZU (by rfl) T.isinstance J4 (JF (pv 0) (JF (Qag (v:=.ty "bool") (by rfl) T.bool QcB rfl) J3))) (ZB ZU (by rfl) T.isinstance J4 (JF (pv 1) (JF (Qag (v:=.ty "bool") (by rfl) T.bool QcB rfl) J3))) (ZS _)))))) Qcx)
    (Qaf (Qa3 (QhL (QeN G1 hr1 (by rfl) m1 k1 b1 .nil Qwi (JF (pv 0) J3)) (QhJ (QeM Qm0 (pv 0) (pv 1) (ZS _))))))),?_⟩
   refine⟨_,rfl,by show 2<=1000;decide,λtp H1 s1 n1 e1=>?_⟩;have qx1:=qx.same s1;have qy1:=qy.same s1;obtain⟨t,ty,a1,a2,a3,a4,a5⟩:=Qvc (K:=K) qy1;obtain⟨t',ty',a1',a2',a3',a4',a5'⟩:=Qvc (K:=K) qx1;refine⟨y,t,tp,["list", "tuple"],_,d,rfl,e1,qy1,ty,a1,_,rfl,?_⟩;have k1':∀H',Same H1 H'->Q (.bl true) H':=λH' s'=>k H' (s1.trans s')
   cases d with
   |tuple ds=>
    obtain⟨m,rfl⟩:∃m,n=m+1:=by
     cases n with
     |zero=>cases fl
     |succ m=>exact⟨m,rfl⟩
    have fl':=Qu.mp (show(decide (ds.length<=1000)&&ds.all (QeV m))=true from fl);have hdl:ds.length<=1000:=of_decide_eq_true fl'.1;refine Qha ?_
    cases qy1 with
    |@tup b ys _ eb qs=>
    cases qx1 with
    |@tup a xs _ ea ps=>
    refine⟨_,rfl,_,t,_,_,rfl,ty,a2,_,rfl,_,t',_,_,rfl,ty',a2',rfl,_,rfl,Qnx rfl ?_⟩;refine⟨_,rfl,_,t,_,_,rfl,ty,a3,_,rfl,_,t',_,_,rfl,ty',a3',rfl,_,rfl,Qnx rfl ?_⟩;have hxl:=ps.length;have hyl:=qs.length;refine⟨_,rfl,a,xs,rfl,.inr (SqT.of ea),_,rfl,b,ys,rfl,.inr (SqT.of eb),rfl,_,rfl,?_⟩;rw[show decide (V.int (xs.length:Nat)=V.int (ys.length:Nat))=true from decide_eq_true (by rw[hxl,hyl])];refine Qha (.inl ⟨_,rfl,_,rfl,a,b,xs,ys,rfl,ea,eb,λp hp=>?_⟩);refine Qf1 ds.length (Qb4 hdl) (λ_=>true) hp (λi H2 hi2 s2=>?_) (λH2 s2=>?_) λH2 s2 e2=>?_
    ·have hx:xs[i]? = some xs[i]:=Qf (by omega);have hy:ys[i]? = some ys[i]:=Qf (by omega);have ea2:=s2 a _ ea;have eb2:=s2 b _ eb;refine⟨⟨xs,ys,_,_,ea2,eb2,hx,hy⟩,λv H3 ⟨r,x',y',hr0,ex,ey,ev,eH⟩ kk hk=>?_⟩;have ex':=ex xs ea2;have ey':=ey ys eb2;rw[hx] at ex';rw[hy] at ey';cases ex';cases ey';subst ev eH;obtain⟨d1,hd1,q1⟩:=ps.get i _ hx;obtain⟨d2,hd2,q2⟩:=qs.get i _ hy;rw[hd1] at hd2;cases hd2;have fd1:QeV m d1=true:=Zw.mp fl'.2 d1 (QV hd1);refine⟨r,[xs[i],ys[i]],rfl,SqT.of JK,rfl,xs[i],[ys[i]],rfl,ys[i],[],rfl,rfl,⟨trivial,?_⟩⟩;exact⟨_,rfl,_,rfl,xs[i],ys[i],d1,rfl,(q1.same s2).same (Jy hr0),(q2.same s2).same (Jy hr0),fd1,λH' s'=>hk H' ((Jy hr0).trans s')⟩
    ·refine⟨xs,ys,s2 a _ ea,s2 b _ eb,?_⟩;omega
    ·refine⟨p,_,rfl,SqL.of e2,rfl,?_⟩;have e3:((JX ds.length).map λ_=>true).all id=true:=by
      rw[Zw];intro z hz;obtain⟨_,_,rfl⟩:=Qy.mp hz;rfl
     rw[e3];exact k1' H2 s2
   |list ds=>
    obtain⟨m,rfl⟩:∃m,n=m+1:=by
     cases n with
     |zero=>cases fl
     |succ m=>exact⟨m,rfl⟩
    have fl':=Qu.mp (show(decide (ds.length<=1000)&&ds.all (QeV m))=true from fl);have hdl:ds.length<=1000:=of_decide_eq_true fl'.1;refine Qha ?_
    cases qy1 with
    |@lst b ys _ eb qs=>
    cases qx1 with
    |@lst a xs _ ea ps=>
    refine⟨_,rfl,_,t,_,_,rfl,ty,a2,_,rfl,_,t',_,_,rfl,ty',a2',rfl,_,rfl,Qnx rfl ?_⟩;refine⟨_,rfl,_,t,_,_,rfl,ty,a3,_,rfl,_,t',_,_,rfl,ty',a3',rfl,_,rfl,Qnx rfl ?_⟩;have hxl:=ps.length;have hyl:=qs.length;refine⟨_,rfl,a,xs,rfl,.inl (SqL.of ea),_,rfl,b,ys,rfl,.inl (SqL.of eb),rfl,_,rfl,?_⟩;rw[show decide (V.int (xs.length:Nat)=V.int (ys.length:Nat))=true from decide_eq_true (by rw[hxl,hyl])];refine Qha (.inr ⟨_,rfl,_,rfl,a,b,xs,ys,rfl,ea,eb,λp hp=>?_⟩);refine Qf1 ds.length (Qb4 hdl) (λ_=>true) hp (λi H2 hi2 s2=>?_) (λH2 s2=>?_) λH2 s2 e2=>?_
    ·have hx:xs[i]? = some xs[i]:=Qf (by omega);have hy:ys[i]? = some ys[i]:=Qf (by omega);have ea2:=s2 a _ ea;have eb2:=s2 b _ eb;refine⟨⟨xs,ys,_,_,ea2,eb2,hx,hy⟩,λv H3 ⟨r,x',y',hr0,ex,ey,ev,eH⟩ kk hk=>?_⟩;have ex':=ex xs ea2;have ey':=ey ys eb2;rw[hx] at ex';rw[hy] at ey';cases ex';cases ey';subst ev eH;obtain⟨d1,hd1,q1⟩:=ps.get i _ hx;obtain⟨d2,hd2,q2⟩:=qs.get i _ hy;rw[hd1] at hd2;cases hd2;have fd1:QeV m d1=true:=Zw.mp fl'.2 d1 (QV hd1);refine⟨r,[xs[i],ys[i]],rfl,SqT.of JK,rfl,xs[i],[ys[i]],rfl,ys[i],[],rfl,rfl,⟨trivial,?_⟩⟩;exact⟨_,rfl,_,rfl,xs[i],ys[i],d1,rfl,(q1.same s2).same (Jy hr0),(q2.same s2).same (Jy hr0),fd1,λH' s'=>hk H' ((Jy hr0).trans s')⟩
    ·refine⟨xs,ys,s2 a _ ea,s2 b _ eb,?_⟩;omega
    ·refine⟨p,_,rfl,SqL.of e2,rfl,?_⟩;have e3:((JX ds.length).map λ_=>true).all id=true:=by
      rw[Zw];intro z hz;obtain⟨_,_,rfl⟩:=Qy.mp hz;rfl
     rw[e3];exact k1' H2 s2
   |none=>
    refine Qj7 ?_
    have hy:y=.non:=by cases qy1;rfl
    subst hy;refine⟨_,rfl,rfl,_,rfl,Qha (Qha ?_)⟩;refine⟨_,rfl,_,rfl,QbS,QbS,qx1,qy1,by rw[QcQ];show _+Jp QbS<cLine;rw[show Jp QbS=0 from by simp[Jp]];exact hr.units0,_,rfl,?_⟩;rw[Qdb QbS rfl];refine Qha ?_
    refine⟨_,rfl,_,t',_,_,rfl,ty',a4',_,rfl,_,t,_,_,rfl,ty,a4,rfl,?_⟩;rw[show ∀b:Bool,decide (V.bl b=V.bl b)=true from λb=>decide_eq_true rfl];exact k1' H1 (Same.refl H1)
   |bool v=>
    refine Qj7 ?_
    have hy:y=.bl v:=by cases qy1;rfl
    subst hy;refine⟨_,rfl,rfl,_,rfl,Qj7 ?_⟩;refine⟨_,rfl,_,t,_,_,rfl,ty,a4,_,rfl,Qha (Qha ?_)⟩;refine⟨_,rfl,_,rfl,(Ye v),(Ye v),qx1,qy1,by rw[QcQ];show _+Jp (Ye v)<cLine;rw[show Jp (Ye v)=0 from by simp[Jp]];exact hr.units0,_,rfl,?_⟩;rw[Qdb (Ye v) rfl];refine Qha ?_
    refine⟨_,rfl,_,t',_,_,rfl,ty',a4',_,rfl,_,t,_,_,rfl,ty,a4,rfl,?_⟩;rw[show ∀b:Bool,decide (V.bl b=V.bl b)=true from λb=>decide_eq_true rfl];exact k1' H1 (Same.refl H1)
   |str v=>
    refine Qj7 ?_
    have hy:y=.str v:=by cases qy1;rfl
    subst hy;have cl:YV (.str v)=true:=by cases qy1 with | str _ c=>exact c
    refine⟨_,rfl,rfl,_,rfl,Qj7 ?_⟩;refine⟨_,rfl,_,t,_,_,rfl,ty,a4,_,rfl,Qj7 ?_⟩;refine⟨_,rfl,_,t,_,_,rfl,ty,a5,_,rfl,Qha ?_⟩;refine⟨_,rfl,_,rfl,(YF v),(YF v),qx1,qy1,by rw[QcQ];show _+Jp (YF v)<cLine;rw[show Jp (YF v)=0 from by simp[Jp]];exact hr.units0,_,rfl,?_⟩;rw[Qdb (YF v) cl];refine Qha ?_
    refine⟨_,rfl,_,t',_,_,rfl,ty',a4',_,rfl,_,t,_,_,rfl,ty,a4,rfl,?_⟩;rw[show ∀b:Bool,decide (V.bl b=V.bl b)=true from λb=>decide_eq_true rfl];exact k1' H1 (Same.refl H1)
   |int i=>
    refine Qj7 ?_
    have hy:y=.int i:=by cases qy1;rfl
    have hx:x=.int i:=by cases qx1;rfl
    subst hy;subst hx;refine⟨_,rfl,rfl,_,rfl,Qj7 ?_⟩;refine⟨_,rfl,_,t,_,_,rfl,ty,a4,_,rfl,Qj7 ?_⟩;refine⟨_,rfl,_,t,_,_,rfl,ty,a5,_,rfl,Qj7 ?_⟩;refine⟨_,rfl,0,.int i,rfl,trivial,_,rfl,Qha ?_⟩;refine⟨_,rfl,_,rfl,.int i,.int i,qx1,qy1,by rw[QcQ];show _+Jp (.int i)<cLine;rw[show Jp (.int i)=0 from by simp[Jp]];exact hr.units0,?_⟩;rw[Qdb (.int i) rfl];exact k1' H1 (Same.refl H1)
   |dict ds=>cases qx
end
end Rk
def PySem.W.Fast.tw1173211020344688660:Nat:=0
def PySem.W.Fast.tw16266706984682841590:Nat:=0
def PySem.W.Fast.tw17694832297888704513:Nat:=0
def PySem.W.Fast.tw13570435064521119403:Nat:=0
def PySem.W.Fast.tw13598445134438018488:Nat:=0
def PySem.W.Fast.tw16345992678974157787:Nat:=0
def PySem.W.Fast.tw8241536144352460934:Nat:=0
def PySem.W.Fast.tw426603747775429313:Nat:=0
def PySem.W.Fast.tw622394433073145559:Nat:=0
def PySem.W.Fast.tw18376540067229073449:Nat:=0
def PySem.W.Fast.tw16335732906346574627:Nat:=0
def PySem.W.Fast.tw10515409961309616478:Nat:=0
def PySem.W.Fast.tw1072075199216993934:Nat:=0
def PySem.W.Fast.tw9477345453906845635:Nat:=0
def PySem.W.Fast.tw3517612439662657985:Nat:=0
def PySem.W.Fast.tw13361903783277029860:Nat:=0
def PySem.W.Fast.tw14213777639843178856:Nat:=0
def PySem.W.Fast.tw1296022429034730565:Nat:=0
def PySem.W.Fast.tw16907083306779784806:Nat:=0
def PySem.W.Fast.tw1581034286907794556:Nat:=0
def PySem.W.Fast.tw12457290052083381893:Nat:=0
def PySem.W.Fast.tw4945662436304080781:Nat:=0
def PySem.W.Fast.tw9827278483301134156:Nat:=0
def PySem.W.Fast.tw5215500416486863317:Nat:=0
def PySem.W.Fast.tw3462187373115352424:Nat:=0
def PySem.W.Fast.tw7596565367606553858:Nat:=0
def PySem.W.Fast.tw6144773491931992664:Nat:=0
def PySem.W.Fast.tw16301893294668060132:Nat:=0
def PySem.W.Fast.tw12792132504369846894:Nat:=0
def PySem.W.Fast.tw10857878772914454623:Nat:=0
def PySem.W.Fast.tw1084924130321913352:Nat:=0
def PySem.W.Fast.tw6645709857644856654:Nat:=0
def PySem.W.Fast.tw13432125967409927164:Nat:=0
def PySem.W.Fast.tw5655526912159156426:Nat:=0
def PySem.W.Fast.tw6442372305488364199:Nat:=0
def PySem.W.Fast.tw185014949371041912:Nat:=0
def PySem.W.Fast.tw234378302884578835:Nat:=0
def PySem.W.Fast.tw16389786282739041781:Nat:=0
def PySem.W.Fast.tw5834282676319844148:Nat:=0
def PySem.W.Fast.tw9581206145382801466:Nat:=0
def PySem.W.Fast.tw15574520816333021032:Nat:=0
def PySem.W.Fast.tw55969463686950782:Nat:=0
def PySem.W.Fast.tw15675961317385127876:Nat:=0
def PySem.W.Fast.tw6983865666150143151:Nat:=0
def PySem.W.Fast.tw17026793494146880756:Nat:=0
def PySem.W.Fast.tw10176487539192935754:Nat:=0
def PySem.W.Fast.tw18404145523621073895:Nat:=0
def PySem.W.Fast.tw3720166181864945186:Nat:=0
def PySem.W.Fast.tw1045573563929127920:Nat:=0
def PySem.W.Fast.tw1421244865581596155:Nat:=0
def PySem.W.Fast.tw5308165877400209329:Nat:=0
def PySem.W.Fast.tw13057869345723901372:Nat:=0
def PySem.W.Fast.tw9203652479720195926:Nat:=0
def PySem.W.Fast.tw3026663457141422076:Nat:=0
def PySem.W.Fast.tw631269539254248489:Nat:=0
def PySem.W.Fast.tw6063199118414693508:Nat:=0
def PySem.W.Fast.tw14966169108224253890:Nat:=0
def PySem.W.Fast.tw1628920804467326950:Nat:=0
def PySem.W.Fast.tw17766767981169887453:Nat:=0
def PySem.W.Fast.tw3949963384064349165:Nat:=0
def PySem.W.Fast.tw1128212025608515579:Nat:=0
def PySem.W.Fast.tw12255223925988381742:Nat:=0
def PySem.W.Fast.tw11045866169315520695:Nat:=0
def PySem.W.Fast.tw14027960799342764804:Nat:=0
def PySem.W.Fast.tw9029205832405550582:Nat:=0
def PySem.W.Fast.tw8297593198203922214:Nat:=0
def PySem.W.Fast.tw5118738643036838215:Nat:=0
def PySem.W.Fast.tw5993700111327761610:Nat:=0
def PySem.W.Fast.tw5279137743607823635:Nat:=0
def PySem.W.Fast.tw17968470509781058025:Nat:=0
def PySem.W.Fast.tw8976221097678894366:Nat:=0
def PySem.W.Fast.tw18114874149852205957:Nat:=0
def PySem.W.Fast.tw6044262216294271966:Nat:=0
def PySem.W.Fast.tw15328448765488580196:Nat:=0
def PySem.W.Fast.tw14684987365127107118:Nat:=0
def PySem.W.Fast.tw15654934219190830133:Nat:=0
def PySem.W.Fast.tw17136694490152095407:Nat:=0
def PySem.W.Fast.tw9995430968516326263:Nat:=0
def PySem.W.Fast.tw12915309502145060356:Nat:=0
def PySem.W.Fast.tw7474718634750358669:Nat:=0
def PySem.W.Fast.tw12791500939332674955:Nat:=0
def PySem.W.Fast.tw13145180929207802616:Nat:=0
def PySem.W.Fast.tw7239089590743596179:Nat:=0
def PySem.W.Fast.tw7392920394046665628:Nat:=0
def PySem.W.Fast.tw5525045493496685866:Nat:=0
def PySem.W.Fast.tw15193949760488755526:Nat:=0
def PySem.W.Fast.tw9266737777388645627:Nat:=0
def PySem.W.Fast.tw16089219514226046308:Nat:=0
def PySem.W.Fast.tw2904493186765578601:Nat:=0
def PySem.W.Fast.tw11342581894506254053:Nat:=0
def PySem.W.Fast.tw15610683489466502263:Nat:=0
def PySem.W.Fast.tw16690167943979300535:Nat:=0
def PySem.W.Fast.tw14760776856619929955:Nat:=0
def PySem.W.Fast.tw1275986952442956691:Nat:=0
def PySem.W.Fast.tw3929193013175296201:Nat:=0
def PySem.W.Fast.tw7670101257480625736:Nat:=0
def PySem.W.Fast.tw10723910404735727237:Nat:=0
def PySem.W.Fast.tw7263552869008204797:Nat:=0
def PySem.W.Fast.tw5766169757764111099:Nat:=0
def PySem.W.Fast.tw13729511846456532931:Nat:=0
def PySem.W.Fast.tw2614015436723541117:Nat:=0
def PySem.W.Fast.tw3251400591137179326:Nat:=0
def PySem.W.Fast.tw577858077721228250:Nat:=0
def PySem.W.Fast.tw3152315130005765856:Nat:=0
def PySem.W.Fast.tw4152691646858702034:Nat:=0
def PySem.W.Fast.tw18294890198108649209:Nat:=0
def PySem.W.Fast.tw13045354479304067027:Nat:=0
def PySem.W.Fast.tw13993633260869377365:Nat:=0
def PySem.W.Fast.tw11565613787306589497:Nat:=0
def PySem.W.Fast.tw3634103880198180835:Nat:=0
def PySem.W.Fast.tw5836145362943955926:Nat:=0
def PySem.W.Fast.tw15103239618939983201:Nat:=0
def PySem.W.Fast.tw5678389653563597711:Nat:=0
def PySem.W.Fast.tw18082720093539082578:Nat:=0
def PySem.W.Fast.tw1821237933883152161:Nat:=0
def PySem.W.Fast.tw15101829825340636813:Nat:=0
def PySem.W.Fast.tw6767922168326456113:Nat:=0
def PySem.W.Fast.tw6321563392505006698:Nat:=0
def PySem.W.Fast.tw4426989372856025203:Nat:=0
def PySem.W.Fast.tw4399547262010237061:Nat:=0
def PySem.W.Fast.tw13469384697394304731:Nat:=0
def PySem.W.Fast.tw14706506099579683917:Nat:=0
def PySem.W.Fast.tw1771934028099780771:Nat:=0
def PySem.W.Fast.tw7032090551953659805:Nat:=0
def PySem.W.Fast.tw4000734454305220642:Nat:=0
def PySem.W.Fast.tw14604774882121725881:Nat:=0
def PySem.W.Fast.tw8352832773735022665:Nat:=0
def PySem.W.Fast.tw3868057031756158706:Nat:=0
def PySem.W.Fast.tw11420615345718940860:Nat:=0
def PySem.W.Fast.tw3107206387403353912:Nat:=0
def PySem.W.Fast.tw10325643406846794944:Nat:=0
def PySem.W.Fast.tw17411749975600420203:Nat:=0
def PySem.W.Fast.tw12452547270712819982:Nat:=0
def PySem.W.Fast.tw12061752147186860720:Nat:=0
def PySem.W.Fast.tw12486359461177923281:Nat:=0
def PySem.W.Fast.tw10490655602732631926:Nat:=0
def PySem.W.Fast.tw9889165714978828845:Nat:=0
def PySem.W.Fast.tw17616253098448869084:Nat:=0
def PySem.W.Fast.tw11626431065348354438:Nat:=0
def PySem.W.Fast.tw5935857502925388861:Nat:=0
def PySem.W.Fast.tw13673370392475762675:Nat:=0
def PySem.W.Fast.tw14429894077272255341:Nat:=0
def PySem.W.Fast.tw14066131586427978381:Nat:=0
def PySem.W.Fast.tw5269937190912752267:Nat:=0
def PySem.W.Fast.tw1504394403379085523:Nat:=0
def PySem.W.Fast.tw3320311365104863008:Nat:=0
def PySem.W.Fast.tw11193111038747721138:Nat:=0
def PySem.W.Fast.tw6442382694197915417:Nat:=0
def PySem.W.Fast.tw9701676684633267490:Nat:=0
def PySem.W.Fast.tw9050048437037196670:Nat:=0
def PySem.W.Fast.tw2790462766378965503:Nat:=0
def PySem.W.Fast.tw15805573593984223385:Nat:=0
def PySem.W.Fast.tw3175211345508003755:Nat:=0
def PySem.W.Fast.tw6220652525786507610:Nat:=0
def PySem.W.Fast.tw12007518708841527640:Nat:=0
def PySem.W.Fast.tw3659281675564718988:Nat:=0
def PySem.W.Fast.tw14023343721709616531:Nat:=0
def PySem.W.Fast.tw2871146976044233469:Nat:=0
def PySem.W.Fast.tw957159885887151220:Nat:=0
def PySem.W.Fast.tw1977811830042081332:Nat:=0
def PySem.W.Fast.tw12806437401933467293:Nat:=0
def PySem.W.Fast.tw756017985074316605:Nat:=0
def PySem.W.Fast.tw14353450409248620593:Nat:=0
def PySem.W.Fast.tw1169610634673530598:Nat:=0
def PySem.W.Fast.tw14580625212892273082:Nat:=0
def PySem.W.Fast.tw1767489083559411395:Nat:=0
def PySem.W.Fast.tw5129272617784125247:Nat:=0
def PySem.W.Fast.tw419084794538019883:Nat:=0
def PySem.W.Fast.tw8461287317208465132:Nat:=0
def PySem.W.Fast.tw7270971380130750074:Nat:=0
def PySem.W.Fast.tw6210167699367789638:Nat:=0
def PySem.W.Fast.tw11003548685052905436:Nat:=0
def PySem.W.Fast.tw12950738485393017282:Nat:=0
def PySem.W.Fast.tw2393413097064272378:Nat:=0
def PySem.W.Fast.tw10030250398467566955:Nat:=0
def PySem.W.Fast.tw1236175672037403164:Nat:=0
def PySem.W.Fast.tw14816879677043565196:Nat:=0
def PySem.W.Fast.tw10105891522543898509:Nat:=0
def PySem.W.Fast.tw15250869078667154483:Nat:=0
def PySem.W.Fast.tw13549999054265695497:Nat:=0
def PySem.W.Fast.tw16011157686690602513:Nat:=0
def PySem.W.Fast.tw10874456595738113533:Nat:=0
def PySem.W.Fast.tw16347682798748714648:Nat:=0
def PySem.W.Fast.tw12778373519119235257:Nat:=0
def PySem.W.Fast.tw8714095181735449750:Nat:=0
def PySem.W.Fast.tw782464523125093903:Nat:=0
def PySem.W.Fast.tw13194540901960235037:Nat:=0
def PySem.W.Fast.tw581287091204474390:Nat:=0
def PySem.W.Fast.tw7033599552280476106:Nat:=0
def PySem.W.Fast.tw5427218789486840731:Nat:=0
def PySem.W.Fast.tw17927248508382167568:Nat:=0
def PySem.W.Fast.tw16724822911684305702:Nat:=0
def PySem.W.Fast.tw7485661693314948849:Nat:=0
def PySem.W.Fast.tw10313943961263449983:Nat:=0
def PySem.W.Fast.tw14160902624963628986:Nat:=0
def PySem.W.Fast.tw12028563724609230811:Nat:=0
def PySem.W.Fast.tw12399328981360012007:Nat:=0
def PySem.W.Fast.tw13901945202881646187:Nat:=0
def PySem.W.Fast.tw7652157305732586053:Nat:=0
def PySem.W.Fast.tw127521254916944247:Nat:=0
def PySem.W.Fast.tw3533234198015772219:Nat:=0
def PySem.W.Fast.tw6551612634512410999:Nat:=0
def PySem.W.Fast.tw17221762081024338987:Nat:=0
def PySem.W.Fast.tw6565900932127942317:Nat:=0
def PySem.W.Fast.tw9784311254816695885:Nat:=0
def PySem.W.Fast.tw13029768246357684114:Nat:=0
def PySem.W.Fast.tw4473881652190757256:Nat:=0
def PySem.W.Fast.tw4688655650909459465:Nat:=0
def PySem.W.Fast.tw14175917646794752567:Nat:=0
def PySem.W.Fast.tw2275794633832112210:Nat:=0
def PySem.W.Fast.tw2631571482472123048:Nat:=0
def PySem.W.Fast.tw10501539681326615158:Nat:=0
def PySem.W.Fast.tw11009576401990745686:Nat:=0
def PySem.W.Fast.tw9961941817089436744:Nat:=0
def PySem.W.Fast.tw12138042267631928512:Nat:=0
def PySem.W.Fast.tw17280062110543739239:Nat:=0
def PySem.W.Fast.tw9968500169308047747:Nat:=0
def PySem.W.Fast.tw8290779307570537248:Nat:=0
def PySem.W.Fast.tw15685906714356435233:Nat:=0
def PySem.W.Fast.tw16260162333349324985:Nat:=0
def PySem.W.Fast.tw8907146855035375379:Nat:=0
def PySem.W.Fast.tw11569570149495720090:Nat:=0
def PySem.W.Fast.tw10944573014297374538:Nat:=0
def PySem.W.Fast.tw9419295986056169588:Nat:=0
def PySem.W.Fast.tw13293393801567938008:Nat:=0
def PySem.W.Fast.tw14760414547618181760:Nat:=0
def PySem.W.Fast.tw14052931339383259235:Nat:=0
def PySem.W.Fast.tw6496064779299508043:Nat:=0
def PySem.W.Fast.tw17351529397239614829:Nat:=0
def PySem.W.Fast.tw14256896410270775063:Nat:=0
def PySem.W.Fast.tw10470927118011024449:Nat:=0
def PySem.W.Fast.tw9265856100740466877:Nat:=0
def PySem.W.Fast.tw4828097926642249097:Nat:=0
def PySem.W.Fast.tw3345443366879785852:Nat:=0
def PySem.W.Fast.tw1901684254261312414:Nat:=0
def PySem.W.Fast.tw7579462176264114701:Nat:=0
def PySem.W.Fast.tw6981786355195430392:Nat:=0
def PySem.W.Fast.tw11126357554400764417:Nat:=0
def PySem.W.Fast.tw13616614551123817917:Nat:=0
def PySem.W.Fast.tw17230257541275182316:Nat:=0
def PySem.W.Fast.tw8385376336079781020:Nat:=0
def PySem.W.Fast.tw2365639512105373389:Nat:=0
def PySem.W.Fast.tw14380073253505973774:Nat:=0
def PySem.W.Fast.tw17557062232020616923:Nat:=0
def PySem.W.Fast.tw3874434050099700605:Nat:=0
def PySem.W.Fast.tw1213616626682611447:Nat:=0
def PySem.W.Fast.tw11551939440630868376:Nat:=0
def PySem.W.Fast.tw17424545590928797194:Nat:=0
def PySem.W.Fast.tw3374271793008822451:Nat:=0
def PySem.W.Fast.tw10534936994396192393:Nat:=0
def PySem.W.Fast.tw10819646946539608858:Nat:=0
def PySem.W.Fast.tw11760534252727026313:Nat:=0
def PySem.W.Fast.tw4120135672653532077:Nat:=0
def PySem.W.Fast.tw16713532700335148617:Nat:=0
def PySem.W.Fast.tw12593118691136034279:Nat:=0
def PySem.W.Fast.tw1709480943702068864:Nat:=0
def PySem.W.Fast.tw545764492879640262:Nat:=0
def PySem.W.Fast.tw8495896461239027316:Nat:=0
def PySem.W.Fast.tw17593215051007836953:Nat:=0
def PySem.W.Fast.tw13712744847485547430:Nat:=0
def PySem.W.Fast.tw11672399753061898800:Nat:=0
def PySem.W.Fast.tw10845545023505075360:Nat:=0
def PySem.W.Fast.tw8416448207643073588:Nat:=0
def PySem.W.Fast.tw436885799500136990:Nat:=0
def PySem.W.Fast.tw17654445239466364739:Nat:=0
def PySem.W.Fast.tw9884560433277161301:Nat:=0
def PySem.W.Fast.tw13903101312752207160:Nat:=0
def PySem.W.Fast.tw5562349540228752585:Nat:=0
def PySem.W.Fast.tw15633507095769283781:Nat:=0
def PySem.W.Fast.tw6902350923754963132:Nat:=0
def PySem.W.Fast.tw13233834149421371155:Nat:=0
def PySem.W.Fast.tw2115247283826963883:Nat:=0
def PySem.W.Fast.tw3443391266469006716:Nat:=0
def PySem.W.Fast.tw18362109919784843097:Nat:=0
def PySem.W.Fast.tw17303056371352600235:Nat:=0
def PySem.W.Fast.tw5429511650565269836:Nat:=0
def PySem.W.Fast.tw16650087783055791763:Nat:=0
def PySem.W.Fast.tw14663819341732630402:Nat:=0
def PySem.W.Fast.tw3705424590174808341:Nat:=0
def PySem.W.Fast.tw4030157200371577277:Nat:=0
def PySem.W.Fast.tw6770822773017498430:Nat:=0
def PySem.W.Fast.tw17354767448154097919:Nat:=0
def PySem.W.Fast.tw12495518268646427453:Nat:=0
def PySem.W.Fast.tw114307890335506081:Nat:=0
def PySem.W.Fast.tw3474088733456582972:Nat:=0
def PySem.W.Fast.tw3469392198344249245:Nat:=0
def PySem.W.Fast.tw11760317535720496195:Nat:=0
def PySem.W.Fast.tw14092166103867739031:Nat:=0
def PySem.W.Fast.tw12074265145141798611:Nat:=0
def PySem.W.Fast.tw7698461287465677861:Nat:=0
def PySem.W.Fast.tw4907853936664325682:Nat:=0
def PySem.W.Fast.tw451060140512050124:Nat:=0
def PySem.W.Fast.tw878085065448313606:Nat:=0
def PySem.W.Fast.tw11379425274903933213:Nat:=0
namespace Rk
open L2
theorem Qxw{l:PySem.W.OpenLaw}{w:JH}{K:PySem.W.Frag}{h:Zl}{mg:Str->Option Value}{fa f1 f2 f3 f4 f5 f6 f7 f8 f9 f10 f11 f12 f13 f14 f15 f16 f17 f18 f19 f20 f21 f22 f23 f24 f25 f26 f27 f28 f29 f30 f31 f32 f33 f34 f35:Addr}(X:K.In h)(G:h.Ns mainGlobals mg)(hfa:mg "law" = some (.ref fa))
  {od1 an1 od2 an2 od3 an3 od4 an4 od5 an5 od6 an6 od7 an7 od8 an8 od9 an9 od10 an10 od11 an11 od12 an12 od13 an13 od14 an14 od15 an15 od16 an16 od17 an17 od18 an18 od19 an19 od20 an20 od21 an21 od22 an22 od23 an23 od24 an24 od25 an25 od26 an26 od27 an27 od28 an28 od29 an29 od30 an30 od31 an31 od32 an32 od33 an33 od34 an34 od35 an35:Option Addr} {sl1 sl2 sl3 sl4 sl5 sl6 sl7 sl8 sl9 sl10 sl11 sl12 sl13 sl14 sl15 sl16 sl17 sl18 sl19 sl20 sl21 sl22 sl23 sl24 sl25 sl26 sl27 sl28 sl29 sl30 sl31 sl32 sl33 sl34 sl35:Array (Option Value)} {oc1 kV1 dc1 pm1 cd1 ct1 oc2 kV2 dc2 pm2 cd2 ct2 oc3 kV3 dc3 pm3 cd3 ct3 oc4 kV4 dc4 pm4 cd4 ct4 oc5 kV5 dc5 pm5 cd5 ct5 oc6 kV6 dc6 pm6 cd6 ct6 oc7 kV7 dc7 pm7 cd7 ct7 oc8 kV8 dc8 pm8 cd8 ct8 oc9 kV9 dc9 pm9 cd9 ct9 oc10 kV10 dc10 pm10 cd10 ct10 oc11 kV11 dc11 pm11 cd11 ct11 oc12 kV12 dc12 pm12 cd12 ct12 oc13 kV13 dc13 pm13 cd13 ct13 oc14 kV14 dc14 pm14 cd14 ct14 oc15 kV15 dc15 pm15 cd15 ct15 oc16 kV16 dc16 pm16 cd16 ct16 oc17 kV17 dc17 pm17 cd17 ct17 oc18 kV18 dc18 pm18 cd18 ct18 oc19 kV19 dc19 pm19 cd19 ct19 oc20 kV20 dc20 pm20 cd20 ct20 oc21 kV21 dc21 pm21 cd21 ct21 oc22 kV22 dc22 pm22 cd22 ct22 oc23 kV23 dc23 pm23 cd23 ct23 oc24 kV24 dc24 pm24 cd24 ct24 oc25 kV25 dc25 pm25 cd25 ct25 oc26 kV26 dc26 pm26 cd26 ct26 oc27 kV27 dc27 pm27 cd27 ct27 oc28 kV28 dc28 pm28 cd28 ct28 oc29 kV29 dc29 pm29 cd29 ct29 oc30 kV30 dc30 pm30 cd30 ct30 oc31 kV31 dc31 pm31 cd31 ct31 oc32 kV32 dc32 pm32 cd32 ct32 oc33 kV33 dc33 pm33 cd33 ct33 oc34 kV34 dc34 pm34 cd34 ct34 oc35 kV35 dc35 pm35 cd35 ct35:Value}
  (a1:PySem.W.nsIn K mainGlobals "is_whole" = some (some (.ref f1))) (l1:K.lookup f1=some ⟨oc1,od1,.func (PySem.W.fnOf "is_whole" "is_whole" (JL Qfz) (Jv Qfz) (Qs Qfz) .none kV1 dc1 pm1 an1 cd1 ct1),sl1⟩) (c1:PySem.W.codeIn K cd1 "is_whole" = true) (k1:PySem.W.keepIn K (.ref f1)=true)
  (a2:PySem.W.nsIn K mainGlobals "is_whole_within" = some (some (.ref f2)))(l2:K.lookup f2=some ⟨oc2,od2,.func (PySem.W.fnOf "is_whole_within" "is_whole_within" (JL Qdm) (Jv Qdm) (Qs Qdm) .none kV2 dc2 pm2 an2 cd2 ct2),sl2⟩)(c2:PySem.W.codeIn K cd2 "is_whole_within" = true)(k2:PySem.W.keepIn K (.ref f2)=true)
  (a3:PySem.W.nsIn K mainGlobals "is_rising" = some (some (.ref f3)))(l3:K.lookup f3=some ⟨oc3,od3,.func (PySem.W.fnOf "is_rising" "is_rising" (JL Qdn) (Jv Qdn) (Qs Qdn) .none kV3 dc3 pm3 an3 cd3 ct3),sl3⟩)(c3:PySem.W.codeIn K cd3 "is_rising" = true)(k3:PySem.W.keepIn K (.ref f3)=true)
  (a4:PySem.W.nsIn K mainGlobals "is_cells" = some (some (.ref f4)))(l4:K.lookup f4=some ⟨oc4,od4,.func (PySem.W.fnOf "is_cells" "is_cells" (JL QfE) (Jv QfE) (Qs QfE) .none kV4 dc4 pm4 an4 cd4 ct4),sl4⟩)(c4:PySem.W.codeIn K cd4 "is_cells" = true)(k4:PySem.W.keepIn K (.ref f4)=true)
  (a5:PySem.W.nsIn K mainGlobals "is_place" = some (some (.ref f5)))(l5:K.lookup f5=some ⟨oc5,od5,.func (PySem.W.fnOf "is_place" "is_place" (JL QfC) (Jv QfC) (Qs QfC) .none kV5 dc5 pm5 an5 cd5 ct5),sl5⟩)(c5:PySem.W.codeIn K cd5 "is_place" = true)(k5:PySem.W.keepIn K (.ref f5)=true)
  (a6:PySem.W.nsIn K mainGlobals "is_stand" = some (some (.ref f6)))(l6:K.lookup f6=some ⟨oc6,od6,.func (PySem.W.fnOf "is_stand" "is_stand" (JL QfA) (Jv QfA) (Qs QfA) .none kV6 dc6 pm6 an6 cd6 ct6),sl6⟩)(c6:PySem.W.codeIn K cd6 "is_stand" = true)(k6:PySem.W.keepIn K (.ref f6)=true)
  (a7:PySem.W.nsIn K mainGlobals "are_apart" = some (some (.ref f7)))(l7:K.lookup f7=some ⟨oc7,od7,.func (PySem.W.fnOf "are_apart" "are_apart" (JL QfF) (Jv QfF) (Qs QfF) .none kV7 dc7 pm7 an7 cd7 ct7),sl7⟩)(c7:PySem.W.codeIn K cd7 "are_apart" = true)(k7:PySem.W.keepIn K (.ref f7)=true)
  (a8:PySem.W.nsIn K mainGlobals "counts" = some (some (.ref f8)))(l8:K.lookup f8=some ⟨oc8,od8,.func (PySem.W.fnOf "counts" "counts" (JL Qdo) (Jv Qdo) (Qs Qdo) .none kV8 dc8 pm8 an8 cd8 ct8),sl8⟩)(c8:PySem.W.codeIn K cd8 "counts" = true)(k8:PySem.W.keepIn K (.ref f8)=true)
  (a9:PySem.W.nsIn K mainGlobals "most_size" = some (some (.ref f9)))(l9:K.lookup f9=some ⟨oc9,od9,.func (PySem.W.fnOf "most_size" "most_size" (JL QkQ) (Jv QkQ) (Qs QkQ) .none kV9 dc9 pm9 an9 cd9 ct9),sl9⟩)(c9:PySem.W.codeIn K cd9 "most_size" = true)(k9:PySem.W.keepIn K (.ref f9)=true)
  (a10:PySem.W.nsIn K mainGlobals "stand_at" = some (some (.ref f10)))(l10:K.lookup f10=some ⟨oc10,od10,.func (PySem.W.fnOf "stand_at" "stand_at" (JL Qcb) (Jv Qcb) (Qs Qcb) .none kV10 dc10 pm10 an10 cd10 ct10),sl10⟩)(c10:PySem.W.codeIn K cd10 "stand_at" = true)(k10:PySem.W.keepIn K (.ref f10)=true)
  (a11:PySem.W.nsIn K mainGlobals "number_of" = some (some (.ref f11)))(l11:K.lookup f11=some ⟨oc11,od11,.func (PySem.W.fnOf "number_of" "number_of" (JL QfD) (Jv QfD) (Qs QfD) .none kV11 dc11 pm11 an11 cd11 ct11),sl11⟩)(c11:PySem.W.codeIn K cd11 "number_of" = true)(k11:PySem.W.keepIn K (.ref f11)=true)
  (a12:PySem.W.nsIn K mainGlobals "next_stand" = some (some (.ref f12)))(l12:K.lookup f12=some ⟨oc12,od12,.func (PySem.W.fnOf "next_stand" "next_stand" (JL QkP) (Jv QkP) (Qs QkP) .none kV12 dc12 pm12 an12 cd12 ct12),sl12⟩)(c12:PySem.W.codeIn K cd12 "next_stand" = true)(k12:PySem.W.keepIn K (.ref f12)=true)
  (a13:PySem.W.nsIn K mainGlobals "refuse_no_size" = some (some (.ref f13)))(l13:K.lookup f13=some ⟨oc13,od13,.func (PySem.W.fnOf "refuse_no_size" "refuse_no_size" (JL QfB) (Jv QfB) (Qs QfB) .none kV13 dc13 pm13 an13 cd13 ct13),sl13⟩)(c13:PySem.W.codeIn K cd13 "refuse_no_size" = true)(k13:PySem.W.keepIn K (.ref f13)=true)
  (a14:PySem.W.nsIn K mainGlobals "followers" = some (some (.ref f14)))(l14:K.lookup f14=some ⟨oc14,od14,.func (PySem.W.fnOf "followers" "followers" (JL sFol) (Jv sFol) (Qs sFol) .none kV14 dc14 pm14 an14 cd14 ct14),sl14⟩)(c14:PySem.W.codeIn K cd14 "followers" = true)(k14:PySem.W.keepIn K (.ref f14)=true)
  (a15:PySem.W.nsIn K mainGlobals "row_behind" = some (some (.ref f15)))(l15:K.lookup f15=some ⟨oc15,od15,.func (PySem.W.fnOf "row_behind" "row_behind" (JL QkO) (Jv QkO) (Qs QkO) .none kV15 dc15 pm15 an15 cd15 ct15),sl15⟩)(c15:PySem.W.codeIn K cd15 "row_behind" = true)(k15:PySem.W.keepIn K (.ref f15)=true)
  (a16:PySem.W.nsIn K mainGlobals "cell_at" = some (some (.ref f16)))(l16:K.lookup f16=some ⟨oc16,od16,.func (PySem.W.fnOf "cell_at" "cell_at" (JL Qdp) (Jv Qdp) (Qs Qdp) .none kV16 dc16 pm16 an16 cd16 ct16),sl16⟩)(c16:PySem.W.codeIn K cd16 "cell_at" = true)(k16:PySem.W.keepIn K (.ref f16)=true)
  (a17:PySem.W.nsIn K mainGlobals "ways_behind" = some (some (.ref f17)))(l17:K.lookup f17=some ⟨oc17,od17,.func (PySem.W.fnOf "ways_behind" "ways_behind" (JL QkN) (Jv QkN) (Qs QkN) .none kV17 dc17 pm17 an17 cd17 ct17),sl17⟩)(c17:PySem.W.codeIn K cd17 "ways_behind" = true)(k17:PySem.W.keepIn K (.ref f17)=true)
  (a18:PySem.W.nsIn K mainGlobals "ways_to_go_on" = some (some (.ref f18)))(l18:K.lookup f18=some ⟨oc18,od18,.func (PySem.W.fnOf "ways_to_go_on" "ways_to_go_on" (JL QkM) (Jv QkM) (Qs QkM) .none kV18 dc18 pm18 an18 cd18 ct18),sl18⟩)(c18:PySem.W.codeIn K cd18 "ways_to_go_on" = true)(k18:PySem.W.keepIn K (.ref f18)=true)
  (a19:PySem.W.nsIn K mainGlobals "ways_with_row" = some (some (.ref f19)))(l19:K.lookup f19=some ⟨oc19,od19,.func (PySem.W.fnOf "ways_with_row" "ways_with_row" (JL sRow) (Jv sRow) (Qs sRow) .none kV19 dc19 pm19 an19 cd19 ct19),sl19⟩)(c19:PySem.W.codeIn K cd19 "ways_with_row" = true)(k19:PySem.W.keepIn K (.ref f19)=true)
  (a20:PySem.W.nsIn K mainGlobals "_law_cell_at" = some (some (.ref f20)))(l20:K.lookup f20=some ⟨oc20,od20,.func (PySem.W.fnOf "_law_cell_at" "_law_cell_at" (JL QdC) (Jv QdC) (Qs QdC) .none kV20 dc20 pm20 an20 cd20 ct20),sl20⟩)(c20:PySem.W.codeIn K cd20 "_law_cell_at" = true)(k20:PySem.W.keepIn K (.ref f20)=true)
  (a21:PySem.W.nsIn K mainGlobals "_law_pot" = some (some (.ref f21)))(l21:K.lookup f21=some ⟨oc21,od21,.func (PySem.W.fnOf "_law_pot" "_law_pot" (JL lPot) (Jv lPot) (Qs lPot) .none kV21 dc21 pm21 an21 cd21 ct21),sl21⟩)(c21:PySem.W.codeIn K cd21 "_law_pot" = true)(k21:PySem.W.keepIn K (.ref f21)=true)
  (a22:PySem.W.nsIn K mainGlobals "_law_take" = some (some (.ref f22)))(l22:K.lookup f22=some ⟨oc22,od22,.func (PySem.W.fnOf "_law_take" "_law_take" (JL Qla) (Jv Qla) (Qs Qla) .none kV22 dc22 pm22 an22 cd22 ct22),sl22⟩)(c22:PySem.W.codeIn K cd22 "_law_take" = true)(k22:PySem.W.keepIn K (.ref f22)=true)
  (a23:PySem.W.nsIn K mainGlobals "_law_board" = some (some (.ref f23)))(l23:K.lookup f23=some ⟨oc23,od23,.func (PySem.W.fnOf "_law_board" "_law_board" (JL QfU) (Jv QfU) (Qs QfU) .none kV23 dc23 pm23 an23 cd23 ct23),sl23⟩)(c23:PySem.W.codeIn K cd23 "_law_board" = true)(k23:PySem.W.keepIn K (.ref f23)=true)
  (a24:PySem.W.nsIn K mainGlobals "_law_odd" = some (some (.ref f24)))(l24:K.lookup f24=some ⟨oc24,od24,.func (PySem.W.fnOf "_law_odd" "_law_odd" (JL lOdd) (Jv lOdd) (Qs lOdd) .none kV24 dc24 pm24 an24 cd24 ct24),sl24⟩)(c24:PySem.W.codeIn K cd24 "_law_odd" = true)(k24:PySem.W.keepIn K (.ref f24)=true)
  (a25:PySem.W.nsIn K mainGlobals "_law_kind_of" = some (some (.ref f25)))(l25:K.lookup f25=some ⟨oc25,od25,.func (PySem.W.fnOf "_law_kind_of" "_law_kind_of" (JL Qlc) (Jv Qlc) (Qs Qlc) .none kV25 dc25 pm25 an25 cd25 ct25),sl25⟩)(c25:PySem.W.codeIn K cd25 "_law_kind_of" = true)(k25:PySem.W.keepIn K (.ref f25)=true)
  (a26:PySem.W.nsIn K mainGlobals "_law_whole" = some (some (.ref f26)))(l26:K.lookup f26=some ⟨oc26,od26,.func (PySem.W.fnOf "_law_whole" "_law_whole" (JL QdV) (Jv QdV) (Qs QdV) .none kV26 dc26 pm26 an26 cd26 ct26),sl26⟩)(c26:PySem.W.codeIn K cd26 "_law_whole" = true)(k26:PySem.W.keepIn K (.ref f26)=true)
  (a27:PySem.W.nsIn K mainGlobals "_law_same" = some (some (.ref f27)))(l27:K.lookup f27=some ⟨oc27,od27,.func (PySem.W.fnOf "_law_same" "_law_same" (JL Qlb) (Jv Qlb) (Qs Qlb) .none kV27 dc27 pm27 an27 cd27 ct27),sl27⟩)(c27:PySem.W.codeIn K cd27 "_law_same" = true)(k27:PySem.W.keepIn K (.ref f27)=true)
  (a28:PySem.W.nsIn K mainGlobals "_law_is_place" = some (some (.ref f28)))(l28:K.lookup f28=some ⟨oc28,od28,.func (PySem.W.fnOf "_law_is_place" "_law_is_place" (JL QfT) (Jv QfT) (Qs QfT) .none kV28 dc28 pm28 an28 cd28 ct28),sl28⟩)(c28:PySem.W.codeIn K cd28 "_law_is_place" = true)(k28:PySem.W.keepIn K (.ref f28)=true)
  (a29:PySem.W.nsIn K mainGlobals "_law_rises" = some (some (.ref f29)))(l29:K.lookup f29=some ⟨oc29,od29,.func (PySem.W.fnOf "_law_rises" "_law_rises" (JL QfS) (Jv QfS) (Qs QfS) .none kV29 dc29 pm29 an29 cd29 ct29),sl29⟩)(c29:PySem.W.codeIn K cd29 "_law_rises" = true)(k29:PySem.W.keepIn K (.ref f29)=true)
  (a30:PySem.W.nsIn K mainGlobals "_law_is_stand" = some (some (.ref f30)))(l30:K.lookup f30=some ⟨oc30,od30,.func (PySem.W.fnOf "_law_is_stand" "_law_is_stand" (JL lIsS) (Jv lIsS) (Qs lIsS) .none kV30 dc30 pm30 an30 cd30 ct30),sl30⟩)(c30:PySem.W.codeIn K cd30 "_law_is_stand" = true)(k30:PySem.W.keepIn K (.ref f30)=true)
  (a31:PySem.W.nsIn K mainGlobals "_law_stands" = some (some (.ref f31)))(l31:K.lookup f31=some ⟨oc31,od31,.func (PySem.W.fnOf "_law_stands" "_law_stands" (JL QdA) (Jv QdA) (Qs QdA) .none kV31 dc31 pm31 an31 cd31 ct31),sl31⟩)(c31:PySem.W.codeIn K cd31 "_law_stands" = true)(k31:PySem.W.keepIn K (.ref f31)=true)
  (a32:PySem.W.nsIn K mainGlobals "_law_told" = some (some (.ref f32)))(l32:K.lookup f32=some ⟨oc32,od32,.func (PySem.W.fnOf "_law_told" "_law_told" (JL Qk9) (Jv Qk9) (Qs Qk9) .none kV32 dc32 pm32 an32 cd32 ct32),sl32⟩)(c32:PySem.W.codeIn K cd32 "_law_told" = true)(k32:PySem.W.keepIn K (.ref f32)=true)
  (a33:PySem.W.nsIn K mainGlobals "_law_numbers_right" = some (some (.ref f33)))(l33:K.lookup f33=some ⟨oc33,od33,.func (PySem.W.fnOf "_law_numbers_right" "_law_numbers_right" (JL QdB) (Jv QdB) (Qs QdB) .none kV33 dc33 pm33 an33 cd33 ct33),sl33⟩)(c33:PySem.W.codeIn K cd33 "_law_numbers_right" = true)(k33:PySem.W.keepIn K (.ref f33)=true)
  (a34:PySem.W.nsIn K mainGlobals "_law_bad" = some (some (.ref f34)))(l34:K.lookup f34=some ⟨oc34,od34,.func (PySem.W.fnOf "_law_bad" "_law_bad" (JL lBad) (Jv lBad) (Qs lBad) .none kV34 dc34 pm34 an34 cd34 ct34),sl34⟩)(c34:PySem.W.codeIn K cd34 "_law_bad" = true)(k34:PySem.W.keepIn K (.ref f34)=true)
  (a35:PySem.W.nsIn K mainGlobals "law" = some (some (.ref f35)))(l35:K.lookup f35=some ⟨oc35,od35,.func (PySem.W.fnOf "law" "law" (JL sLaw) (Jv sLaw) (Qs sLaw) .none kV35 dc35 pm35 an35 cd35 ct35),sl35⟩)(c35:PySem.W.codeIn K cd35 "law" = true)(k35:PySem.W.keepIn K (.ref f35)=true)
  (z1:PySem.W.nsIn K mainGlobals "isinstance" = some none)
  (z2:PySem.W.nsIn K mainGlobals "int" = some none)
  (z3:PySem.W.nsIn K mainGlobals "bool" = some none)
  (z4:PySem.W.nsIn K mainGlobals "str" = some none)
  (z5:PySem.W.nsIn K mainGlobals "tuple" = some none)
  (z6:PySem.W.nsIn K mainGlobals "list" = some none)
  (z7:PySem.W.nsIn K mainGlobals "all" = some none)
  (z8:PySem.W.nsIn K mainGlobals "len" = some none)
  (z9:PySem.W.nsIn K mainGlobals "zip" = some none)
  (z10:PySem.W.nsIn K mainGlobals "enumerate" = some none)
  (z11:PySem.W.nsIn K mainGlobals "range" = some none)
  (z12:PySem.W.nsIn K mainGlobals "max" = some none)
  (z13:PySem.W.nsIn K mainGlobals "min" = some none)
  (z14:PySem.W.nsIn K mainGlobals "sorted" = some none)
  (z15:PySem.W.nsIn K mainGlobals "sum" = some none)
  (z16:PySem.W.nsIn K mainGlobals "set" = some none)
  (z17:PySem.W.nsIn K mainGlobals "any" = some none)
  (z18:PySem.W.nsIn K mainGlobals "reversed" = some none)
  (z19:PySem.W.nsIn K mainGlobals "divmod" = some none)
  (z20:PySem.W.nsIn K mainGlobals "ValueError" = some none)
  {cc1:Addr} (e1:PySem.W.nsIn K mainGlobals "NoText" = some (some (.ref cc1)))
  {cc2:Addr} (e2:PySem.W.nsIn K mainGlobals "NoOrder" = some (some (.ref cc2)))
  {cc3:Addr} (e3:PySem.W.nsIn K mainGlobals "NoLines" = some (some (.ref cc3)))
  {cc4:Addr} (e4:PySem.W.nsIn K mainGlobals "TooFew" = some (some (.ref cc4)))
  {cc5:Addr} (e5:PySem.W.nsIn K mainGlobals "NoSize" = some (some (.ref cc5)))
  {cc6:Addr} (e6:PySem.W.nsIn K mainGlobals "TooMany" = some (some (.ref cc6)))
  {cc7:Addr} (e7:PySem.W.nsIn K mainGlobals "NoNumber" = some (some (.ref cc7)))
  {cc8:Addr} (e8:PySem.W.nsIn K mainGlobals "NoStand" = some (some (.ref cc8)))
  {cc9:Addr} (e9:PySem.W.nsIn K mainGlobals "NoCell" = some (some (.ref cc9)))
  {cc10:Addr} (e10:PySem.W.nsIn K mainGlobals "NotSquare" = some (some (.ref cc10)))
  {cc11:Addr} (e11:PySem.W.nsIn K mainGlobals "NoHits" = some (some (.ref cc11)))
  {cc12:Addr} (e12:PySem.W.nsIn K mainGlobals "NoCounts" = some (some (.ref cc12)))
  {cc13:Addr} (e13:PySem.W.nsIn K mainGlobals "NoStairs" = some (some (.ref cc13)))
  {cc14:Addr} (e14:PySem.W.nsIn K mainGlobals "NotAlike" = some (some (.ref cc14)))
  {cc15:Addr} (e15:PySem.W.nsIn K mainGlobals "NoParting" = some (some (.ref cc15)))
  {cc16:Addr} (e16:PySem.W.nsIn K mainGlobals "NoPlace" = some (some (.ref cc16)))
  {cc17:Addr} (e17:PySem.W.nsIn K mainGlobals "Double" = some (some (.ref cc17)))
  {cc18:Addr} (e18:PySem.W.nsIn K mainGlobals "NoDeed" = some (some (.ref cc18)))
  {cc19:Addr} (e19:PySem.W.nsIn K mainGlobals "NoRow" = some (some (.ref cc19)))
  {cR:Addr} (eR:PySem.W.nsIn K mainGlobals "RookError" = some (some (.ref cR)))
  (r1:PySem.W.typeIn K (.ref cR)=some (.type "type"))
  {dR:_} (r2:PySem.W.clsIn K cR=some dR)
  (r3:PySem.W.mroIn K cR (.type "BaseException")=some true)
  (u1:PySem.W.specialIn K (.builtin "object.__class__") "__get__" = some (some (.builtin "getset_descriptor.__get__")))
  (u2:PySem.W.takesIn K (.builtin "object.__class__")=some true)
  (q5x:PySem.W.excIn K cc5 Rx.mroV "ValueError.__new__" = true)
  (q5r:PySem.W.mroIn K cc5 (.ref cR)=some true)
  (q5g:PySem.W.findIn K (.ref cc5) "__getattribute__" = some (some (.builtin "BaseException.__getattribute__")))
  (q5h:PySem.W.findIn K (.ref cc5) "__getattr__" = some none)
  (q5b:PySem.W.mroIn K cc5 (.type "BaseException")=some true)
  {dq5:_} (q5c:PySem.W.clsIn K cc5=some dq5)
  (q5a:PySem.W.findIn K (.ref cc5) "__class__" = some (some (.builtin "object.__class__")))
  (q5o:PySem.W.mroIn K cc5 (.type "object")=some true)
  (q5v:PySem.W.kitOne K (.ref cc5) (.type "ValueError")=some true)
  (q5k1:PySem.W.kitOne K (.ref cc5) (.ref cc1)=some false)
  (q5k2:PySem.W.kitOne K (.ref cc5) (.ref cc2)=some false)
  (q5k3:PySem.W.kitOne K (.ref cc5) (.ref cc3)=some false)
  (q5k4:PySem.W.kitOne K (.ref cc5) (.ref cc4)=some false)
  (q5k5:PySem.W.kitOne K (.ref cc5) (.ref cc5)=some true)
  (q5k6:PySem.W.kitOne K (.ref cc5) (.ref cc6)=some false)
  (q5k7:PySem.W.kitOne K (.ref cc5) (.ref cc7)=some false)
  (q5k8:PySem.W.kitOne K (.ref cc5) (.ref cc8)=some false)
  (q5k9:PySem.W.kitOne K (.ref cc5) (.ref cc9)=some false)
  (q5k10:PySem.W.kitOne K (.ref cc5) (.ref cc10)=some false)
  (q5k11:PySem.W.kitOne K (.ref cc5) (.ref cc11)=some false)
  (q5k12:PySem.W.kitOne K (.ref cc5) (.ref cc12)=some false)
  (q5k13:PySem.W.kitOne K (.ref cc5) (.ref cc13)=some false)
  (q5k14:PySem.W.kitOne K (.ref cc5) (.ref cc14)=some false)
  (q5k15:PySem.W.kitOne K (.ref cc5) (.ref cc15)=some false)
  (q5k16:PySem.W.kitOne K (.ref cc5) (.ref cc16)=some false)
  (q5k17:PySem.W.kitOne K (.ref cc5) (.ref cc17)=some false)
  (q5k18:PySem.W.kitOne K (.ref cc5) (.ref cc18)=some false)
  (q5k19:PySem.W.kitOne K (.ref cc5) (.ref cc19)=some false)
  (q7x:PySem.W.excIn K cc7 Rx.mroV "ValueError.__new__" = true)
  (q7r:PySem.W.mroIn K cc7 (.ref cR)=some true)
  (q7g:PySem.W.findIn K (.ref cc7) "__getattribute__" = some (some (.builtin "BaseException.__getattribute__")))
  (q7h:PySem.W.findIn K (.ref cc7) "__getattr__" = some none)
  (q7b:PySem.W.mroIn K cc7 (.type "BaseException")=some true)
  {dq7:_} (q7c:PySem.W.clsIn K cc7=some dq7)
  (q7a:PySem.W.findIn K (.ref cc7) "__class__" = some (some (.builtin "object.__class__")))
  (q7o:PySem.W.mroIn K cc7 (.type "object")=some true)
  (q7v:PySem.W.kitOne K (.ref cc7) (.type "ValueError")=some true)
  (q7k1:PySem.W.kitOne K (.ref cc7) (.ref cc1)=some false)
  (q7k2:PySem.W.kitOne K (.ref cc7) (.ref cc2)=some false)
  (q7k3:PySem.W.kitOne K (.ref cc7) (.ref cc3)=some false)
  (q7k4:PySem.W.kitOne K (.ref cc7) (.ref cc4)=some false)
  (q7k5:PySem.W.kitOne K (.ref cc7) (.ref cc5)=some false)
  (q7k6:PySem.W.kitOne K (.ref cc7) (.ref cc6)=some false)
  (q7k7:PySem.W.kitOne K (.ref cc7) (.ref cc7)=some true)
  (q7k8:PySem.W.kitOne K (.ref cc7) (.ref cc8)=some false)
  (q7k9:PySem.W.kitOne K (.ref cc7) (.ref cc9)=some false)
  (q7k10:PySem.W.kitOne K (.ref cc7) (.ref cc10)=some false)
  (q7k11:PySem.W.kitOne K (.ref cc7) (.ref cc11)=some false)
  (q7k12:PySem.W.kitOne K (.ref cc7) (.ref cc12)=some false)
  (q7k13:PySem.W.kitOne K (.ref cc7) (.ref cc13)=some false)
  (q7k14:PySem.W.kitOne K (.ref cc7) (.ref cc14)=some false)
  (q7k15:PySem.W.kitOne K (.ref cc7) (.ref cc15)=some false)
  (q7k16:PySem.W.kitOne K (.ref cc7) (.ref cc16)=some false)
  (q7k17:PySem.W.kitOne K (.ref cc7) (.ref cc17)=some false)
  (q7k18:PySem.W.kitOne K (.ref cc7) (.ref cc18)=some false)
  (q7k19:PySem.W.kitOne K (.ref cc7) (.ref cc19)=some false)
  (q8x:PySem.W.excIn K cc8 Rx.mroV "ValueError.__new__" = true)
  (q8r:PySem.W.mroIn K cc8 (.ref cR)=some true)
  (q8g:PySem.W.findIn K (.ref cc8) "__getattribute__" = some (some (.builtin "BaseException.__getattribute__")))
  (q8h:PySem.W.findIn K (.ref cc8) "__getattr__" = some none)
  (q8b:PySem.W.mroIn K cc8 (.type "BaseException")=some true)
  {dq8:_} (q8c:PySem.W.clsIn K cc8=some dq8)
  (q8a:PySem.W.findIn K (.ref cc8) "__class__" = some (some (.builtin "object.__class__")))
  (q8o:PySem.W.mroIn K cc8 (.type "object")=some true)
  (q8v:PySem.W.kitOne K (.ref cc8) (.type "ValueError")=some true)
  (q8k1:PySem.W.kitOne K (.ref cc8) (.ref cc1)=some false)
  (q8k2:PySem.W.kitOne K (.ref cc8) (.ref cc2)=some false)
  (q8k3:PySem.W.kitOne K (.ref cc8) (.ref cc3)=some false)
  (q8k4:PySem.W.kitOne K (.ref cc8) (.ref cc4)=some false)
  (q8k5:PySem.W.kitOne K (.ref cc8) (.ref cc5)=some false)
  (q8k6:PySem.W.kitOne K (.ref cc8) (.ref cc6)=some false)
  (q8k7:PySem.W.kitOne K (.ref cc8) (.ref cc7)=some false)
  (q8k8:PySem.W.kitOne K (.ref cc8) (.ref cc8)=some true)
  (q8k9:PySem.W.kitOne K (.ref cc8) (.ref cc9)=some false)
  (q8k10:PySem.W.kitOne K (.ref cc8) (.ref cc10)=some false)
  (q8k11:PySem.W.kitOne K (.ref cc8) (.ref cc11)=some false)
  (q8k12:PySem.W.kitOne K (.ref cc8) (.ref cc12)=some false)
  (q8k13:PySem.W.kitOne K (.ref cc8) (.ref cc13)=some false)
  (q8k14:PySem.W.kitOne K (.ref cc8) (.ref cc14)=some false)
  (q8k15:PySem.W.kitOne K (.ref cc8) (.ref cc15)=some false)
  (q8k16:PySem.W.kitOne K (.ref cc8) (.ref cc16)=some false)
  (q8k17:PySem.W.kitOne K (.ref cc8) (.ref cc17)=some false)
  (q8k18:PySem.W.kitOne K (.ref cc8) (.ref cc18)=some false)
  (q8k19:PySem.W.kitOne K (.ref cc8) (.ref cc19)=some false)
  :
  ∃fd:QL,(∀(s:Shared)(v:Value),Qd1 s fd ⟨[v],[]⟩ [("_law_script",v)])/\∀base:Zl,K.In base->base.Ns mainGlobals mg->FnOk l.prog w K mg base CX0 10 fa fd ["_law_script"] (Dl.Qfx K):=by
 have e:=hfa.symm.trans (PySem.W.mg_of X G a35);cases e;have T:=(⟨(PySem.W.mg_none_of X G z1),(PySem.W.mg_none_of X G z2),(PySem.W.mg_none_of X G z3),(PySem.W.mg_none_of X G z4),(PySem.W.mg_none_of X G z5),(PySem.W.mg_none_of X G z6),(PySem.W.mg_none_of X G z7),(PySem.W.mg_none_of X G z8),(PySem.W.mg_none_of X G z9),(PySem.W.mg_none_of X G z10),(PySem.W.mg_none_of X G z11),(PySem.W.mg_none_of X G z12),(PySem.W.mg_none_of X G z13),(PySem.W.mg_none_of X G z14),(PySem.W.mg_none_of X G z15),(PySem.W.mg_none_of X G z16),(PySem.W.mg_none_of X G z17),(PySem.W.mg_none_of X G z18),(PySem.W.mg_none_of X G z19)⟩:GlbA mg);have F1:=ZF (st:=Qfz) l1 c1 k1;have b1:=F1.binds (ps:=["thing"]) λ_ _ _ _ _ _ us hl=>match us,hl with | [_],_=>rfl
 have m1:=PySem.W.mg_of X G a1;have F2:=ZF (st:=Qdm) l2 c2 k2;have b2:=F2.binds (ps:=["thing", "least", "most"]) λ_ _ _ _ _ _ us hl=>match us,hl with | [_,_,_],_=>rfl
 have m2:=PySem.W.mg_of X G a2;have F3:=ZF (st:=Qdn) l3 c3 k3;have b3:=F3.binds (ps:=["things"]) λ_ _ _ _ _ _ us hl=>match us,hl with | [_],_=>rfl
 have m3:=PySem.W.mg_of X G a3;have F4:=ZF (st:=QfE) l4 c4 k4;have b4:=F4.binds (ps:=["high", "wide", "thing"]) λ_ _ _ _ _ _ us hl=>match us,hl with | [_,_,_],_=>rfl
 have m4:=PySem.W.mg_of X G a4;have F5:=ZF (st:=QfC) l5 c5 k5;have b5:=F5.binds (ps:=["high", "wide", "thing"]) λ_ _ _ _ _ _ us hl=>match us,hl with | [_,_,_],_=>rfl
 have m5:=PySem.W.mg_of X G a5;have F6:=ZF (st:=QfA) l6 c6 k6;have b6:=F6.binds (ps:=["board", "thing"]) λ_ _ _ _ _ _ us hl=>match us,hl with | [_,_],_=>rfl
 have m6:=PySem.W.mg_of X G a6;have F7:=ZF (st:=QfF) l7 c7 k7;have b7:=F7.binds (ps:=["cells"]) λ_ _ _ _ _ _ us hl=>match us,hl with | [_],_=>rfl
 have m7:=PySem.W.mg_of X G a7;have F8:=ZF (st:=Qdo) l8 c8 k8;have b8:=F8.binds (ps:=["board"]) λ_ _ _ _ _ _ us hl=>match us,hl with | [_],_=>rfl
 have m8:=PySem.W.mg_of X G a8;have F9:=ZF (st:=QkQ) l9 c9 k9;have b9:=F9.binds (ps:=["board"]) λ_ _ _ _ _ _ us hl=>match us,hl with | [_],_=>rfl
 have m9:=PySem.W.mg_of X G a9;have F10:=ZF (st:=Qcb) l10 c10 k10;have b10:=F10.binds (ps:=["board", "size", "number"]) λ_ _ _ _ _ _ us hl=>match us,hl with | [_,_,_],_=>rfl
 have m10:=PySem.W.mg_of X G a10;have F11:=ZF (st:=QfD) l11 c11 k11;have b11:=F11.binds (ps:=["board", "stand"]) λ_ _ _ _ _ _ us hl=>match us,hl with | [_,_],_=>rfl
 have m11:=PySem.W.mg_of X G a11;have F12:=ZF (st:=QkP) l12 c12 k12;have b12:=F12.binds (ps:=["board", "stand"]) λ_ _ _ _ _ _ us hl=>match us,hl with | [_,_],_=>rfl
 have m12:=PySem.W.mg_of X G a12;have F13:=ZF (st:=QfB) l13 c13 k13;have b13:=F13.binds (ps:=["board", "size"]) λ_ _ _ _ _ _ us hl=>match us,hl with | [_,_],_=>rfl
 have m13:=PySem.W.mg_of X G a13;have F14:=ZF (st:=sFol) l14 c14 k14;have b14:=F14.binds (ps:=["board", "start"]) λ_ _ _ _ _ _ us hl=>match us,hl with | [_,_],_=>rfl
 have m14:=PySem.W.mg_of X G a14;have F15:=ZF (st:=QkO) l15 c15 k15;have b15:=F15.binds (ps:=["start"]) λ_ _ _ _ _ _ us hl=>match us,hl with | [_],_=>rfl
 have m15:=PySem.W.mg_of X G a15;have F16:=ZF (st:=Qdp) l16 c16 k16;have b16:=F16.binds (ps:=["board", "table", "start", "more", "number"]) λ_ _ _ _ _ _ us hl=>match us,hl with | [_,_,_,_,_],_=>rfl
 have m16:=PySem.W.mg_of X G a16;have F17:=ZF (st:=QkN) l17 c17 k17;have b17:=F17.binds (ps:=["table", "start", "more"]) λ_ _ _ _ _ _ us hl=>match us,hl with | [_,_,_],_=>rfl
 have m17:=PySem.W.mg_of X G a17;have F18:=ZF (st:=QkM) l18 c18 k18;have b18:=F18.binds (ps:=["board"]) λ_ _ _ _ _ _ us hl=>match us,hl with | [_],_=>rfl
 have m18:=PySem.W.mg_of X G a18;have F19:=ZF (st:=sRow) l19 c19 k19;have b19:=F19.binds (ps:=["below", "columns", "taken"]) λ_ _ _ _ _ _ us hl=>match us,hl with | [_,_,_],_=>rfl
 have m19:=PySem.W.mg_of X G a19;have F20:=ZF (st:=QdC) l20 c20 k20;have b20:=F20.binds (ps:=["_law_script", "_law_k"]) λ_ _ _ _ _ _ us hl=>match us,hl with | [_,_],_=>rfl
 have m20:=PySem.W.mg_of X G a20;have F21:=ZF (st:=lPot) l21 c21 k21;have b21:=F21.binds (ps:=["_law_cell"]) λ_ _ _ _ _ _ us hl=>match us,hl with | [_],_=>rfl
 have m21:=PySem.W.mg_of X G a21;have F22:=ZF (st:=Qla) l22 c22 k22;have b22:=F22.binds (ps:=["_law_pot_here", "_law_far"]) λ_ _ _ _ _ _ us hl=>match us,hl with | [_,_],_=>rfl
 have m22:=PySem.W.mg_of X G a22;have F23:=ZF (st:=QfU) l23 c23 k23;have b23:=F23.binds (ps:=["_law_pot_here", "_law_most"]) λ_ _ _ _ _ _ us hl=>match us,hl with | [_,_],_=>rfl
 have m23:=PySem.W.mg_of X G a23;have F24:=ZF (st:=lOdd) l24 c24 k24;have b24:=F24.binds (ps:=["_law_pot_here"]) λ_ _ _ _ _ _ us hl=>match us,hl with | [_],_=>rfl
 have m24:=PySem.W.mg_of X G a24;have F25:=ZF (st:=Qlc) l25 c25 k25;have b25:=F25.binds (ps:=["_law_e"]) λ_ _ _ _ _ _ us hl=>match us,hl with | [_],_=>rfl
 have m25:=PySem.W.mg_of X G a25;have F26:=ZF (st:=QdV) l26 c26 k26;have b26:=F26.binds (ps:=["_law_thing"]) λ_ _ _ _ _ _ us hl=>match us,hl with | [_],_=>rfl
 have m26:=PySem.W.mg_of X G a26;have F27:=ZF (st:=Qlb) l27 c27 k27;have b27:=F27.binds (ps:=["_law_found", "_law_due"]) λ_ _ _ _ _ _ us hl=>match us,hl with | [_,_],_=>rfl
 have m27:=PySem.W.mg_of X G a27;have F28:=ZF (st:=QfT) l28 c28 k28;have b28:=F28.binds (ps:=["_law_thing", "_law_high", "_law_wide"]) λ_ _ _ _ _ _ us hl=>match us,hl with | [_,_,_],_=>rfl
 have m28:=PySem.W.mg_of X G a28;have F29:=ZF (st:=QfS) l29 c29 k29;have b29:=F29.binds (ps:=["_law_things"]) λ_ _ _ _ _ _ us hl=>match us,hl with | [_],_=>rfl
 have m29:=PySem.W.mg_of X G a29;have F30:=ZF (st:=lIsS) l30 c30 k30;have b30:=F30.binds (ps:=["_law_board_here", "_law_thing"]) λ_ _ _ _ _ _ us hl=>match us,hl with | [_,_],_=>rfl
 have m30:=PySem.W.mg_of X G a30;have F31:=ZF (st:=QdA) l31 c31 k31;have b31:=F31.binds (ps:=["_law_board_here"]) λ_ _ _ _ _ _ us hl=>match us,hl with | [_],_=>rfl
 have m31:=PySem.W.mg_of X G a31;have F32:=ZF (st:=Qk9) l32 c32 k32;have b32:=F32.binds (ps:=["_law_way", "_law_board_here", "_law_one", "_law_other"]) λ_ _ _ _ _ _ us hl=>match us,hl with | [_,_,_,_],_=>rfl
 have m32:=PySem.W.mg_of X G a32;have F33:=ZF (st:=QdB) l33 c33 k33;have b33:=F33.binds (ps:=["_law_pot_here", "_law_board_here", "_law_some", "_law_size"]) λ_ _ _ _ _ _ us hl=>match us,hl with | [_,_,_,_],_=>rfl
 have m33:=PySem.W.mg_of X G a33;have F34:=ZF (st:=lBad) l34 c34 k34;have b34:=F34.binds (ps:=["_law_pot_here", "_law_board_here", "_law_stand"]) λ_ _ _ _ _ _ us hl=>match us,hl with | [_,_,_],_=>rfl
 have m34:=PySem.W.mg_of X G a34;have F35:=ZF (st:=sLaw) l35 c35 k35;refine⟨PySem.W.fnOf "law" "law" (JL sLaw) (Jv sLaw) (Qs sLaw) .none kV35 dc35 pm35 an35 cd35 ct35,λs v=>.of_eq rfl,λbase _ _=>?_⟩;have G1:FnOk l.prog w K mg base CX0 1 f1 _ ["thing"] (Dl.Zh false Dl.Qfu):=QpY F1 T ;have G2:FnOk l.prog w K mg base CX0 2 f2 _ ["thing", "least", "most"] (Dl.Zh false QeA):=Qm1 F2 T m1 G1 b1 k1;have G3:FnOk l.prog w K mg base CX0 1 f3 _ ["things"] (Dl.Zh false QiI):=Qm5 F3 T ;have G5:FnOk l.prog w K mg base CX0 3 f5 _ ["high", "wide", "thing"] (Dl.Zh false QmG):=Qp1 F5 T m2 G2 b2 k2;have G4:FnOk l.prog w K mg base CX0 4 f4 _ ["high", "wide", "thing"] (Dl.Zh false Qn8):=Qp3 F4 T m5 G5 b5 k5 m3 G3 b3 k3;have G7:FnOk l.prog w K mg base CX0 1 f7 _ ["cells"] (Dl.Zh false Qop):=Qp4 F7 T ;have G6:FnOk l.prog w K mg base CX0 5 f6 _ ["board", "thing"] (Dl.Zh false Ql5):=QpZ F6 T m4 G4 b4 k4 m7 G7 b7 k7;have G9:FnOk l.prog w K mg base CX0 1 f9 _ ["board"] (Dl.Zh false Qrf):=Qt6 F9 T ;have G19:FnOk l.prog w K mg base CX0 1 f19 _ ["below", "columns", "taken"] (Dl.Zh true QsN):=QtZ F19 T ;have G18:FnOk l.prog w K mg base CX0 2 f18 _ ["board"] (Dl.Zh true QlR):=Qt1 F18 T m19 G19 b19 k19;have G8:FnOk l.prog w K mg base CX0 3 f8 _ ["board"] (Dl.Zh true Qi9):=Qnb F8 T m18 G18 b18 k18 m9 G9 b9 k9;have G15:FnOk l.prog w K mg base CX0 1 f15 _ ["start"] (Dl.Zh false Qo9):=Qt4 F15 T ;have G14:FnOk l.prog w K mg base CX0 2 f14 _ ["board", "start"] (Dl.Zh false QxU):=Qwx F14 T m15 G15 b15 k15;have G17:FnOk l.prog w K mg base CX0 2 f17 _ ["table", "start", "more"] (Dl.Zh false QoR):=Qt0 F17 T m15 G15 b15 k15;have G16:FnOk l.prog w K mg base CX0 3 f16 _ ["board", "table", "start", "more", "number"] (Dl.Zh false Qjd):=Qnc F16 T m14 G14 b14 k14 m17 G17 b17 k17;have G13:FnOk l.prog w K mg base (Rx.CXE l.prog w) 3 f13 _ ["board", "size"] (Dl.Zh false (Qmo cc5)):=Qp0 F13 T m2 G2 b2 k2 m9 G9 b9 k9 (PySem.W.mg_of X G e5) q5x;have G10:FnOk l.prog w K mg base (Rx.CXE l.prog w) 4 f10 _ ["board", "size", "number"] (Dl.Zh false (Qei cc5 cc7)):=Qk1 F10 T m13 G13 b13 k13 m18 G18 b18 k18 m2 G2 b2 k2 m16 G16 b16 k16 (PySem.W.mg_of X G e7) q7x;have G11:FnOk l.prog w K mg base (Rx.CXE l.prog w) 6 f11 _ ["board", "stand"] (Dl.Zh false (QhR cc8)):=Qp2 F11 T m6 G6 b6 k6 m18 G18 b18 k18 m14 G14 b14 k14 m17 G17 b17 k17 (PySem.W.mg_of X G e8) q8x;have G12:FnOk l.prog w K mg base (Rx.CXE l.prog w) 7 f12 _ ["board", "stand"] (Dl.Zh false (Qp8 cc8)):=Qt5 F12 T m11 G11 b11 k11 m8 G8 b8 k8 m10 G10 b10 k10;have G20:FnOk l.prog w K mg base CX0 1 f20 _ ["_law_script", "_law_k"] (QcY K):=Qnd F20 T ;have G21:FnOk l.prog w K mg base CX0 1 f21 _ ["_law_cell"] (Dl.Zh true Dl.QyO):=(Qwu F21 T).imp λ_ _ _ _ h=>Dl.QyN h
 have G22:FnOk l.prog w K mg base CX0 1 f22 _ ["_law_pot_here", "_law_far"] (Dl.Zh true Dl.Qiy):=(Qt3 F22 T).imp λ_ _ _ _ h=>Dl.Qvk h
 have G23:FnOk l.prog w K mg base CX0 2 f23 _ ["_law_pot_here", "_law_most"] (Dl.Zh false Qi3):=Qna F23 T m22 G22 b22 k22;have G24:FnOk l.prog w K mg base CX0 2 f24 _ ["_law_pot_here"] (Dl.Zh false Qrh):=Qwv F24 T m22 G22 b22 k22;have G26:FnOk l.prog w K mg base CX0 1 f26 _ ["_law_thing"] (Dl.Zh false Dl.Qfu):=Qm7 F26 T ;have G27:FnOk l.prog w K mg base CX0 4 f27 _ ["_law_found", "_law_due"] (Dl.Zh false (Dl.Qo8 2)):=(Qm4 F27 T m27 b27 k27 m26 (Qm2 F26 T) b26 k26 3).imp λ_ _ _ _ h=>Dl.Qvy h
 have G28:FnOk l.prog w K mg base CX0 2 f28 _ ["_law_thing", "_law_high", "_law_wide"] (Dl.Zh false QiZ):=Qm9 F28 T m26 G26 b26 k26;have G29:FnOk l.prog w K mg base CX0 1 f29 _ ["_law_things"] (Dl.Zh false QiY):=Qm8 F29 T ;have G30:FnOk l.prog w K mg base CX0 3 f30 _ ["_law_board_here", "_law_thing"] (Dl.Zh false QiX):=Qt7 F30 T m28 G28 b28 k28 m29 G29 b29 k29;have G31:FnOk l.prog w K mg base CX0 2 f31 _ ["_law_board_here"] (Dl.Zh false QgM):=Qm3 F31 T ;have G25:Rx.FnM l.prog w K mg base 1 f25 _ ["_law_e"] (QjD K [cc1,cc2,cc3,cc4,cc5,cc6,cc7,cc8,cc9,cc10,cc11,cc12,cc13,cc14,cc15,cc16,cc17,cc18,cc19]):=Qt8 F25 T (PySem.W.mg_none_of X G z20) (PySem.W.mg_of X G e1) (PySem.W.mg_of X G e2) (PySem.W.mg_of X G e3) (PySem.W.mg_of X G e4) (PySem.W.mg_of X G e5) (PySem.W.mg_of X G e6) (PySem.W.mg_of X G e7) (PySem.W.mg_of X G e8) (PySem.W.mg_of X G e9) (PySem.W.mg_of X G e10) (PySem.W.mg_of X G e11) (PySem.W.mg_of X G e12) (PySem.W.mg_of X G e13) (PySem.W.mg_of X G e14) (PySem.W.mg_of X G e15) (PySem.W.mg_of X G e16) (PySem.W.mg_of X G e17) (PySem.W.mg_of X G e18) (PySem.W.mg_of X G e19);have G32:FnOk l.prog w K mg base CX0 8 f32 _ ["_law_way", "_law_board_here", "_law_one", "_law_other"] (Dl.Zh false Qgh):=Qt2 F32 T m10 G10 b10 k10 m11 G11 b11 k11 m12 G12 b12 k12 m25 G25 b25 k25 (PySem.W.mg_of X G eR) (⟨⟨r1,(by rw[r2];rfl),r3,q5r⟩,[false,false,false,false,true,false,false,false,false,false,false,false,false,false,false,false,false,false,false],4,⟨q5g,q5h,q5b,(by rw[q5c];rfl),q5a,u1,u2,q5o⟩,(.cons q5k1 (.cons q5k2 (.cons q5k3 (.cons q5k4 (.cons q5k5 (.cons q5k6 (.cons q5k7 (.cons q5k8 (.cons q5k9 (.cons q5k10 (.cons q5k11 (.cons q5k12 (.cons q5k13 (.cons q5k14 (.cons q5k15 (.cons q5k16 (.cons q5k17 (.cons q5k18 (.cons q5k19 .nil))))))))))))))))))),q5v,rfl,rfl,(by decide),rfl⟩:KOk K [cc1,cc2,cc3,cc4,cc5,cc6,cc7,cc8,cc9,cc10,cc11,cc12,cc13,cc14,cc15,cc16,cc17,cc18,cc19] cR cc5 "size") (⟨⟨r1,(by rw[r2];rfl),r3,q7r⟩,[false,false,false,false,false,false,true,false,false,false,false,false,false,false,false,false,false,false,false],6,⟨q7g,q7h,q7b,(by rw[q7c];rfl),q7a,u1,u2,q7o⟩,(.cons q7k1 (.cons q7k2 (.cons q7k3 (.cons q7k4 (.cons q7k5 (.cons q7k6 (.cons q7k7 (.cons q7k8 (.cons q7k9 (.cons q7k10 (.cons q7k11 (.cons q7k12 (.cons q7k13 (.cons q7k14 (.cons q7k15 (.cons q7k16 (.cons q7k17 (.cons q7k18 (.cons q7k19 .nil))))))))))))))))))),q7v,rfl,rfl,(by decide),rfl⟩:KOk K [cc1,cc2,cc3,cc4,cc5,cc6,cc7,cc8,cc9,cc10,cc11,cc12,cc13,cc14,cc15,cc16,cc17,cc18,cc19] cR cc7 "number") (⟨⟨r1,(by rw[r2];rfl),r3,q8r⟩,[false,false,false,false,false,false,false,true,false,false,false,false,false,false,false,false,false,false,false],7,⟨q8g,q8h,q8b,(by rw[q8c];rfl),q8a,u1,u2,q8o⟩,(.cons q8k1 (.cons q8k2 (.cons q8k3 (.cons q8k4 (.cons q8k5 (.cons q8k6 (.cons q8k7 (.cons q8k8 (.cons q8k9 (.cons q8k10 (.cons q8k11 (.cons q8k12 (.cons q8k13 (.cons q8k14 (.cons q8k15 (.cons q8k16 (.cons q8k17 (.cons q8k18 (.cons q8k19 .nil))))))))))))))))))),q8v,rfl,rfl,(by decide),rfl⟩:KOk K [cc1,cc2,cc3,cc4,cc5,cc6,cc7,cc8,cc9,cc10,cc11,cc12,cc13,cc14,cc15,cc16,cc17,cc18,cc19] cR cc8 "stand");have G33:FnOk l.prog w K mg base CX0 9 f33 _ ["_law_pot_here", "_law_board_here", "_law_some", "_law_size"] (Dl.Zh false QeP):=Qm6 F33 T m22 G22 b22 k22 m32 G32 b32 k32 m27 G27 b27 k27 m24 G24 b24 k24;have G34:FnOk l.prog w K mg base CX0 3 f34 _ ["_law_pot_here", "_law_board_here", "_law_stand"] (Dl.Zh false Qi4):=Qwy F34 T m22 G22 b22 k22 m24 G24 b24 k24;exact Qww F35 T m20 G20 b20 k20 m21 G21 b21 k21 m22 G22 b22 k22 m23 G23 b23 k23 m31 G31 b31 k31 m33 G33 b33 k33 m27 G27 b27 k27 m32 G32 b32 k32 m34 G34 b34 k34 m30 G30 b30 k30
theorem QAd{l:PySem.W.OpenLaw}{q:QP}{loose:List Str}{XP:(Str->Option Value)->Zl->Prop}{YP:JH->Zl->Prop}{d:DefRec}{K:Params->PySem.W.Frag}(hn:l.most=some 63)(hdf:d.params.defaults=[])
  (hY:∀(w:JH)(h:Zl),YP w h->(K w.params).In h)
  (F:∀(w:JH)(mg:Str->Option Value)(fa:Addr)(h:Zl),(K w.params).In h->h.Ns mainGlobals mg->mg d.name=some (.ref fa) ->
   ∃fd:QL,(∀(s:Shared)(u:Value),Qd1 s fd ⟨[u],[]⟩ [("_law_script",u)])/\∀base:Zl,(K w.params).In base->base.Ns mainGlobals mg->FnOk l.prog w (K w.params) mg base CX0 10 fa fd ["_law_script"] (Dl.Qfx (K w.params))) :
  PySem.W.WalkO q loose XP YP l.row.toRowW d [] (λf vs=>PySem.call f vs):=
 L2.QsQ (n:=63) (k:=10) (x := "_law_script") (CX:=λ_=>CX0) (sp:=λw=>(Dl.Qfx (K w.params))) hn (by decide) hdf ⟨rfl,by decide,by decide⟩ hY F (λ_ _ a ns hl _ hS=>⟨a,ns,rfl,hS,hl,λ_=>rfl⟩) λ_ _ _ _ _ z=>z
end Rk
open PySem.W
set_option maxRecDepth 100000 in
set_option maxHeartbeats 0 in
theorem PySem.Challenge.cw_rooklands_k14_stands_numbered_holds : PySem.Challenge.rw_rooklands_k14_stands_numbered.Holds := by
 w_on;o_law;k_head;(case hw=>w_witness2)
 k_fill
 refine Rk.QAd (l:=PySem.Challenge.rw_rooklands_k14_stands_numbered) rfl rfl (λw h Y=>PySem.W.kIn_of Y) ?F
 case F=>
  intro w mg fa h KX G hmg;refine' Rk.Qxw KX G hmg ?a1 ?l1 ?c1 ?k1 ?a2 ?l2 ?c2 ?k2 ?a3 ?l3 ?c3 ?k3 ?a4 ?l4 ?c4 ?k4 ?a5 ?l5 ?c5 ?k5 ?a6 ?l6 ?c6 ?k6 ?a7 ?l7 ?c7 ?k7 ?a8 ?l8 ?c8 ?k8 ?a9 ?l9 ?c9 ?k9 ?a10 ?l10 ?c10 ?k10 ?a11 ?l11 ?c11 ?k11 ?a12 ?l12 ?c12 ?k12 ?a13 ?l13 ?c13 ?k13 ?a14 ?l14 ?c14 ?k14 ?a15 ?l15 ?c15 ?k15 ?a16 ?l16 ?c16 ?k16 ?a17 ?l17 ?c17 ?k17 ?a18 ?l18 ?c18 ?k18 ?a19 ?l19 ?c19 ?k19 ?a20 ?l20 ?c20 ?k20 ?a21 ?l21 ?c21 ?k21 ?a22 ?l22 ?c22 ?k22 ?a23 ?l23 ?c23 ?k23 ?a24 ?l24 ?c24 ?k24 ?a25 ?l25 ?c25 ?k25 ?a26 ?l26 ?c26 ?k26 ?a27 ?l27 ?c27 ?k27 ?a28 ?l28 ?c28 ?k28 ?a29 ?l29 ?c29 ?k29 ?a30 ?l30 ?c30 ?k30 ?a31 ?l31 ?c31 ?k31 ?a32 ?l32 ?c32 ?k32 ?a33 ?l33 ?c33 ?k33 ?a34 ?l34 ?c34 ?k34 ?a35 ?l35 ?c35 ?k35 ?z1 ?z2 ?z3 ?z4 ?z5 ?z6 ?z7 ?z8 ?z9 ?z10 ?z11 ?z12 ?z13 ?z14 ?z15 ?z16 ?z17 ?z18 ?z19 ?z20 ?e1 ?e2 ?e3 ?e4 ?e5 ?e6 ?e7 ?e8 ?e9 ?e10 ?e11 ?e12 ?e13 ?e14 ?e15 ?e16 ?e17 ?e18 ?e19 ?eR ?r1 ?r2 ?r3 ?u1 ?u2 ?q5x ?q5r ?q5g ?q5h ?q5b ?q5c ?q5a ?q5o ?q5v ?q5k1 ?q5k2 ?q5k3 ?q5k4 ?q5k5 ?q5k6 ?q5k7 ?q5k8 ?q5k9 ?q5k10 ?q5k11 ?q5k12 ?q5k13 ?q5k14 ?q5k15 ?q5k16 ?q5k17 ?q5k18 ?q5k19 ?q7x ?q7r ?q7g ?q7h ?q7b ?q7c ?q7a ?q7o ?q7v ?q7k1 ?q7k2 ?q7k3 ?q7k4 ?q7k5 ?q7k6 ?q7k7 ?q7k8 ?q7k9 ?q7k10 ?q7k11 ?q7k12 ?q7k13 ?q7k14 ?q7k15 ?q7k16 ?q7k17 ?q7k18 ?q7k19 ?q8x ?q8r ?q8g ?q8h ?q8b ?q8c ?q8a ?q8o ?q8v ?q8k1 ?q8k2 ?q8k3 ?q8k4 ?q8k5 ?q8k6 ?q8k7 ?q8k8 ?q8k9 ?q8k10 ?q8k11 ?q8k12 ?q8k13 ?q8k14 ?q8k15 ?q8k16 ?q8k17 ?q8k18 ?q8k19
  (case a1=>k_is)
  (case l1=>k_is)
  (case c1=>k_is)
  (case k1=>k_is)
  (case a2=>k_is)
  (case l2=>k_is)
  (case c2=>k_is)
  (case k2=>k_is)
  (case a3=>k_is)
  (case l3=>k_is)
  (case c3=>k_is)
  (case k3=>k_is)
  (case a4=>k_is)
  (case l4=>k_is)
  (case c4=>k_is)
  (case k4=>k_is)
  (case a5=>k_is)
  (case l5=>k_is)
  (case c5=>k_is)
  (case k5=>k_is)
  (case a6=>k_is)
  (case l6=>k_is)
  (case c6=>k_is)
  (case k6=>k_is)
  (case a7=>k_is)
  (case l7=>k_is)
  (case c7=>k_is)
  (case k7=>k_is)
  (case a8=>k_is)
  (case l8=>k_is)
  (case c8=>k_is)
  (case k8=>k_is)
  (case a9=>k_is)
  (case l9=>k_is)
  (case c9=>k_is)
  (case k9=>k_is)
  (case a10=>k_is)
  (case l10=>k_is)
  (case c10=>k_is)
  (case k10=>k_is)
  (case a11=>k_is)
  (case l11=>k_is)
  (case c11=>k_is)
  (case k11=>k_is)
  (case a12=>k_is)
  (case l12=>k_is)
  (case c12=>k_is)
  (case k12=>k_is)
  (case a13=>k_is)
  (case l13=>k_is)
  (case c13=>k_is)
  (case k13=>k_is)
  (case a14=>k_is)
  (case l14=>k_is)
  (case c14=>k_is)
  (case k14=>k_is)
  (case a15=>k_is)
  (case l15=>k_is)
  (case c15=>k_is)
  (case k15=>k_is)
  (case a16=>k_is)
  (case l16=>k_is)
  (case c16=>k_is)
  (case k16=>k_is)
  (case a17=>k_is)
  (case l17=>k_is)
  (case c17=>k_is)
  (case k17=>k_is)
  (case a18=>k_is)
  (case l18=>k_is)
  (case c18=>k_is)
  (case k18=>k_is)
  (case a19=>k_is)
  (case l19=>k_is)
  (case c19=>k_is)
  (case k19=>k_is)
  (case a20=>k_is)
  (case l20=>k_is)
  (case c20=>k_is)
  (case k20=>k_is)
  (case a21=>k_is)
  (case l21=>k_is)
  (case c21=>k_is)
  (case k21=>k_is)
  (case a22=>k_is)
  (case l22=>k_is)
  (case c22=>k_is)
  (case k22=>k_is)
  (case a23=>k_is)
  (case l23=>k_is)
  (case c23=>k_is)
  (case k23=>k_is)
  (case a24=>k_is)
  (case l24=>k_is)
  (case c24=>k_is)
  (case k24=>k_is)
  (case a25=>k_is)
  (case l25=>k_is)
  (case c25=>k_is)
  (case k25=>k_is)
  (case a26=>k_is)
  (case l26=>k_is)
  (case c26=>k_is)
  (case k26=>k_is)
  (case a27=>k_is)
  (case l27=>k_is)
  (case c27=>k_is)
  (case k27=>k_is)
  (case a28=>k_is)
  (case l28=>k_is)
  (case c28=>k_is)
  (case k28=>k_is)
  (case a29=>k_is)
  (case l29=>k_is)
  (case c29=>k_is)
  (case k29=>k_is)
  (case a30=>k_is)
  (case l30=>k_is)
  (case c30=>k_is)
  (case k30=>k_is)
  (case a31=>k_is)
  (case l31=>k_is)
  (case c31=>k_is)
  (case k31=>k_is)
  (case a32=>k_is)
  (case l32=>k_is)
  (case c32=>k_is)
  (case k32=>k_is)
  (case a33=>k_is)
  (case l33=>k_is)
  (case c33=>k_is)
  (case k33=>k_is)
  (case a34=>k_is)
  (case l34=>k_is)
  (case c34=>k_is)
  (case k34=>k_is)
  (case a35=>k_is)
  (case l35=>k_is)
  (case c35=>k_is)
  (case k35=>k_is)
  (case z1=>k_is)
  (case z2=>k_is)
  (case z3=>k_is)
  (case z4=>k_is)
  (case z5=>k_is)
  (case z6=>k_is)
  (case z7=>k_is)
  (case z8=>k_is)
  (case z9=>k_is)
  (case z10=>k_is)
  (case z11=>k_is)
  (case z12=>k_is)
  (case z13=>k_is)
  (case z14=>k_is)
  (case z15=>k_is)
  (case z16=>k_is)
  (case z17=>k_is)
  (case z18=>k_is)
  (case z19=>k_is)
  (case z20=>k_is)
  (case e1=>k_is)
  (case e2=>k_is)
  (case e3=>k_is)
  (case e4=>k_is)
  (case e5=>k_is)
  (case e6=>k_is)
  (case e7=>k_is)
  (case e8=>k_is)
  (case e9=>k_is)
  (case e10=>k_is)
  (case e11=>k_is)
  (case e12=>k_is)
  (case e13=>k_is)
  (case e14=>k_is)
  (case e15=>k_is)
  (case e16=>k_is)
  (case e17=>k_is)
  (case e18=>k_is)
  (case e19=>k_is)
  (case eR=>k_is)
  (case r1=>k_is)
  (case r2=>k_is)
  (case r3=>k_is)
  (case u1=>k_is)
  (case u2=>k_is)
  (case q5x=>k_exc)
  (case q5r=>k_is)
  (case q5g=>k_is)
  (case q5h=>k_is)
  (case q5b=>k_is)
  (case q5c=>k_is)
  (case q5a=>k_is)
  (case q5o=>k_is)
  (case q5v=>kit_is)
  (case q5k1=>kit_is)
  (case q5k2=>kit_is)
  (case q5k3=>kit_is)
  (case q5k4=>kit_is)
  (case q5k5=>kit_is)
  (case q5k6=>kit_is)
  (case q5k7=>kit_is)
  (case q5k8=>kit_is)
  (case q5k9=>kit_is)
  (case q5k10=>kit_is)
  (case q5k11=>kit_is)
  (case q5k12=>kit_is)
  (case q5k13=>kit_is)
  (case q5k14=>kit_is)
  (case q5k15=>kit_is)
  (case q5k16=>kit_is)
  (case q5k17=>kit_is)
  (case q5k18=>kit_is)
  (case q5k19=>kit_is)
  (case q7x=>k_exc)
  (case q7r=>k_is)
  (case q7g=>k_is)
  (case q7h=>k_is)
  (case q7b=>k_is)
  (case q7c=>k_is)
  (case q7a=>k_is)
  (case q7o=>k_is)
  (case q7v=>kit_is)
  (case q7k1=>kit_is)
  (case q7k2=>kit_is)
  (case q7k3=>kit_is)
  (case q7k4=>kit_is)
  (case q7k5=>kit_is)
  (case q7k6=>kit_is)
  (case q7k7=>kit_is)
  (case q7k8=>kit_is)
  (case q7k9=>kit_is)
  (case q7k10=>kit_is)
  (case q7k11=>kit_is)
  (case q7k12=>kit_is)
  (case q7k13=>kit_is)
  (case q7k14=>kit_is)
  (case q7k15=>kit_is)
  (case q7k16=>kit_is)
  (case q7k17=>kit_is)
  (case q7k18=>kit_is)
  (case q7k19=>kit_is)
  (case q8x=>k_exc)
  (case q8r=>k_is)
  (case q8g=>k_is)
  (case q8h=>k_is)
  (case q8b=>k_is)
  (case q8c=>k_is)
  (case q8a=>k_is)
  (case q8o=>k_is)
  (case q8v=>kit_is)
  (case q8k1=>kit_is)
  (case q8k2=>kit_is)
  (case q8k3=>kit_is)
  (case q8k4=>kit_is)
  (case q8k5=>kit_is)
  (case q8k6=>kit_is)
  (case q8k7=>kit_is)
  (case q8k8=>kit_is)
  (case q8k9=>kit_is)
  (case q8k10=>kit_is)
  (case q8k11=>kit_is)
  (case q8k12=>kit_is)
  (case q8k13=>kit_is)
  (case q8k14=>kit_is)
  (case q8k15=>kit_is)
  (case q8k16=>kit_is)
  (case q8k17=>kit_is)
  (case q8k18=>kit_is)
  (case q8k19=>kit_is)
