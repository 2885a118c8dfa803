import PyProof.Rows.All
import Wide.All
import OpenK.AllK
import Wide.FinOn
import Lean
import PyProof.EqAt
import PyProof.EqKinds
import PyProof.TupleCall
import PyProof.Rows.SortRuns
import PyProof.Rows.SortShellK
import PyProof.P3Eq
import PyProof.Draws
import PyProof.EnumMake
import PyProof.NeData
import KE.LcSums
import PyProof.WalkInts
import PyProof.SeqI3
import KE.KSortTup
import KE.KRevIter
import PyProof.FactsAll.range_2
import KE.KDictOf
import PyProof.Rows.TupDisplay
import PyProof.Rows.CallKwBuiltin
import KE.KLam
import PyProof.MinMaxWalk
import PyProof.WalksMore
import PySem.Challenge.RW_rooklands_k75_whole_weights
local macro_rules | `(tactic| omega) => `(tactic| first | lia | omega +splitDisjunctions)
open PySem.W renaming Frag->Qa,keepIn->Qc,nsIn->Qk,codeIn->Qw,mg_of->Qy,fnOf->QC,mg_none_of->QX,kia_one->JV,CodeHd->Zn,kla_obj->Qbm,tabObj->QbN,methodObj->QcX,instObj->QdU,OpenLaw->QdV,noTabs->QeG,lookIn->QeH,kla_fn->QeI,kitOne->QeJ,cellsFrom_some->QgE,callWith_K->Qjw,kitx_list->QjO,kitx_dict->QjP,plainGet->Qmz,codeHdIn->QmA,findIn->QoT,WalkO->QpY
open PySem.PyData renaming int->Qb,eqv->Jf,depthAll->Jx,canLayAll0->JG,depth->Yx,bool->YQ,tuple->YT,list->Qb8,eqvAll->QcG,canLay0->QfB
open PySem.Heap renaming get?_push_of_some->Qd,lt_size->Qj,get?_push_size->Qv,size_push->ZH,get?_update_other->Z5,get?_update_self->Y2,SameBut->QbP,IsTuple->QjH
open List renaming length_map->Qe,getD_eq_getElem?_getD->Qf,getElem?_eq_getElem->Qg,getElem?_map->Qh,range->Qm,mem_map->Qo,size_toArray->Qq,getElem?_eq_some_iff->Qs,mem_cons->Qt,length_append->Qx,mem_of_getElem?->Qz,mem_singleton->QB,length_range->QD,replicate->QJ,getElem?_eq_none->QL,length_cons->QM,map_congr_left->QQ,mem_append_right->QR,map_map->QY,lookup_cons->Q2,not_mem_nil->Q5,getElem?_range->Q6,mem_range->Q9,replicate_succ->Ja,mem_filter->Jc,sum_cons->Jd,map_append->Jk,map_cons->Jl,mem_append->Jn,mem_cons_of_mem->Jr,mem_iff_getElem?->Jw,pairwise_map->Jy,length_replicate->JF,all_eq_true->JM,length_pos_iff->JP,take_add_one->JR,flatten_cons->JS,take_length->J3,mem_flatMap->J4,nodup_append->J7,getLastD_eq_getLast?->Za,mem_cons_self->Zh,any_eq_true->Zj,getElem?_replicate->Zr,countP_eq_length_filter->Zt,nodup_cons->Zv,getElem?_append_right->ZA,filter_filter->ZB,getElem?_append_left->ZG,pairwise_append->ZL,length_set->ZN,flatMap_cons->ZO,filter_congr->ZP,countP_cons_of_neg->ZU,range_succ->Yb,append_nil->Yc,ext_getElem?->Yk,getLast?_append->Yo,nodup_range->Yy,length_take->Yz,eq_of_mem_replicate->YD,countP_congr->YU,length_filter_le->Y1,mem_append_left->Qad,dropLast_concat_getLast->Qae,filter_eq_self->Qan,pairwise_cons->Qaw,getElem?_set->QaL,foldl_append->QaM,pairwise_singleton->Qa8,filter_cons_of_pos->Qa9,filter_cons_of_neg->Qba,mem_toArray->Qbn,getElem_mem->Qbo,take_of_length_le->Qbt,getElem?_set_self->Qbu,filter_eq_nil_iff->Qbv,length_singleton->QbO,mem_of_getLast?->Qcb,getElem?_set_ne->Qcc,map_id->QcH,flatMap_append->QcI,filterMap_cons->QcJ,filter_append->Qc2,filterMap_map->Qc3,countP_append->Qc4,any_map->QdW,eq_nil_of_length_eq_zero->Qd2,of_mem_zip->QfC,nil_append->QfD,lookup->QfE,length_nil->QfF,length->QfG,forIn_cons->QfH,foldl_cons->QfI,perm_ext_iff_of_nodup->QfN,getLast?_eq_some_iff->QgF,getLast?_eq_none_iff->QgG,getElem?_eq_none_iff->QgH,getElem?_take_of_lt->QgN,getLast?_cons_cons->QhE,getElem?_cons_zero->QhF,getElem?_cons_succ->QhG,countP_cons_of_pos->QhH,pairwise_lt_range->QiI,length_pos_of_mem->QiJ,append_inj_right'->QiK,zipWith->Qjx,pairwise_flatMap->Qjy,map_nil->Qjz,getElem?_toArray->QjA,filterMap_append->QjB,eq_nil_or_concat->QjC,dropLast_eq_take->QjD,countP_eq_length->QjE,concat_eq_append->QjF,append_inj_left'->QjG,sum_append_int->QmB,length_zipWith->QmC,zip_cons_cons->QmO,mem_filterMap->QmP,getElem_range->QmQ,foldl->QoV,append_assoc->QoW,zipIdx_cons->QpZ,map_zipWith->Qp0,map_flatMap->Qp1,length_drop->Qp2,flatMap_map->Qp3,ext_getElem->Qp4,countP_cons->Qp5,zipIdx_nil->QtC,map_const'->QtD,any_append->QtE,nodup_nil->QtV,forIn_nil->QtW,take_nil->Qwv,drop_nil->Qww,any_cons->Qwx,all_cons->Qwy
open Nat renaming le_refl->Qi,ne_of_lt->QF,lt_of_lt_of_le->QU,le_trans->Q1,zero_le->Jm,le_of_lt->ZC,lt_irrefl->Ym,not_lt_zero->YM,lt_of_le_of_lt->YN,lt_succ_of_lt->QaO,ne_of_gt->QbU,le_of_eq->Qd1,min_le_right->QeM,add_sub_cancel_left->QiH,succ_mul->QjQ,testBit_two_pow->QmN,lt_succ_self->QtA,le_max_right->QtB,min_le_left->QtT,min_eq_left->QtU,testBit_or->Qwu
open PySem renaming wpAny_pure->Qp,FuncData->QK,Program->QN,Expr->QV,Around->Jh,World->Jj,wpAny_truthy_bool->JB,wpAny_newObj_type->JW,wpAny_seqItems->J5,Heap->J8,wpAny_field->Ze,wpAny_holding->Zx,wpAny_callSpecial?_slot->Zy,wpAny_pyIter_tuple->ZJ,Stmt->ZK,mem_of_lookup->ZQ,wpAny_call_entry->Z9,wpAny_setField_rec->Yj,Scope->Yl,wpAny_passesOwn->Yu,wpAny_tryCatch->YH,NameKind->YK,wpAny_loadPart'->YW,wpAny_Call_Name_kw->YX,Paired->Qac,wpAny_newFunctionEnv->Qau,wpAny_letGo->QaG,Operator->Qa7,wpAny_pyIter_list->QbA,wpAny_pyIter_enum->QbB,wpAny_comprehension_free->QbC,wpAny_pyIter_zip->Qb7,wpAny_pyNext_list_item->Qcd,codeAny_compStart_list->Qce,wpAny_pyNext_list_end->QcT,wpAny_execs_nil->QcU,codeAny_mono->QcV,codeAny_builtin->QcW,ReadsAll->Qc1,wpAny_updateSeq_pair->Qdf,wpAny_onRaise->QeD,plainId_quiet->QeE,Fin->QeK,PassesOwn->QeL,Comprehension->QeN,Arguments->QeQ,seqIndex_neg->QgD,IsPart->QgI,noFill_tuple_add->QgM,wpAny_updateSeq->QiE,sizeLine_eq->QiF,seqIndex_of->QiG,CmpOp->QiM,wpAny_letOwnedTupleGo_enum->Qju,wpAny_letOwnedTupleGo_zip->QjM,Reads->QjN,call_meets->Qmy,seq_tuple_add->QmI,call->QmK,Builtin->QmT,BindsTo->QmU,wpAny_getItem_list_neg->QoQ,wpAny_typeOf->QpS,exec_Assign_Name_used->QpT,concat_meets->QpU,Result->QpX,IsZip->Qp6,wpAny_loadName_local->Qty,wpAny_loadName_cell->QtP,wpAny_List_spliced->Qwp,ZipApart->Qwr,Within->Qws,wpAny_sequenceKey->QwR,wpAny_call->QwS,wpAny_assign_Name->QwT,wpAny_Name->QwU,typeIs_int->QwV,slot_list_getitem->QwW
open Option.some renaming inj->Qr
open Bool renaming false_ne_true->Qu,and_eq_true_iff->Q3,and_eq_true->JN,eq_iff_iff->Zd,true_and->YL,false_and->QaD,and_comm->Qbb,or_false->QhI,false_or->QhJ,not_eq_true'->QoY,or_eq_true->QtF,and_false->QtY
open Or renaming inr->Q0,inl->Q4
open PySem.NameKind renaming free->Q7,cell->Z7
open PySem.PassesOwn renaming never->Q8
open PySem.Builtin.SmallTypes renaming nextOf->Jt,ownedTupleIsFree->Zb,ownedTupleHandOut->Qao
open Int renaming toNat_natCast->Jz,mul_assoc->JC,mul_zero->JT,mul_comm->JU,add_zero->Zf,le_refl->Zm,zero_add->ZD,zero_mul->ZV,one_mul->YY,le_trans->Y4,mul_one->Qbq,mul_add->Qbr,mul_nonneg->QcK,toNat_of_nonneg->QcY,natCast_nonneg->Qdg,pow_zero->Qd4,pow_add->QfO,natCast_add->QfP,add_mul_emod_self_left->QgJ,add_nonneg->QgO,pow_succ->QjR,le_of_lt->QjS,add_mul->QmS,lt_of_le_of_lt->QoX,emod_eq_of_lt->Qp7
open PyProof.Rows renaming slot_tuple_getitem->JD,callWith_type1->JO,Keyed->Y3,IntsAre->Qbp,step_dedup->QbD,AllBare->QdX,SortKind->QeF,subscriptTail_builtinR->QoR,entry_tuple_getitem->QtQ,args_tuple_getitem->Qwq
open PySem.Builtin.Int renaming intBits->JX,intTooBig->QeO
open Option renaming map_eq_some_iff->J6,getD_some->QmL,getD_none->QmM,none->Qwt
open List.Pairwise renaming filter->J9,imp_of_mem->Qc5,sublist->Qw7,nil->Qw8,map->Qw9,imp->Qxa
open False renaming elim->Zg
open PySem.Value renaming ref->Zl,bool->Ye,none->YR,type->QmJ,str->QpV,int->QpW,float->QwY
open ForInStep renaming yield->Zo
open PySem.F renaming plain_min_loop->ZI,slot_tuple_iterator_next->Yv,args_tuple_add_2->Qav,entry_tuple_add->QaH,slot_tuple_add->QaN,entry_min_loop->QbQ,slot_zip_next->Qcf,args_tuple_iterator_next_1->QgK,entry_tuple_iterator_next->QgP,args_zip_next_1->QtX,entry_zip_next->QwA,slot_int_rmul->Qxb
open Array renaming length_toList->ZR,getElem?_eq_getElem->Qax,toList_append->Qcg,getD_eq_getD_getElem?->QeP,mem_toList_iff->QjI,getElem_toList->QjJ,append_assoc->QmD,toList->QwB
open PySem.Builtin.Slice renaming slicePlaces->Z6,sliceAdjust->Y5,sliceApplied->QcM,slicePartIndex->Qxe,sliceFields->Qxf
open PySem.Builtin.Tuple renaming tupleExact->Yd,tupleItemsOf->QcL,tupleIsExact->Qxc,tupleCompareSizes->Qxd
open PySem.Challenge renaming rw_rooklands_k75_whole_weights->Y0,pw_rooklands_k75_whole_weights->QtS
open PySem.Around renaming under_plainId->Y6,frames_deeper->QiN
open PySem.Builtin.List renaming listTooLong->Qaf
open PySem.Str renaming ofString->QaC
open Prod.mk renaming inj->QaI
open PySem.Builtin.Builtins renaming bindParams->QbR
open True renaming intro->QbS
open Sum renaming inl->QbT,inr->QfM
open PySem.Obj renaming mapSeq->Qb9,data_mapFields->QoU
open Ne renaming symm->Qca
open List.Perm renaming eq_of_pairwise->Qd3
open PySem.Heap.SameBut renaming update->QfJ
open PySem.Calls renaming Name_function_global->QfK
open PyProof.Rows.LSm renaming kept_iter->QiL
open PySem.Shared renaming heap->Qjv
open List.cons renaming inj->QmR
open PySem.SeqAt renaming eqAt_reads->QoS
open Eq renaming trans->Qp8
open PySem.Paired renaming length->Qtz
open Sum.inl renaming inj->QtR
open PySem.Heap.IsSliceOf renaming new->Qwz
open PySem.W.WShape renaming has->QwX
open PySem.EqMixed renaming ne_str_int->QwZ,ne_str_bool->Qw0,ne_int_str->Qw1,ne_bool_str->Qw2,eq_str_int->Qw3,eq_str_bool->Qw4,eq_int_str->Qw5,eq_bool_str->Qw6
open PySem.Builtin.Range renaming rangeSize->Qxg
open PySem PySem.Spec PyProof.Rows
set_option Elab.async false
set_option linter.all false
set_option maxRecDepth 100000
namespace L2
abbrev Key:=Sum Int Str
def QvF:Key->Value->Bool
 |.inl k,v=>Value.isInt k v
 |.inr x,v=>Value.isStrOf x v
def QzB(w:Jj):Key->Int
 |.inl k=>hashInt k
 |.inr x=>hashStr w x
theorem ZM:∀{k:Key}{v:Value},QvF k v=true->(∃i t,k=QbT i/\v=QpW i t)∨(∃x t,k=QfM x/\v=QpV x t)
 |.inl i,v,h=>by
  obtain⟨t,e⟩:=Value.isInt_shape (k:=i) (v:=v) h;exact .inl ⟨i,t,rfl,e⟩
 |.inr x,v,h=>by
  obtain⟨t,e⟩:=Value.isStrOf_shape (x:=x) (v:=v) h;exact .inr ⟨x,t,rfl,e⟩
theorem QvE(a b:Int):decide ((QbT a:Key)=QbT b)=(a == b):=by
 by_cases e:a=b
 ·subst e;simp
 ·have h:¬(QbT a:Key)=QbT b:=λq=>e (QtR q)
  rw[decide_eq_false h];exact(beq_eq_false_iff_ne.mpr e).symm
theorem QvB(a b:Str):decide ((QfM a:Key)=QfM b)=decide (a=b):=by
 by_cases e:a=b
 ·subst e;simp
 ·have h:¬(QfM a:Key)=QfM b:=λq=>e (Sum.inr.inj q)
  rw[decide_eq_false h,decide_eq_false e]
theorem QvD(a:Int)(b:Str):decide ((QbT a:Key)=QfM b)=false:=decide_eq_false (λq=>nomatch q)
theorem QvC(a:Str)(b:Int):decide ((QfM a:Key)=QbT b)=false:=decide_eq_false (λq=>nomatch q)
def mixKind(prog:QN)(w:Jj):PySem.KeyKind prog w Key where
 is:=QvF
 hash:=QzB w
 inj:=λv a b ha hb=>by
  rcases ZM ha with⟨i,t,rfl,rfl⟩ | ⟨x,t,rfl,rfl⟩
  ·rcases ZM hb with⟨j,u,rfl,e⟩ | ⟨y,u,rfl,e⟩
   ·injection e with e1 _;rw[e1]
   ·exact nomatch e
  ·rcases ZM hb with⟨j,u,rfl,e⟩ | ⟨y,u,rfl,e⟩
   ·exact nomatch e
   ·injection e with e1 _;rw[e1]
 byValue:=λk v h=>by
  rcases ZM h with⟨i,t,rfl,rfl⟩ | ⟨x,t,rfl,rfl⟩<;>rfl
 pyHash:=λhv h=>by
  rcases ZM hv with⟨i,t,rfl,rfl⟩ | ⟨x,t,rfl,rfl⟩
  ·exact wpAny_pyHash_int h
  ·exact wpAny_pyHash_str h
 eqBool:=λhu hv h=>by
  rcases ZM hu with⟨i,t,rfl,rfl⟩ | ⟨x,t,rfl,rfl⟩
  ·rcases ZM hv with⟨j,u,rfl,rfl⟩ | ⟨y,u,rfl,rfl⟩
   ·rw[QvE] at h;exact wpAny_eqBool_int h
   ·rw[QvD] at h;exact SeqAt.EqAt.int_str i t y u _ _ _ _ h
  ·rcases ZM hv with⟨j,u,rfl,rfl⟩ | ⟨y,u,rfl,rfl⟩
   ·rw[QvC] at h;exact SeqAt.EqAt.str_int x t j u _ _ _ _ h
   ·rw[QvB] at h;exact wpAny_eqBool_str h
 «strs» := λk x t v h=>by
  rcases ZM h with⟨i,u,rfl,e⟩ | ⟨y,u,rfl,e⟩
  ·exact nomatch e
  ·injection e with e1 _
   subst e1;cases v<;>rfl
inductive V where
 |non | bl (b:Bool) | int (i:Int) | str (x:Str) | byt (b:Array UInt8) | flt (b:UInt64) | ref (a:Addr) | ty (n:String)
 deriving DecidableEq
def RelV:V->Value->Prop
 |.non,u=>u=YR
 |.bl b,u=>u=Ye b
 |.int i,u=>∃t,u=QpW i t
 |.str x,u=>∃t,u=QpV x t
 |.byt b,u=>∃t,u=Value.bytes b t
 |.flt b,u=>∃t,u=QwY b t
 |.ref a,u=>u=Zl a
 |.ty n,u=>u=QmJ n
abbrev Vals:List V->List Value->Prop:=Qac RelV
theorem Vals.length{xs:List V}{us:List Value}(r:Vals xs us):xs.length=us.length:=Qtz r
theorem Vals.get:∀{xs:List V}{us:List Value}{i:Nat}{x:V},Vals xs us->xs[i]? = some x->∃u,us[i]? = some u/\RelV x u
 |_,_,_,_,.nil,e=>by simp at e
 |_,_,0,_,.cons r _,e=>by simp at e;subst e;exact⟨_,rfl,r⟩
 |_,_,i+1,x,.cons _ t,e=>by
  obtain⟨u,h1,h2⟩:=Vals.get (i:=i) (x:=x) t (by simpa using e);exact⟨u,by simpa using h1,h2⟩
theorem Vals.set{x:V}{u:Value}(r:RelV x u):∀{xs:List V}{us:List Value}(i:Nat),Vals xs us->Vals (xs.set i x) (us.set i u)
 |_,_,_,.nil=>.nil
 |_,_,0,.cons _ t=>.cons r t
 |_,_,i+1,.cons q t=>.cons q (Vals.set r i t)
theorem Vals.append:∀{xs ys:List V}{us ws:List Value},Vals xs us->Vals ys ws->Vals (xs++ys) (us++ws)
 |_,_,_,_,.nil,s=>s
 |_,_,_,_,.cons r t,s=>.cons r (Vals.append t s)
theorem Vals.take:∀{xs:List V}{us:List Value}(n:Nat),Vals xs us->Vals (xs.take n) (us.take n)
 |_,_,0,_=>.nil
 |_,_,_+1,.nil=>.nil
 |_,_,n+1,.cons r t=>.cons r (Vals.take n t)
theorem Vals.drop:∀{xs:List V}{us:List Value}(n:Nat),Vals xs us->Vals (xs.drop n) (us.drop n)
 |_,_,0,r=>r
 |_,_,_+1,.nil=>.nil
 |_,_,n+1,.cons _ t=>Vals.drop n t
def Qyo:Option V->Option Value->Prop
 |some v,some u=>RelV v u
 |none,none=>True
 |_,_=>False
def KV{κ:Type}:List (κ×V)->List (κ×Value)->Prop:=Qac λ(p:κ×V)(q:κ×Value)=>p.1=q.1/\RelV p.2 q.2
def kV:Key->V
 |.inl i=>.int i
 |.inr x=>.str x
inductive HO where
 /-- a list -/
 |lst (xs:List V)
 /-- a tuple (never changes) -/
 |tup (xs:List V)
 /-- a dict whose keys are ints and texts;one whose keys are tuples of ints and texts (the empty one is both) -/
 |dK (kvs:List (Key×V)) | dT (kvs:List (List Key×V))
 /-- a set of ints: its members,its size -/
 |set (S:Int->Bool) (n:Nat)
 /-- an instance of the class at C,its dict at dx,its attributes -/
 |ins (C dx:Addr) (fs:List (Str×V))
 /-- the dict of the instance at x -/
 |own (x:Addr)
 /-- the dict of an exception -/
 |xd (fs:List (Str×V))
 /-- a bound method,f of x -/
 |met (f x:Addr)
 /-- a range object lo,lo+1,.. below hi -/
 |rng (lo hi:Int)
 /-- a thing that is known to the object (the script;a dict while a loop walks it): read,never written while it is so -/
 |frz (o:Obj) (u:HO)
 /-- a code object's table -/
 |tbl (ps:Array Value)
 /-- any other thing,by what is true of its one object (a def of one's own: SetO a S n:=HO.ext λh=>..) -/
 |ext (φ:J8->Prop)
abbrev Hp:=Addr->Option HO
def upd(H:Hp)(a:Addr)(o:HO):Hp:=λb=>if b=a then some o else H b
theorem Ju{H:Hp}{a:Addr}{o:HO}:upd H a o a=some o:=by unfold upd;rw[if_pos rfl]
theorem Jq{H:Hp}{a b:Addr}{o:HO}(h:b≠a):upd H a o b=H b:=by unfold upd;rw[if_neg h]
theorem JL{H:Hp}{a b:Addr}{o:HO}(h:H a=some o)(h':H b=none):a≠b:=by
 intro e;subst e;rw[h] at h';cases h'
def TupN(h:J8)(a:Addr)(items:Array Value):Prop:=∃o,h.get? a=some o/\o.cls=.type "tuple" /\ o.dict=none/\∃n,o.data=.seq items n
theorem TupN.tup{h:J8}{a:Addr}{items:Array Value}(x:TupN h a items):IsTup h a items:=let ⟨o,e,c,_,d⟩:=x;⟨o,e,c,d⟩
theorem TupN.lt{h:J8}{a:Addr}{items:Array Value}(x:TupN h a items):a<h.objs.size:=let ⟨_,e,_⟩:=x;Qj e
theorem TupN.new(h:J8)(items:Array Value):TupN (h.push { cls:=.type "tuple",data:=.seq items }) h.objs.size items:=⟨_,Qv _ rfl,rfl,rfl,_,rfl⟩
def Qxn(ps:Array Value):Str:=match ps.toList with
 |.str q _::_=>q
 |_ => ""
section
variable(P:QN)(w:Jj)
def ObjOk(H:Hp)(h:J8)(a:Addr):HO->Prop
 |.lst xs=>xs.length<=sizeLine/\∃(its:List Value)(n:Nat),Vals xs its/\h.get? a=some { cls:=.type "list",data:=.seq its.toArray n }
 |.tup xs=>xs.length<=sizeLine/\∃its:List Value,Vals xs its/\TupN h a its.toArray
 |.dK kvs=>kvs.length<=sizeLine/\(a == sysModules)=false/\∃vs,KV kvs vs/\h.DictOf (mixKind P w) a vs
 |.dT kvs=>kvs.length<=sizeLine/\(a == sysModules)=false/\∃xs:List (List Key×Addr×Value),
   Qac (λ(p:List Key×V)(q:List Key×Addr×Value)=>p.1=q.1/\H q.2.1=some (.tup (p.1.map kV))/\RelV p.2 q.2.2) kvs xs /\
   ∃o es ep,h.get? a=some o/\o.ExactDict/\o.data=.dict es ep/\es.toList=xs.map (entryOfKey (tupleKind (mixKind P w)))/\(xs.map (·.1)).Nodup
 |.set S n=>h.SetOf (intKind P w) a S n
 |.ins C dx fs=>H dx=some (.own a)/\fs.length<=1000/\dx≠a/\h.get? a=some (PySem.W.instObj C dx) /\
   ∃mA,h.Ns1 dx mA/\(∀f,Qyo (fs.lookup f) (mA f))/\PySem.Within mA (fs.map (·.1))
 |.own _=>∃o,h.get? a=some o
 |.xd fs=>∃mA,h.Ns1 a mA/\∀f,Qyo (fs.lookup f) (mA f)
 |.rng lo hi=>∃t u v,h.get? a=some { cls:=.type "range",data:=.fields #[.int lo t,.int hi u,.int 1 v] }
 |.frz o u=>h.get? a=some o/\ObjOk H h a u
 |.tbl ps=>∃qs:Array Value,h.get? a=some { cls:=.none,data:=.fields qs }/\TriplesOk qs.toList/\∀pos v,codeAmong pos qs.toList=some v->∃c oc vs t,v=.ref c/\H c=some (.frz oc (.own c))/\oc.data=.fields vs/\vs[1]? = some (.str (Qxn ps) t)
 |.met f x=>h.get? a=some (PySem.W.methodObj (.ref f) (.ref x))
 |.ext φ=>φ h/\(∃o,h.get? a=some o)/\∀h1 h2:J8,φ h1->(∀o,h1.get? a=some o->h2.get? a=some o)->φ h2
def HOk(H:Hp)(h:J8):Prop:=∀a o,H a=some o->ObjOk P w H h a o
end
section
variable{P:QN}{w:Jj}{H H':Hp}{h h':J8}{a:Addr}{o:HO}
theorem ObjOk.lt(x:ObjOk P w H h a o):a<h.objs.size:=by
 cases o with
 |lst xs=>obtain⟨_,_,_,_,e⟩:=x;exact Qj e
 |tup xs=>obtain⟨_,_,_,p⟩:=x;exact p.lt
 |dK kvs=>obtain⟨_,_,_,_,o,_,_,e,_⟩:=x;exact Qj e
 |dT kvs=>obtain⟨_,_,_,_,o,_,_,e,_⟩:=x;exact Qj e
 |set S n=>obtain⟨o,_,_,_,e,_⟩:=x;exact Qj e
 |ins C dx fs=>obtain⟨_,_,_,e,_⟩:=x;exact Qj e
 |own y=>obtain⟨_,e⟩:=x;exact Qj e
 |xd fs=>obtain⟨_,⟨_,_,_,e,_⟩,_⟩:=x;exact Qj e
 |rng lo hi=>obtain⟨_,_,_,e⟩:=x;exact Qj e
 |frz ob u=>obtain⟨e,_⟩:=x;exact Qj e
 |tbl ps=>obtain⟨_,e,_⟩:=x;exact Qj e
 |met f y=>exact Qj (show h.get? a=some _ from x)
 |ext φ=>obtain⟨_,⟨_,e⟩,_⟩:=x;exact Qj e
theorem Qac.mapP{α β:Type}{F G:α->β->Prop}:∀{l₁:List α}{l₂:List β},Qac F l₁ l₂->(∀a b,F a b->G a b)->Qac G l₁ l₂
 |_,_,.nil,_=>.nil
 |_,_,.cons r t,f=>.cons (f _ _ r) (Qac.mapP t f)
theorem ObjOk.stay(x:ObjOk P w H h a o)(k:∀b u,(b=a∨H b=some (.own a))->h.get? b=some u->h'.get? b=some u)
  (ho:∀b,H b=some (.own a)->H' b=some (.own a))(ht:∀b xs,H b=some (.tup xs)->H' b=some (.tup xs))(hz:∀b z u,H b=some (.frz z u)->H' b=some (.frz z u):=by exact λ_ _ _ q=>q):ObjOk P w H' h' a o:=by
 induction o with
 |lst xs=>obtain⟨z,its,n,r,e⟩:=x;exact⟨z,its,n,r,k _ _ (.inl rfl) e⟩
 |tup xs=>obtain⟨z,its,r,ob,e,c⟩:=x;exact⟨z,its,r,ob,k _ _ (.inl rfl) e,c⟩
 |dK kvs=>obtain⟨z,y,vs,r,ob,es,ep,e,c⟩:=x;exact⟨z,y,vs,r,ob,es,ep,k _ _ (.inl rfl) e,c⟩
 |dT kvs=>
  obtain⟨z,y,xs,r,ob,es,ep,e,c⟩:=x;exact⟨z,y,xs,Qac.mapP r λp q z=>⟨z.1,ht _ _ z.2.1,z.2.2⟩,ob,es,ep,k _ _ (.inl rfl) e,c⟩
 |set S n=>obtain⟨ob,es,ep,t,e,c⟩:=x;exact⟨ob,es,ep,t,k _ _ (.inl rfl) e,c⟩
 |ins C dx fs=>
  obtain⟨d,z,ne,e,mA,⟨od,es,ep,e2,c⟩,r⟩:=x;exact⟨ho _ d,z,ne,k _ _ (.inl rfl) e,mA,⟨od,es,ep,k _ _ (.inr d) e2,c⟩,r⟩
 |own y=>obtain⟨ob,e⟩:=x;exact⟨ob,k _ _ (.inl rfl) e⟩
 |xd fs=>obtain⟨mA,⟨od,es,ep,e,c⟩,r⟩:=x;exact⟨mA,⟨od,es,ep,k _ _ (.inl rfl) e,c⟩,r⟩
 |rng lo hi=>obtain⟨t,u,v,e⟩:=x;exact⟨t,u,v,k _ _ (.inl rfl) e⟩
 |frz ob u ih=>obtain⟨e,q⟩:=x;exact⟨k _ _ (.inl rfl) e,ih q⟩
 |tbl ps=>obtain⟨qs,e,t,f⟩:=x;exact⟨qs,k a _ (.inl rfl) e,t,λpos v q=>let ⟨c,oc,vs,tt,e1,e2,e3⟩:=f pos v q;⟨c,oc,vs,tt,e1,hz _ _ _ e2,e3⟩⟩
 |met f y=>
  have e:h.get? a=some (PySem.W.methodObj (.ref f) (.ref y)):=x;show h'.get? a=some (PySem.W.methodObj (.ref f) (.ref y));exact k a _ (.inl rfl) e
 |ext φ=>obtain⟨p,⟨o,e⟩,st⟩:=x;exact⟨st _ _ p λo q=>k _ _ (.inl rfl) q,⟨o,k _ _ (.inl rfl) e⟩,st⟩
theorem HOk.lt(x:HOk P w H h)(e:H a=some o):a<h.objs.size:=(x a o e).lt
theorem HOk.fresh(x:HOk P w H h)(e:h.objs.size<=a):H a=none:=by
 cases q:H a with
 |none=>rfl
 |some u=>exact absurd (QU (x.lt q) e) (Ym _)
theorem HOk.kept(x:HOk P w H h)(k:∀b u,h.get? b=some u->h'.get? b=some u):HOk P w H h':=λa o e=>
 (x a o e).stay (λb u _ q=>k b u q) (λ_ q=>q) λ_ _ q=>q
theorem HOk.laid(x:HOk P w H h)(k:∀b u,h.get? b=some u->h'.get? b=some u)(hp:h.objs.size<=a)(new:ObjOk P w (upd H a o) h' a o):HOk P w (upd H a o) h':=λb u e=>by
 have hn:=x.fresh hp;by_cases hb:b=a
 ·subst hb;rw[Ju] at e;cases e;exact new
 ·rw[Jq hb] at e;exact(x b u e).stay (λc v _ q=>k c v q) (λc q=>by rw[Jq (JL q hn)];exact q) (λc xs q=>by rw[Jq (JL q hn)];exact q) λc z u q=>by rw[Jq (JL q hn)];exact q
end
def Rd(H:Hp)(a:Addr)(u:HO):Prop:=H a=some u∨∃o,H a=some (.frz o u)
theorem Rd.ok{P:QN}{w:Jj}{H:Hp}{h:J8}{a:Addr}{u:HO}(r:Rd H a u)(x:HOk P w H h):ObjOk P w H h a u:=by
 rcases r with r | ⟨o,r⟩
 ·exact x a u r
 ·obtain⟨_,q⟩:=x a _ r;exact q
def Mut:Option HO->Prop
 |some (.lst _)=>True
 |some (.dK _)=>True
 |some (.dT _)=>True
 |some (.set _ _)=>True
 |some (.ins _ _ _)=>True
 |some (.ext _)=>True
 |_=>False
section
variable{P:QN}{w:Jj}{H:Hp}{h h':J8}{x e:Addr}{o':HO}
theorem HOk.write(ok:HOk P w H h)(mu:Mut (H x))(he:e=x∨H e=some (.own x))(k:∀b u,b≠e->h.get? b=some u->h'.get? b=some u)(heo:∃u,h'.get? e=some u)
  (new:ObjOk P w (upd H x o') h' x o'):HOk P w (upd H x o') h':=λb u q=>by
 have nown:∀c y,H c=some (.own y)->c≠x:=λc y r z=>by subst z;rw[r] at mu;exact mu
 have ntup:∀c xs,H c=some (.tup xs)->c≠x:=λc xs r z=>by subst z;rw[r] at mu;exact mu
 have nfrz:∀c z u,H c=some (.frz z u)->c≠x:=λc z u r y=>by subst y;rw[r] at mu;exact mu
 by_cases hb:b=x
 ·subst hb;rw[Ju] at q;cases q;exact new
 ·rw[Jq hb] at q;by_cases hbe:b=e
  ·have q':H b=some (.own x):=by
    rcases he with z | z
    ·exact absurd (hbe.trans z) hb
    ·rw[hbe];exact z
   rw[q] at q';cases q';obtain⟨v,hv⟩:=heo;exact⟨v,by rw[hbe];exact hv⟩
  ·refine(ok b u q).stay (λc v hc r=>k c v ?_ r) (λc r=>by rw[Jq (nown c b r)];exact r) (λc xs r=>by rw[Jq (ntup c xs r)];exact r) λc z u r=>by rw[Jq (nfrz c z u r)];exact r
   rcases hc with rfl | hc
   ·exact hbe
   ·rintro rfl;rcases he with z | z
    ·exact nown c b hc z
    ·rw[hc] at z;cases z;exact hb rfl
end
structure Un (fs ex:List Addr) (H H':Hp) (h h':J8):Prop where
 keep:∀b o,h.get? b=some o->H b=none->b∉fs->b∉ex->h'.get? b=some o
 slot:∀b o,h.get? b=some o->H b=none->b∈fs->b∉ex->∃sl,h'.get? b=some { o with slots:=sl }
 free:∀b o,h.get? b=some o->H b=none->b∉ex->H' b=none
 there:∀b o,h.get? b=some o->b∉ex->∃o',h'.get? b=some o'
 tups:∀b xs,H b=some (.tup xs)->H' b=some (.tup xs)
 frzs:∀b o u,H b=some (.frz o u)->H' b=some (.frz o u)
 tbls:∀b ps,H b=some (.tbl ps)->∃more,H' b=some (.tbl (ps++more))
section
variable{fs fs' ex ex':List Addr}{H H1 H2:Hp}{h h1 h2 h':J8}{a x e:Addr}{o:HO}
theorem Un.any(u:Un fs ex H H1 h h1){b:Addr}{ob:Obj}(q:h.get? b=some ob)(n:H b=none)(hx:b∉ex):∃sl,h1.get? b=some { ob with slots:=sl }:=by
 by_cases hb:b∈fs
 ·exact u.slot b ob q n hb hx
 ·exact⟨ob.slots,u.keep b ob q n hb hx⟩
theorem Un.kept(k:∀b u,h.get? b=some u->h'.get? b=some u):Un fs ex H H h h':=
 ⟨λb ob q _ _ _=>k b ob q,λb ob q _ _ _=>⟨ob.slots,k b ob q⟩,λ_ _ _ n _=>n,λb ob q _=>⟨ob,k b ob q⟩,λ_ _ q=>q,λ_ _ _ q=>q,λ_ ps q=>⟨#[],by rw[q];simp⟩⟩
theorem Un.refl:Un fs ex H H h h:=Un.kept λ_ _ q=>q
theorem Un.laid(k:∀b u,h.get? b=some u->h'.get? b=some u)(hp:h.objs.size<=a)(hn:H a=none):Un fs ex H (upd H a o) h h' where
 keep:=λb u q _ _ _=>k b u q
 slot:=λb u q _ _ _=>⟨u.slots,k b u q⟩
 free:=λb u q n _=>by rw[Jq (QF (QU (Qj q) hp))];exact n
 there:=λb u q _=>⟨u,k b u q⟩
 tups:=λb xs q=>by rw[Jq (JL q hn)];exact q
 frzs:=λb u xs q=>by rw[Jq (JL q hn)];exact q
 tbls:=λb ps q=>⟨#[],by rw[Jq (JL q hn),q];simp⟩
theorem Un.write(mu:Mut (H x))(he:e=x∨H e=some (.own x))(k:∀b u,b≠e->h.get? b=some u->h'.get? b=some u)(heo:∃u,h'.get? e=some u):Un fs ex H (upd H x o) h h':=by
 have hx:∀b,H b=none->b≠x:=λb n z=>by subst z;rw[n] at mu;exact mu
 have hb:∀b,H b=none->b≠e:=λb n z=>by
  subst z;rcases he with r | r
  ·exact hx b n r
  ·rw[n] at r;cases r
 have hm:∀b u,H b=some u->¬Mut (some u)->b≠x:=λb u q nm z=>by subst z;rw[q] at mu;exact nm mu
 refine⟨λb u q n _ _=>k b u (hb b n) q,λb u q n _ _=>⟨u.slots,k b u (hb b n) q⟩,λb u q n _=>by rw[Jq (hx b n)];exact n,λb u q _=>?_,
  λb xs q=>by rw[Jq (hm b _ q λz=>z)];exact q,λb u xs q=>by rw[Jq (hm b _ q λz=>z)];exact q,λb ps q=>⟨#[],by rw[Jq (hm b _ q λz=>z),q];simp⟩⟩
 by_cases hbe:b=e
 ·subst hbe;exact heo
 ·exact⟨u,k b u hbe q⟩
end
def trk(h:J8)(H:Hp):List Addr:=(Qm h.objs.size).filter λa=>(H a).isSome
def QlJ(h:J8)(H:Hp):J8:=PySem.W.hideAll h (trk h H)
theorem QlI(h:J8)(H:Hp):(QlJ h H).objs.size=h.objs.size:=PySem.W.hideAll_size _ _
theorem QoA{h:J8}{H:Hp}{b:Addr}{o:Obj}(e:h.get? b=some o)(n:H b=none):(QlJ h H).get? b=some o:=
 PySem.W.hideAll_get _ e λhm=>by
  have q:(H b).isSome=true:=(Jc.mp hm).2;rw[n] at q;simp at q
theorem QsD{h:J8}{H:Hp}{b:Addr}{o:Obj}(e:(QlJ h H).get? b=some o):h.get? b=some o/\H b=none:=by
 have e':h.get? b=some o:=PySem.W.of_hideAll (trk h H) e;refine⟨e',?_⟩;cases q:H b with
 |none=>rfl
 |some x=>
  have hm:b∈trk h H:=Jc.mpr ⟨Q9.mpr (Qj e'),by simp[q]⟩;have z:(QlJ h H).get? b=none:=PySem.W.hideAll_none (trk h H) hm;rw[z] at e;cases e
def Qtw(g h:J8)(L:Addr):List (Addr×Obj):=(Qm h.objs.size).filterMap λa=>if a=L∨(g.get? a).isSome=true then none else(h.get? a).map λo=>(a,o)
def rest(g h:J8)(L d:Addr):List (Addr×Obj):=(Qtw g h L).filter λp=>decide (p.1≠d)
structure Mod (K:PySem.W.Frag) (mg:Str->Option Value) (base:J8):Prop where
 kin:K.In base
 glob:base.Ns mainGlobals mg
 blt:∃mb,base.Ns builtinsNs mb/\∀x:Str,x ≠ "__name__" -> mb x=bootBuiltins x
 nolimit:base.NoLimit
structure Cx where
 prog:QN
 w:Jj
 K:PySem.W.Frag
 mg:Str->Option Value
 base:J8
 A:Jh
 N:List Str
 s₀:Shared
 H₀:Hp
 env:Env
 outer:List Env
 stack:List Env
 ex:List Addr
 fn:Str->Bool
 calm:Bool
 pn:List (Addr×Obj)
 xe:Value->Shared->Prop
def frs(l:List Env):List Addr:=l.filterMap (·.frame)
abbrev Cx.fs (X:Cx):List Addr:=frs X.outer
def Vis(sc:Yl)(x:Str):Prop:=sc.names.lookup x=some .local∨sc.names.lookup x=some .cell∨sc.names.lookup x=some .free
def Loc(sc:Yl)(x:Str):Prop:=sc.names.lookup x=some .local∨sc.names.lookup x=some .cell
def Look(env:Env)(h:J8)(m:Str->Option Value)(x:Str)(u:Value):Prop:=
 (env.kindOf x=some .local/\m x=some u)∨((env.kindOf x=some .cell∨env.kindOf x=some .free)/\∃c,env.cells.lookup x=some c/\h.IsCell c (some u))
structure Cx.Ok (X:Cx):Prop where
 mod:Mod X.K X.mg X.base
 kind:X.env.scope.kind=.function
 glob:X.env.globals=mainGlobals
 blt:X.env.builtins=builtinsNs
 above:X.s₀.heap.objs.size<=X.env.locals
 inj:∀x y c,X.env.cells.lookup x=some c->X.env.cells.lookup y=some c->x=y
 has:∀x,(X.env.kindOf x=some .cell∨X.env.kindOf x=some .free)->∃c,X.env.cells.lookup x=some c
 cab:∀x c,X.fn x=true->X.env.cells.lookup x=some c->X.s₀.heap.objs.size<=c
 hd:X.calm=true->X.A.handled=none
 frames:X.A.frames=some X.stack
 stk:X.stack=X.outer∨(X.stack=X.env::X.outer/\X.env.frame=some X.env.locals)
 exf:∀b∈X.ex,b≠X.env.locals/\∀x c,X.env.cells.lookup x=some c->c≠b
 bs:∀b o,X.base.get? b=some o->X.s₀.heap.get? b=some o/\X.H₀ b=none
 bsz:X.base.objs.size<=X.s₀.heap.objs.size
 noex:∀b o,X.base.get? b=some o->b∉X.ex
 exfs:∀b∈X.ex,b∉X.fs
 funs:X.s₀.heap.FunFrames X.base X.outer
 frf:∀b∈X.fs,X.H₀ b=none
structure Inv (X:Cx) (pins:List (Addr×Obj)) (σ:List (Option V)) (H:Hp) (s:Shared):Prop where
 ok:X.Ok
 os:s.os=X.s₀.os
 bare:QdX s.gens
 base:Un X.fs X.ex X.H₀ H X.s₀.heap s.heap
 loc:∃m,s.heap.Ns X.env.locals m/\∀(i:Nat)(x:Str)(v:V),X.N[i]? = some x->σ[i]? = some (some v)->Vis X.env.scope x->∃u,RelV v u/\Look X.env s.heap m x u
 cell:∀x c,X.env.cells.lookup x=some c->∃v,s.heap.IsCell c v
 free:H X.env.locals=none
 freeC:∀x c,X.env.cells.lookup x=some c->H c=none
 pin:∀p∈X.pn++pins,s.heap.get? p.1=some p.2/\H p.1=none/\p.1≠X.env.locals/\p.1∉X.fs/\∀v,p.2.data≠.cell v
 hok:HOk X.prog X.w H s.heap
 len:σ.length=X.N.length
section
variable{X:Cx}{pins:List (Addr×Obj)}{σ:List (Option V)}{H H':Hp}{s:Shared}{h':J8}
theorem Cx.Ok.nofr(ok:X.Ok){b:Addr}{o:Obj}(e:X.base.get? b=some o):b∉X.fs:=λhb=>by
 have:=(ok.funs.mem hb).1;rw[e] at this;cases this
theorem Inv.bs(I:Inv X pins σ H s):∀b o,X.base.get? b=some o->s.heap.get? b=some o/\H b=none:=λb o e=>
 ⟨I.base.keep b o (I.ok.bs b o e).1 (I.ok.bs b o e).2 (I.ok.nofr e) (I.ok.noex b o e),I.base.free b o (I.ok.bs b o e).1 (I.ok.bs b o e).2 (I.ok.noex b o e)⟩
theorem Inv.bk(I:Inv X pins σ H s):∀b o,X.base.get? b=some o->s.heap.get? b=some o:=λb o e=>(I.bs b o e).1
theorem Inv.mod(I:Inv X pins σ H s):Mod X.K X.mg X.base:=I.ok.mod
theorem Inv.kIn(I:Inv X pins σ H s):X.K.In s.heap:=I.ok.mod.kin.keeps I.bk
theorem Inv.fr(I:Inv X pins σ H s):∃m,Fr X.base X.env.locals s.heap m:=
 let ⟨m,hn,_⟩:=I.loc
 ⟨m,hn,I.bk,Q1 I.ok.bsz I.ok.above⟩
theorem Inv.lt(I:Inv X pins σ H s):X.env.locals<s.heap.objs.size:=let ⟨_,hn,_⟩:=I.loc;hn.lt
theorem Inv.sz(I:Inv X pins σ H s):X.s₀.heap.objs.size<=s.heap.objs.size:=Q1 I.ok.above (ZC I.lt)
theorem Inv.nofs(I:Inv X pins σ H s){a:Addr}(h:s.heap.objs.size<=a):a∉X.fs:=λhb=>by
 obtain⟨_,o,ho,_⟩:=I.ok.funs.mem hb;exact absurd (QU (Qj ho) (Q1 I.sz h)) (Ym _)
theorem Inv.cne(I:Inv X pins σ H s):∀x c,X.env.cells.lookup x=some c->c≠X.env.locals:=λx c e z=>by
 obtain⟨v,o,ho,hd⟩:=I.cell x c e;obtain⟨m,⟨o',es,ep,ho',hd',_⟩,_⟩:=I.loc;rw[z,ho'] at ho;cases ho;rw[hd'] at hd;cases hd
theorem Inv.funs(I:Inv X pins σ H s):s.heap.FunFrames X.base X.outer:=by
 have all:∀(l:List Env),(∀b∈frs l,b∈X.fs)->X.s₀.heap.FunFrames X.base l->s.heap.FunFrames X.base l:=by
  intro l;induction l with
  |nil=>intro _ _;trivial
  |cons env r ih=>
   intro hs hl;obtain⟨hk,⟨L,o,hf,hn,ho,hd⟩,hr⟩:=hl;have hL:L∈X.fs:=hs L (by unfold frs;rw[QcJ,hf];exact Zh);obtain⟨sl,e⟩:=I.base.slot L o ho (I.ok.frf L hL) hL λz=>I.ok.exfs L z hL
   exact⟨hk,⟨L,_,hf,hn,e,hd⟩,ih (λb hb=>hs b (by unfold frs;rw[QcJ,hf];exact Jr _ hb)) hr⟩
 exact all X.outer (λ_ hb=>hb) I.ok.funs
theorem Inv.stack(I:Inv X pins σ H s):s.heap.FunFrames X.base X.stack:=by
 rcases I.ok.stk with e | ⟨e,hf⟩
 ·rw[e];exact I.funs
 ·rw[e];obtain⟨m,hn,_⟩:=I.loc;refine .cons (by rw[I.ok.kind];decide) hf hn ?_ I.funs
  exact Heap.get?_none_of_le (Q1 I.ok.bsz I.ok.above)
theorem Inv.stkSub(I:Inv X pins σ H s):∀b∈frs X.stack,b∈X.env.locals::X.fs:=λb hb=>by
 rcases I.ok.stk with e | ⟨e,hf⟩
 ·rw[e] at hb;exact Jr _ hb
 ·rw[e] at hb;unfold frs at hb;rw[QcJ,hf] at hb;exact hb
theorem Inv.stkFree(I:Inv X pins σ H s):∀b∈frs X.stack,H b=none:=λb hb=>by
 rcases Qt.mp (I.stkSub b hb) with e | hb
 ·rw[e];exact I.free
 ·obtain⟨_,o,ho,_⟩:=I.ok.funs.mem hb;exact I.base.free b o ho (I.ok.frf b hb) λz=>I.ok.exfs b z hb
theorem Inv.step{g':Array GenState}{t':Nat}{d':Drawn}{ch:List Addr}(I:Inv X pins σ H s)
  (hch:∀b∈ch,(b∈X.ex∨X.s₀.heap.objs.size<=b)/\b≠X.env.locals/\(∀x c,X.env.cells.lookup x=some c->c≠b)/\∀p∈X.pn++pins,p.1≠b)
  (keep:∀b o,b≠X.env.locals->b∉X.fs->b∉ch->s.heap.get? b=some o->H b=none->h'.get? b=some o)
  (slot:∀b o,b≠X.env.locals->b∈X.fs->b∉ch->s.heap.get? b=some o->H b=none->∃sl,h'.get? b=some { o with slots:=sl })(free:∀b o,b∉ch->s.heap.get? b=some o->H b=none->H' b=none)
  (there:∀b o,b∉ch->s.heap.get? b=some o->∃o',h'.get? b=some o')
  (tups:∀b xs,H b=some (.tup xs)->H' b=some (.tup xs))(frzs:∀b o u,H b=some (.frz o u)->H' b=some (.frz o u))(tbls:∀b ps,H b=some (.tbl ps)->∃more,H' b=some (.tbl (ps++more)))
  (ns:∀m,s.heap.Ns X.env.locals m->h'.Ns X.env.locals m)(hok:HOk X.prog X.w H' h')(hg:QdX g') :
  Inv X pins σ H' { s with heap:=h',gens:=g',drawn:=d',toks:=t' }:=by
 have neL:∀b o,X.s₀.heap.get? b=some o->b≠X.env.locals:=λb o e=>QF (QU (Qj e) I.ok.above)
 have neC:∀b o,X.s₀.heap.get? b=some o->b∉X.ex->b∉ch:=λb o e hx hb=>by
  rcases(hch b hb).1 with z | z
  ·exact hx z
  ·exact absurd (QU (Qj e) z) (Ym _)
 have cellK:∀x c,X.env.cells.lookup x=some c->∀v,s.heap.IsCell c v->h'.IsCell c v:=λx c e v ⟨o,ho,hd⟩=>by
  have nch:c∉ch:=λz=>(hch c z).2.2.1 x c e rfl
  by_cases hc:c∈X.fs
  ·obtain⟨sl,q⟩:=slot c o (I.cne x c e) hc nch ho (I.freeC x c e);exact⟨_,q,hd⟩
  ·exact⟨o,keep c o (I.cne x c e) hc nch ho (I.freeC x c e),hd⟩
 refine⟨I.ok,I.os,hg,⟨λb o e n hb hx=>?_,λb o e n hb hx=>?_,λb o e n hx=>?_,λb o e hx=>?_,λb xs e=>tups b xs (I.base.tups b xs e),λb o xs e=>frzs b o xs (I.base.frzs b o xs e),λb ps e=>?_⟩,?_,λx c e=>?_,?_,λx c e=>?_,λp hp=>?_,hok,I.len⟩
 ·exact keep b o (neL b o e) hb (neC b o e hx) (I.base.keep b o e n hb hx) (I.base.free b o e n hx)
 ·obtain⟨sl,e1⟩:=I.base.slot b o e n hb hx;obtain⟨sl',e2⟩:=slot b _ (neL b o e) hb (neC b o e hx) e1 (I.base.free b o e n hx);exact⟨sl',e2⟩
 ·obtain⟨o',e1⟩:=I.base.there b o e hx;exact free b o' (neC b o e hx) e1 (I.base.free b o e n hx)
 ·obtain⟨o',e1⟩:=I.base.there b o e hx;exact there b o' (neC b o e hx) e1
 ·obtain⟨m1,e1⟩:=I.base.tbls b ps e;obtain⟨m2,e2⟩:=tbls b _ e1;exact⟨m1++m2,by rw[e2,QmD]⟩
 ·obtain⟨m,hn,hl⟩:=I.loc;refine⟨m,ns m hn,λi x v e1 e2 e3=>?_⟩;obtain⟨u,r,l⟩:=hl i x v e1 e2 e3;refine⟨u,r,?_⟩;rcases l with l | ⟨k,c,e,z⟩
  ·exact .inl l
  ·exact .inr ⟨k,c,e,cellK x c e _ z⟩
 ·obtain⟨v,z⟩:=I.cell x c e;exact⟨v,cellK x c e v z⟩
 ·obtain⟨m,⟨o,_,_,ho,_⟩,_⟩:=I.loc;exact free _ o (λz=>(hch _ z).2.1 rfl) ho I.free
 ·obtain⟨v,o,ho,hd⟩:=I.cell x c e;exact free c o (λz=>(hch c z).2.2.1 x c e rfl) ho (I.freeC x c e)
 ·obtain⟨e,n,ne,nf,d⟩:=I.pin p hp;have nch:p.1∉ch:=λz=>(hch p.1 z).2.2.2 p hp rfl
  exact⟨keep p.1 p.2 ne nf nch e n,free p.1 p.2 nch e n,ne,nf,d⟩
theorem Inv.un{t':Nat}(I:Inv X pins σ H s)(u:Un X.fs [] H H' s.heap h')(hok:HOk X.prog X.w H' h'):Inv X pins σ H' { s with heap:=h',toks:=t' }:=by
 obtain⟨m,⟨o,es,ep,ho,r⟩,_⟩:=id I.loc;obtain⟨sl,hL⟩:=u.any ho I.free (by simp);exact I.step (g':=s.gens) (d':=s.drawn) (ch:=[]) (λ_ z=>nomatch z) (λb o _ hb _ e n=>u.keep b o e n hb (by simp)) (λb o _ hb _ e n=>u.slot b o e n hb (by simp)) (λb o _ e n=>u.free b o e n (by simp)) (λb o _ e=>u.there b o e (by simp)) u.tups u.frzs u.tbls (λm' hm=>by
  obtain⟨o',es',ep',ho',r'⟩:=hm;rw[ho] at ho';cases ho';exact⟨_,es',ep',hL,r'⟩) hok I.bare
theorem Inv.call{g':Array GenState}{t':Nat}{d':Drawn}{ch:List Addr}(I:Inv X pins σ H s)(u:Un (frs X.stack) ch H H' s.heap h')(hok:HOk X.prog X.w H' h')(hg:QdX g')
  (hch:∀b∈ch,(b∈X.ex∨X.s₀.heap.objs.size<=b)/\b≠X.env.locals/\(∀x c,X.env.cells.lookup x=some c->c≠b)/\∀p∈X.pn++pins,p.1≠b) :
  Inv X pins σ H' { s with heap:=h',gens:=g',drawn:=d',toks:=t' }:=by
 obtain⟨m,⟨o,es,ep,ho,r⟩,_⟩:=id I.loc;obtain⟨sl,hL⟩:=u.any ho I.free λz=>(hch _ z).2.1 rfl
 exact I.step (ch:=ch) hch (λb o hL hb hc e n=>u.keep b o e n (λz=>(Qt.mp (I.stkSub b z)).elim hL hb) hc) (λb o _ _ hc e n=>u.any e n hc) (λb o hc e n=>u.free b o e n hc) (λb o hc e=>u.there b o e hc) u.tups u.frzs u.tbls (λm' hm=>by
  obtain⟨o',es',ep',ho',r'⟩:=hm;rw[ho] at ho';cases ho';exact⟨_,es',ep',hL,r'⟩) hok hg
theorem Inv.turned{t':Nat}{it:Addr}(I:Inv X pins σ H s)(k:∀b o,b≠it->s.heap.get? b=some o->h'.get? b=some o)(hn:H it=none)(hL:it≠X.env.locals)
  (h1:it∈X.ex∨X.s₀.heap.objs.size<=it)(h2:∀x c,X.env.cells.lookup x=some c->c≠it)(h3:∀p∈X.pn++pins,p.1≠it):Inv X pins σ H { s with heap:=h',toks:=t' }:=by
 have nit:∀b u,H b=some u->b≠it:=λb u e z=>by rw[z,hn] at e;cases e
 refine I.step (g':=s.gens) (d':=s.drawn) (ch:=[it]) (λb hb=>?_) (λb o _ _ hc e _=>k b o (λz=>hc (by simp[z])) e) (λb o _ _ hc e _=>⟨o.slots,k b o (λz=>hc (by simp[z])) e⟩) (λ_ _ _ _ n=>n)
  (λb o hc e=>⟨o,k b o (λz=>hc (by simp[z])) e⟩) (λ_ _ e=>e) (λ_ _ _ e=>e) (λb ps e=>⟨#[],by rw[e];simp⟩) (λm hm=>?_) (λb u e=>?_) I.bare
 ·have e:b=it:=by simpa using hb
  subst e;exact⟨h1,hL,h2,h3⟩
 ·obtain⟨o,es,ep,ho,r⟩:=hm;exact⟨o,es,ep,k _ o (Qca hL) ho,r⟩
 ·refine(I.hok b u e).stay (λc v hc q=>k c v ?_ q) (λ_ q=>q) λ_ _ q=>q
  rcases hc with z | z
  ·rw[z];exact nit b u e
  ·exact nit c _ z
theorem Inv.tok(I:Inv X pins σ H s)(t:Nat):Inv X pins σ H { s with toks:=t }:=I.un (h':=s.heap) (t':=t) Un.refl I.hok
theorem Inv.kept{t':Nat}(I:Inv X pins σ H s)(k:∀b u,s.heap.get? b=some u->h'.get? b=some u):Inv X pins σ H { s with heap:=h',toks:=t' }:=I.un (Un.kept k) (I.hok.kept k)
theorem Inv.laid{a:Addr}{o:HO}{t':Nat}(I:Inv X pins σ H s)(k:∀b u,s.heap.get? b=some u->h'.get? b=some u)(hp:s.heap.objs.size<=a)(new:ObjOk X.prog X.w (upd H a o) h' a o) :
  Inv X pins σ (upd H a o) { s with heap:=h',toks:=t' }:=I.un (Un.laid k hp (I.hok.fresh hp)) (I.hok.laid k hp new)
theorem Inv.write{x e:Addr}{o:HO}{t':Nat}(I:Inv X pins σ H s)(mu:Mut (H x))(he:e=x∨H e=some (.own x))(k:∀b u,b≠e->s.heap.get? b=some u->h'.get? b=some u)(heo:∃u,h'.get? e=some u)
  (new:ObjOk X.prog X.w (upd H x o) h' x o):Inv X pins σ (upd H x o) { s with heap:=h',toks:=t' }:=I.un (Un.write mu he k heo) (I.hok.write mu he k heo new)
theorem Inv.weak{σ':List (Option V)}(I:Inv X pins σ H s)(hl:σ'.length=σ.length)(w:∀(i:Nat) v,σ'[i]? = some (some v)->σ[i]? = some (some v)):Inv X pins σ' H s:=
 ⟨I.ok,I.os,I.bare,I.base,let ⟨m,hn,hl'⟩:=I.loc;⟨m,hn,λi x v e1 e2 e3=>hl' i x v e1 (w i v e2) e3⟩,I.cell,I.free,I.freeC,I.pin,I.hok,hl.trans I.len⟩
theorem Inv.pins_of{pins':List (Addr×Obj)}(I:Inv X pins σ H s)(h:∀p∈pins',s.heap.get? p.1=some p.2/\H p.1=none/\p.1≠X.env.locals/\p.1∉X.fs/\∀v,p.2.data≠.cell v):Inv X pins' σ H s:=
 ⟨I.ok,I.os,I.bare,I.base,I.loc,I.cell,I.free,I.freeC,λp hp=>(Jn.mp hp).elim (λz=>I.pin p (Qad _ z)) (h p),I.hok,I.len⟩
theorem Qid{N:List Str}(hN:N.Nodup){i j:Nat}{x:Str}(a:N[i]? = some x)(b:N[j]? = some x):i=j:=by
 obtain⟨h1,e1⟩:=Qs.mp a;obtain⟨h2,e2⟩:=Qs.mp b;exact(List.getElem_inj hN).mp (e1.trans e2.symm)
theorem QfY{M:Model}{A:Jh}{E:Value->Shared->Prop}{i:Nat}{x:Str}{v:V}{u:Value}{Q:Unit->Shared->Prop}(I:Inv X pins σ H s)(hN:X.N.Nodup)(hi:X.N[i]? = some x)(hx:Loc X.env.scope x)(r:RelV v u)
  (h:∀s',Inv X pins (σ.set i (some v)) H s'->(∃a,QbP a s.heap s'.heap/\(a=X.env.locals∨X.env.cells.lookup x=some a))->Q () s')(hf:X.fn x=true∨X.env.scope.names.lookup x=some .local:=by first | exact .inl rfl | exact .inr rfl | assumption):wpAny M A (storeName X.env x u) Q E s:=by
 obtain⟨m,hn,hl⟩:=id I.loc;have hcls:(X.env.scope.kind == .class||(X.env.scope.kind == .module&&X.env.locals != X.env.globals))=false:=by rw[I.ok.kind];rfl
 have hiσ:i < σ.length:=by rw[I.len];exact(Qs.mp hi).1
 have cne:=I.cne;have tracked:∀{a:Addr}{h':J8},(∃o,s.heap.get? a=some o/\H a=none)->QbP a s.heap h'->HOk X.prog X.w H h':=λ{a h'} ha hs b ob e=>by
  obtain⟨_,_,hfree⟩:=ha;refine(I.hok b ob e).stay (λc w' hc q=>(hs.2 c ?_).trans q) (λ_ q=>q) λ_ _ q=>q
  rintro rfl;rcases hc with rfl | hc
  ·rw[hfree] at e;cases e
  ·rw[hfree] at hc;cases hc
 rcases hx with hk | hk
 ·refine wpAny_storeName_local hk hn (λh' hn' hs=>?_) hcls;obtain⟨oL,_,_,hoL,_⟩:=id hn;refine h _ ⟨I.ok,I.os,I.bare,⟨λb o e n hb hx=>?_,λb o e n hb hx=>?_,I.base.free,λb o e hx=>?_,I.base.tups,I.base.frzs,I.base.tbls⟩,⟨_,hn',λj y v' e1 e2 e3=>?_⟩,λy c e=>?_,I.free,I.freeC,λp hp=>?_,tracked ⟨oL,hoL,I.free⟩ hs,by simpa using I.len⟩ ⟨_,hs,.inl rfl⟩
  ·exact(hs.2 b (QF (QU (Qj e) I.ok.above))).trans (I.base.keep b o e n hb hx)
  ·obtain⟨sl,e1⟩:=I.base.slot b o e n hb hx;exact⟨sl,(hs.2 b (QF (QU (Qj e) I.ok.above))).trans e1⟩
  ·obtain⟨o',e1⟩:=I.base.there b o e hx;exact⟨o',(hs.2 b (QF (QU (Qj e) I.ok.above))).trans e1⟩
  ·by_cases hj:j=i
   ·subst hj;rw[hi] at e1;cases e1;rw[Qbu hiσ] at e2;cases e2;exact⟨u,r,.inl ⟨hk,by simp⟩⟩
   ·rw[Qcc (Qca hj)] at e2;obtain⟨u',r',q⟩:=hl j y v' e1 e2 e3;refine⟨u',r',?_⟩;rcases q with⟨k,e⟩ | ⟨k,c,e,z⟩
    ·refine .inl ⟨k,?_⟩;have:y≠x:=λe=>hj (Qid hN e1 (e ▸ hi))
     simp[this,e]
    ·exact .inr ⟨k,c,e,z.sameBut hs (cne y c e)⟩
  ·obtain⟨w',z⟩:=I.cell y c e;exact⟨w',z.sameBut hs (cne y c e)⟩
  ·obtain⟨e,n,ne,nf,d⟩:=I.pin p hp;exact⟨(hs.2 p.1 ne).trans e,n,ne,nf,d⟩
 ·have hfn:X.fn x=true:=by
   rcases hf with z | z
   ·exact z
   ·rw[z] at hk;cases hk
  obtain⟨c,hc⟩:=I.ok.has x (.inl hk);obtain⟨w',z⟩:=I.cell x c hc;refine wpAny_storeName_cell I.ok.kind hk hc z (λh' hc' hs=>?_);obtain⟨oc,hoc,hocd⟩:=id z;refine h { s with heap:=h' } ⟨I.ok,I.os,I.bare,⟨λb o e n hb hx=>?_,λb o e n hb hx=>?_,I.base.free,λb o e hx=>?_,I.base.tups,I.base.frzs,I.base.tbls⟩,⟨m,hn.sameBut hs (Qca (cne x c hc)),λj y v' e1 e2 e3=>?_⟩,λy c' e=>?_,I.free,I.freeC,λp hp=>?_,tracked ⟨oc,hoc,I.freeC x c hc⟩ hs,by simpa using I.len⟩ ⟨c,hs,.inr hc⟩
  ·exact(hs.2 b (QF (QU (Qj e) (I.ok.cab x c hfn hc)))).trans (I.base.keep b o e n hb hx)
  ·obtain⟨sl,e1⟩:=I.base.slot b o e n hb hx;exact⟨sl,(hs.2 b (QF (QU (Qj e) (I.ok.cab x c hfn hc)))).trans e1⟩
  ·obtain⟨o',e1⟩:=I.base.there b o e hx;exact⟨o',(hs.2 b (QF (QU (Qj e) (I.ok.cab x c hfn hc)))).trans e1⟩
  ·by_cases hj:j=i
   ·subst hj;rw[hi] at e1;cases e1;rw[Qbu hiσ] at e2;cases e2;exact⟨u,r,.inr ⟨.inl hk,c,hc,hc'⟩⟩
   ·rw[Qcc (Qca hj)] at e2;obtain⟨u',r',q⟩:=hl j y v' e1 e2 e3;refine⟨u',r',?_⟩;rcases q with q | ⟨k,c',e,z'⟩
    ·exact .inl q
    ·refine .inr ⟨k,c',e,z'.sameBut hs ?_⟩;rintro rfl;exact hj (Qid hN e1 (I.ok.inj _ _ _ e hc ▸ hi))
  ·by_cases hcc:c'=c
   ·subst hcc;exact⟨_,hc'⟩
   ·obtain⟨w2,z2⟩:=I.cell y c' e;exact⟨w2,z2.sameBut hs hcc⟩
  ·obtain⟨e,n,ne,nf,d⟩:=I.pin p hp;refine⟨(hs.2 p.1 ?_).trans e,n,ne,nf,d⟩;intro q;rw[q,hoc] at e;have q':oc=p.2:=Qr e;exact d w' (by rw[<- q'];exact hocd)
theorem QeW{M:Model}{A:Jh}{E:Value->Shared->Prop}{i:Nat}{x:Str}{v:V}{u:Value}{Q:Unit->Shared->Prop}(I:Inv X pins σ H s)(hN:X.N.Nodup)(hi:X.N[i]? = some x)(hx:Loc X.env.scope x)(r:RelV v u)
  (h:∀s',Inv X pins (σ.set i (some v)) H s'->Q () s')(hf:X.fn x=true∨X.env.scope.names.lookup x=some .local:=by first | exact .inl rfl | exact .inr rfl | assumption):wpAny M A (storeName X.env x u) Q E s:=
 QfY I hN hi hx r (λs' I' _=>h s' I') hf
theorem Inv.call'{s':Shared}{ch:List Addr}(I:Inv X pins σ H s)(ho:s'.os=s.os)(u:Un (frs X.stack) ch H H' s.heap s'.heap)(hok:HOk X.prog X.w H' s'.heap)(hg:QdX s'.gens)
  (hch:∀b∈ch,(b∈X.ex∨X.s₀.heap.objs.size<=b)/\b≠X.env.locals/\(∀x c,X.env.cells.lookup x=some c->c≠b)/\∀p∈X.pn++pins,p.1≠b):Inv X pins σ H' s':=by
 obtain⟨h',g',d',t',o'⟩:=s';have e:o'=s.os:=ho;subst e;exact I.call (g':=g') (t':=t') (d':=d') u hok hg hch
end
abbrev XK:=Value->Option Addr->Hp->Prop
abbrev St:=List (Option V)
abbrev VK:=V->Hp->Prop
abbrev TE:=St->Hp->VK->Prop
abbrev TT:=St->Hp->(Bool->Hp->Prop)->Prop
abbrev TA:=St->Hp->(List V->Hp->Prop)->Prop
structure Ends where
 nx:St->Hp->Prop
 rt:VK
 bk:St->Hp->Prop:=λ_ _=>False
 ct:St->Hp->Prop:=λ_ _=>False
abbrev TS:=Ends->St->Hp->Prop
def EP(X:Cx)(pins:List (Addr×Obj))(σ:St)(Q:VK)(u:Value)(s':Shared):Prop:=∃v H',Inv X pins σ H' s'/\RelV v u/\Q v H'
def TP(X:Cx)(pins:List (Addr×Obj))(σ:St)(Q:Bool->Hp->Prop)(b:Bool)(s':Shared):Prop:=∃H',Inv X pins σ H' s'/\Q b H'
def AP(X:Cx)(pins:List (Addr×Obj))(σ:St)(Q:List V->Hp->Prop)(us:List Value)(s':Shared):Prop:=∃vs H',Inv X pins σ H' s'/\Vals vs us/\Q vs H'
def SP(X:Cx)(pins:List (Addr×Obj))(D:Ends)(f:Flow)(s':Shared):Prop:=
 match f with
 |.next=>∃σ' H',Inv X pins σ' H' s'/\D.nx σ' H'
 |.brk=>∃σ' H',Inv X pins σ' H' s'/\D.bk σ' H'
 |.cont=>∃σ' H',Inv X pins σ' H' s'/\D.ct σ' H'
 |.ret u=>∃v σ' H',Inv X pins σ' H' s'/\RelV v u/\D.rt v H'
def PE(X:Cx)(e:QV)(t:TE):Prop:=
 ∀(pins:List (Addr×Obj))(s:Shared)(σ:St)(H:Hp)(Q:VK),Inv X pins σ H s->t σ H Q->wpAny (model X.prog X.w) X.A (eval e X.env) (EP X pins σ Q) X.xe s
def PT(X:Cx)(e:QV)(t:TT):Prop:=
 ∀(pins:List (Addr×Obj))(s:Shared)(σ:St)(H:Hp)(Q:Bool->Hp->Prop),Inv X pins σ H s->t σ H Q->wpAny (model X.prog X.w) X.A (isTrue e X.env (eval e X.env)) (TP X pins σ Q) X.xe s
def PW(X:Cx)(e:QV)(t:TT):Prop:=
 ∀(whole:Sem Value)(pins:List (Addr×Obj))(s:Shared)(σ:St)(H:Hp)(Q:Bool->Hp->Prop),Inv X pins σ H s->t σ H Q->wpAny (model X.prog X.w) X.A (isTrue e X.env whole) (TP X pins σ Q) X.xe s
theorem PW.pt{X:Cx}{e:QV}{t:TT}(h:PW X e t):PT X e t:=h _
def PA(X:Cx)(es:List QV)(t:TA):Prop:=
 ∀(pos:Pos)(pins:List (Addr×Obj))(s:Shared)(σ:St)(H:Hp)(Q:List V->Hp->Prop),Inv X pins σ H s->t σ H Q->wpAny (model X.prog X.w) X.A (spliced (backTo pos (starEach es X.env))) (AP X pins σ Q) X.xe s
def PS(X:Cx)(st:ZK)(t:TS):Prop:=
 ∀(pins:List (Addr×Obj))(s:Shared)(σ:St)(H:Hp)(D:Ends),Inv X pins σ H s->t D σ H->wpAny (model X.prog X.w) X.A (exec st X.env) (SP X pins D) X.xe s
def PSs(X:Cx)(st:List ZK)(t:TS):Prop:=
 ∀(pins:List (Addr×Obj))(s:Shared)(σ:St)(H:Hp)(D:Ends),Inv X pins σ H s->t D σ H->wpAny (model X.prog X.w) X.A (execs st X.env) (SP X pins D) X.xe s
theorem thn{α:Type}{t:Sem α}{Q Q':α->Shared->Prop}{M:Model}{A:Jh}{E:Value->Shared->Prop}{s:Shared}(h:wpAny M A t Q E s)(hQ:∀a s,Q a s->Q' a s):wpAny M A t Q' E s:=wpAny_mono h hQ λ_ _ x=>x
section
variable{X:Cx}
def Qj8(i:Nat):TE:=λσ H Q=>∃v,σ[i]? = some (some v)/\Q v H
def tC(v:V):TE:=λ_ H Q=>Q v H
theorem QkP{i:Nat}{x:Str}{pos:Pos}(hN:X.N[i]? = some x)(hv:Vis X.env.scope x)(hd:(x == ("__debug__" : Str))=false:=by decide)(hcd:(x == ("__classdict__" : Str))=false:=by decide):PE X (.Name x pos) (Qj8 i):=by
 intro pins s σ H Q I h;obtain⟨v,e,h⟩:=h;obtain⟨m,hn,hl⟩:=I.loc;obtain⟨u,r,l⟩:=hl i x v hN e hv;have fin:EP X pins σ Q u s:=⟨v,H,I,r,h⟩;rcases l with⟨hk,hm⟩ | ⟨hk,c,hc,hcell⟩
 ·exact QwU (Qty I.ok.kind hk hn hm fin) hd
 ·rcases hk with hk | hk
  ·exact QwU (QtP I.ok.kind hk hc hcell fin) hd
  ·exact QwU (wpAny_loadName_free I.ok.kind hk hc hcell fin hcd) hd
theorem Yr{i j pos}:PE X (.Constant (.int i) j pos) (tC (.int i)):=λ_ _ _ H _ I h=>wpAny_Constant_int ⟨.int i,H,I.tok _,⟨_,rfl⟩,h⟩
theorem QxL{b j pos}:PE X (.Constant (.bool b) j pos) (tC (.bl b)):=λ_ _ _ H _ I h=>Constant_bool ⟨.bl b,H,I,rfl,h⟩
theorem QuN{j pos}:PE X (.Constant .none j pos) (tC .non):=λ_ _ _ H _ I h=>Constant_none ⟨.non,H,I,rfl,h⟩
def Gl(X:Cx)(x:Str):Prop:=X.env.kindOf x=some .globalImplicit
theorem Qhi{E:Value->Shared->Prop}{pins:List (Addr×Obj)}{s:Shared}{σ:St}{H:Hp}{x:Str}{u:Value}{pos:Pos}{Q:Value->Shared->Prop}(I:Inv X pins σ H s)(hg:Gl X x)(hm:X.mg x=some u)(h:Q u s)
  (hd:(x == ("__debug__" : Str))=false:=by decide):wpAny (model X.prog X.w) X.A (eval (.Name x pos) X.env) Q E s:=
 QfK I.ok.kind hg (Calls.loadGlobal_global (by rw[I.ok.glob];exact I.mod.glob.keeps I.bk) hm h) hd
theorem Qb3{E:Value->Shared->Prop}{pins:List (Addr×Obj)}{s:Shared}{σ:St}{H:Hp}{x:Str}{u:Value}{pos:Pos}{Q:Value->Shared->Prop}(I:Inv X pins σ H s)(hg:Gl X x)(hm:X.mg x=none)(hv:bootBuiltins x=some u)(h:Q u s)
  (hn:x ≠ "__name__" := by decide)(hd:(x == ("__debug__" : Str))=false:=by decide):wpAny (model X.prog X.w) X.A (eval (.Name x pos) X.env) Q E s:=by
 obtain⟨mb,h1,h2⟩:=I.mod.blt;exact QfK I.ok.kind hg (Calls.loadGlobal_builtin (by rw[I.ok.glob];exact I.mod.glob.keeps I.bk) hm (by rw[I.ok.blt];exact h1.keeps I.bk) ((h2 x hn).trans hv) h) hd
theorem QrX{x:Str}{v:V}{u:Value}{pos:Pos}(hg:Gl X x)(hm:X.mg x=some u)(r:RelV v u)(hd:(x == ("__debug__" : Str))=false:=by decide):PE X (.Name x pos) (tC v):=
 λ_ _ _ H _ I h=>Qhi I hg hm ⟨v,H,I,r,h⟩ hd
theorem QrZ{x:Str}{v:V}{u:Value}{pos:Pos}(hg:Gl X x)(hm:X.mg x=none)(hv:bootBuiltins x=some u)(r:RelV v u)(hn:x ≠ "__name__" := by decide)(hd:(x == ("__debug__" : Str))=false:=by decide):PE X (.Name x pos) (tC v):=
 λ_ _ _ H _ I h=>Qb3 I hg hm hv ⟨v,H,I,r,h⟩ hn hd
variable{a b:QV}{ta tb:TE}{pos:Pos}
def tB(t:TE):TT:=λσ H Q=>t σ H λx H1=>∃c,x=.bl c/\Q c H1
theorem QuD{e:QV}{t:TE}(h:PE X e t)(he:∀whole,isTrue e X.env whole=(do let v <- whole;standAt e.pos;holding [v] (truthy v)):=by intro _;rfl):PT X e (tB t):=by
 intro pins s σ H Q I hw;refine isTrue_plain (thn (h pins s σ H _ I hw) λv s1 ⟨x,H1,I1,r1,q1⟩=>?_) (he _);obtain⟨d,rfl,q⟩:=q1;cases r1;exact JB ⟨H1,I1,q⟩
variable{tA tB':TT}{rest:List QV}
def Qzq(t u:TT):TT:=λσ H Q=>t σ H λc H1=>if c=true then u σ H1 Q else Q false H1
def tOr(t u:TT):TT:=λσ H Q=>t σ H λc H1=>if c=true then Q true H1 else u σ H1 Q
def Qzn(t:TT):TT:=λσ H Q=>t σ H λc H1=>Q (!c) H1
theorem QrJ(ha:PT X a tA):PW X (.BoolOp .And [a] pos) tA:=by
 intro wh pins s σ H Q I h;refine isTrue_and (thn (ha pins s σ H Q I h) λc s1 e=>?_);cases c with
 |true=>exact isTrue_and_nil e
 |false=>exact e
theorem QuB(ha:PT X a tA):PW X (.BoolOp .Or [a] pos) tA:=by
 intro wh pins s σ H Q I h;refine isTrue_or (thn (ha pins s σ H Q I h) λc s1 e=>?_);cases c with
 |false=>exact isTrue_or_nil e
 |true=>exact e
theorem QuC(ha:PT X a tA)(hb:PW X (.BoolOp .And (b::rest) pos) tB'):PW X (.BoolOp .And (a::b::rest) pos) (Qzq tA tB'):=by
 intro wh pins s σ H Q I h;refine isTrue_and (thn (ha pins s σ H _ I h) λc s1 ⟨H1,I1,q1⟩=>?_);cases c with
 |true=>exact hb wh pins s1 σ H1 Q I1 q1
 |false=>exact⟨H1,I1,q1⟩
theorem QxG(ha:PT X a tA)(hb:PW X (.BoolOp .Or (b::rest) pos) tB'):PW X (.BoolOp .Or (a::b::rest) pos) (tOr tA tB'):=by
 intro wh pins s σ H Q I h;refine isTrue_or (thn (ha pins s σ H _ I h) λc s1 ⟨H1,I1,q1⟩=>?_);cases c with
 |true=>exact⟨H1,I1,q1⟩
 |false=>exact hb wh pins s1 σ H1 Q I1 q1
theorem QuE(ha:PT X a tA):PT X (.UnaryOp .Not a pos) (Qzn tA):=by
 intro pins s σ H Q I h;exact isTrue_not (ha pins s σ H (λc H1=>Q (!c) H1) I h)
def Qxt(ta tb:TE):TE:=λσ H Q=>ta σ H λx H1=>∃c,x=.bl c/\if c=true then tb σ H1 Q else Q (.bl false) H1
def Qzm(ta tb:TE):TE:=λσ H Q=>ta σ H λx H1=>∃c,x=.bl c/\if c=true then Q (.bl true) H1 else tb σ H1 Q
def Qxq(ta:TE):TE:=λσ H Q=>ta σ H λx H1=>∃c,x=.bl c/\Q (.bl (!c)) H1
theorem QuL{op}{t:TE}(h:PE X a t):PE X (.BoolOp op [a] pos) t:=λpins s σ H Q I hw=>BoolOp_one (h pins s σ H Q I hw)
theorem QuP(ha:PE X a ta)(hb:PE X (.BoolOp .And (b::rest) pos) tb):PE X (.BoolOp .And (a::b::rest) pos) (Qxt ta tb):=by
 intro pins s σ H Q I h;refine BoolOp_and (thn (ha pins s σ H _ I h) λv s1 ⟨x,H1,I1,r1,q1⟩=>?_);obtain⟨c,rfl,q1⟩:=q1;cases r1;refine JB ?_
 cases c with
 |true=>exact hb pins s1 σ H1 Q I1 q1
 |false=>exact⟨.bl false,H1,I1,rfl,q1⟩
theorem QxK(ha:PE X a ta)(hb:PE X (.BoolOp .Or (b::rest) pos) tb):PE X (.BoolOp .Or (a::b::rest) pos) (Qzm ta tb):=by
 intro pins s σ H Q I h;refine BoolOp_or (thn (ha pins s σ H _ I h) λv s1 ⟨x,H1,I1,r1,q1⟩=>?_);obtain⟨c,rfl,q1⟩:=q1;cases r1;refine JB ?_
 cases c with
 |false=>exact hb pins s1 σ H1 Q I1 q1
 |true=>exact⟨.bl true,H1,I1,rfl,q1⟩
theorem QuM(ha:PE X a ta):PE X (.UnaryOp .Not a pos) (Qxq ta):=by
 intro pins s σ H Q I h;refine UnaryOp_ (thn (ha pins s σ H _ I h) λv s1 ⟨x,H1,I1,r1,q1⟩=>?_);obtain⟨c,rfl,q1⟩:=q1;cases r1;exact not_of (JB ⟨.bl (!c),H1,I1,rfl,q1⟩)
def tIf(t:TT)(ta tb:TE):TE:=λσ H Q=>t σ H λc H1=>if c=true then ta σ H1 Q else tb σ H1 Q
theorem QnC{c:QV}(hc:PT X c tA)(ha:PE X a ta)(hb:PE X b tb):PE X (.IfExp c a b pos) (tIf tA ta tb):=by
 intro pins s σ H Q I h;refine wpAny_IfExp (thn (hc pins s σ H _ I h) λd s1 ⟨H1,I1,q1⟩=>?_);cases d with
 |true=>exact ha pins s1 σ H1 Q I1 q1
 |false=>exact hb pins s1 σ H1 Q I1 q1
end
def SqL(K:PySem.W.Frag)(H:Hp)(a:Addr)(xs:List V):Prop:=
 Rd H a (.lst xs) ∨
  ∃(o:Obj)(its:Array Value)(n:Nat),K.lookup a=some o/\o.cls=.type "list" /\ o.dict=none/\o.data=.seq its n/\its.size<=sizeLine/\Vals xs its.toList
def SqT(K:PySem.W.Frag)(H:Hp)(a:Addr)(xs:List V):Prop:=
 Rd H a (.tup xs) ∨
  ∃(o:Obj)(its:Array Value)(n:Nat),K.lookup a=some o/\o.cls=.type "tuple" /\ o.data=.seq its n/\its.size<=sizeLine/\Vals xs its.toList
def QzK:Value->Option V
 |.none=>some .non
 |.bool b=>some (.bl b)
 |.int i _=>some (.int i)
 |.str x _=>some (.str x)
 |.bytes b _=>some (.byt b)
 |.float b _=>some (.flt b)
 |.ref a=>some (.ref a)
 |.type n=>some (.ty n)
 |_=>none
theorem RelV.abs{x:V}{u:Value}(r:RelV x u):QzK u=some x:=by
 cases x with
 |non=>cases r;rfl
 |bl _=>cases r;rfl
 |int _=>obtain⟨t,rfl⟩:=r;rfl
 |str _=>obtain⟨t,rfl⟩:=r;rfl
 |byt _=>obtain⟨t,rfl⟩:=r;rfl
 |flt _=>obtain⟨t,rfl⟩:=r;rfl
 |ref _=>cases r;rfl
 |ty _=>cases r;rfl
theorem RelV.inj{x y:V}{u:Value}(r:RelV x u)(q:RelV y u):x=y:=Qr (r.abs.symm.trans q.abs)
theorem Vals.inj:∀{xs ys:List V}{us:List Value},Vals xs us->Vals ys us->xs=ys
 |_,_,_,.nil,.nil=>rfl
 |_,_,_,.cons r t,.cons r' t'=>by rw[r.inj r',Vals.inj t t']
section
variable{X:Cx}{pins:List (Addr×Obj)}{σ:St}{H:Hp}{s:Shared}{a:Addr}{xs ys:List V}
theorem SqL.of{K:PySem.W.Frag}(h:H a=some (.lst xs)):SqL K H a xs:=.inl (.inl h)
theorem SqT.of{K:PySem.W.Frag}(h:H a=some (.tup xs)):SqT K H a xs:=.inl (.inl h)
theorem Inv.list(I:Inv X pins σ H s)(h:SqL X.K H a xs):∃its:List Value,Vals xs its/\PlainL s.heap a its.toArray/\xs.length<=sizeLine:=by
 rcases h with h | ⟨o,its,n,hk,hc,hd,hs,hz,r⟩
 ·obtain⟨z,its,n,r,e⟩:=h.ok I.hok;exact⟨its,r,⟨_,n,e,rfl,rfl,rfl⟩,z⟩
 ·refine⟨its.toList,r,⟨o,n,I.kIn a o hk,hc,hd,by simpa using hs⟩,?_⟩;have e:=r.length;simp only[ZR] at e;omega
theorem Inv.tuple(I:Inv X pins σ H s)(h:SqT X.K H a xs):∃its:List Value,Vals xs its/\IsTup s.heap a its.toArray/\xs.length<=sizeLine:=by
 rcases h with h | ⟨o,its,n,hk,hc,hs,hz,r⟩
 ·obtain⟨z,its,r,p⟩:=h.ok I.hok;exact⟨its,r,p.tup,z⟩
 ·refine⟨its.toList,r,⟨o,I.kIn a o hk,hc,n,by simpa using hs⟩,?_⟩;have e:=r.length;simp only[ZR] at e;omega
theorem Inv.list_inj(I:Inv X pins σ H s)(h:SqL X.K H a xs)(h':SqL X.K H a ys):xs=ys:=by
 obtain⟨its,r,⟨o,n,e,_,_,d⟩,_⟩:=I.list h;obtain⟨its',r',⟨o',n',e',_,_,d'⟩,_⟩:=I.list h';rw[e] at e';cases e';rw[d] at d';injection d' with d1 _
 have:its=its':=by simpa using congrArg QwB d1
 subst this;exact r.inj r'
theorem Inv.tuple_inj(I:Inv X pins σ H s)(h:SqT X.K H a xs)(h':SqT X.K H a ys):xs=ys:=by
 obtain⟨its,r,⟨o,e,_,n,d⟩,_⟩:=I.tuple h;obtain⟨its',r',⟨o',e',_,n',d'⟩,_⟩:=I.tuple h';rw[e] at e';cases e';rw[d] at d';injection d' with d1 _
 have:its=its':=by simpa using congrArg QwB d1
 subst this;exact r.inj r'
end
abbrev Cx.wish (X:Cx) (E:Value->Shared->Prop):Cx:={ X with xe:=E }
abbrev Cx.nox (X:Cx):Cx:=X.wish λ_ _=>False
theorem Cx.Ok.wish{X:Cx}(ok:X.Ok)(E:Value->Shared->Prop):(X.wish E).Ok:=
 ⟨ok.mod,ok.kind,ok.glob,ok.blt,ok.above,ok.inj,ok.has,ok.cab,ok.hd,ok.frames,ok.stk,ok.exf,ok.bs,ok.bsz,ok.noex,ok.exfs,ok.funs,ok.frf⟩
theorem Cx.Ok.unwish{X:Cx}{E:Value->Shared->Prop}(ok:(X.wish E).Ok):X.Ok:=
 ⟨ok.mod,ok.kind,ok.glob,ok.blt,ok.above,ok.inj,ok.has,ok.cab,ok.hd,ok.frames,ok.stk,ok.exf,ok.bs,ok.bsz,ok.noex,ok.exfs,ok.funs,ok.frf⟩
section
variable{X:Cx}{pins:List (Addr×Obj)}{σ:St}{H:Hp}{s:Shared}{E:Value->Shared->Prop}
theorem Inv.wish(I:Inv X pins σ H s)(E:Value->Shared->Prop):Inv (X.wish E) pins σ H s:=⟨I.ok.wish E,I.os,I.bare,I.base,I.loc,I.cell,I.free,I.freeC,I.pin,I.hok,I.len⟩
theorem Inv.unwish(I:Inv (X.wish E) pins σ H s):Inv X pins σ H s:=⟨I.ok.unwish,I.os,I.bare,I.base,I.loc,I.cell,I.free,I.freeC,I.pin,I.hok,I.len⟩
theorem SP.unwish{D:Ends}{f:Flow}{s':Shared}(h:SP (X.wish E) pins D f s'):SP X pins D f s':=by
 cases f with
 |next=>obtain⟨σ',H',I,q⟩:=h;exact⟨σ',H',I.unwish,q⟩
 |brk=>obtain⟨σ',H',I,q⟩:=h;exact⟨σ',H',I.unwish,q⟩
 |cont=>obtain⟨σ',H',I,q⟩:=h;exact⟨σ',H',I.unwish,q⟩
 |ret u=>obtain⟨v,σ',H',I,r,q⟩:=h;exact⟨v,σ',H',I.unwish,r,q⟩
theorem PE.nox{e:QV}{t:TE}(h:PE X.nox e t):PE X e t:=λpins s σ H Q I hw=>
 wpAny_mono (h pins s σ H Q (I.wish _) hw) (λ_ _ ⟨v,H',I',r,q⟩=>⟨v,H',I'.unwish,r,q⟩) λ_ _ z=>Zg z
theorem PT.nox{e:QV}{t:TT}(h:PT X.nox e t):PT X e t:=λpins s σ H Q I hw=>
 wpAny_mono (h pins s σ H Q (I.wish _) hw) (λ_ _ ⟨H',I',q⟩=>⟨H',I'.unwish,q⟩) λ_ _ z=>Zg z
theorem PSs.nox{st:List ZK}{t:TS}(h:PSs X.nox st t):PSs X st t:=λpins s σ H D I hw=>
 wpAny_mono (h pins s σ H D (I.wish _) hw) (λ_ _ q=>q.unwish) λ_ _ z=>Zg z
end
section
variable{X:Cx}{st:ZK}{rest:List ZK}{t u:TS}{e:QV}{te:TE}{pos:Pos}
def Qxr:TS:=λD σ H=>D.nx σ H
def Qzk(t u:TS):TS:=λD σ H=>t { D with nx:=u D } σ H
theorem Qg5:PSs X [] Qxr:=λ_ _ σ H _ I h=>QcU ⟨σ,H,I,h⟩
theorem YZ(h1:PS X st t)(h2:PSs X rest u):PSs X (st::rest) (Qzk t u):=by
 intro pins s σ H D I h;refine wpAny_execs_cons (thn (h1 pins s σ H { D with nx:=u D } I h) λf s1 q=>?_);cases f with
 |next=>
  obtain⟨σ',H',I',q⟩:=q;exact h2 pins s1 σ' H' D I' q
 |ret v=>exact q
 |brk=>exact q
 |cont=>exact q
theorem QbH(h1:PS X st t):PSs X [st] t:=by
 intro pins s σ H D I h;refine wpAny_execs_cons (thn (h1 pins s σ H D I h) λf s1 q=>?_);cases f with
 |next=>exact QcU q
 |ret v=>exact q
 |brk=>exact q
 |cont=>exact q
theorem Inv.quiet{pins:List (Addr×Obj)}{σ:St}{H:Hp}{s:Shared}(I:Inv X pins σ H s):interactive X.env=false:=by simp[interactive,I.ok.kind]
def Qri(te:TE):TS:=λD σ H=>te σ H λ_ H1=>D.nx σ H1
theorem QkJ(he:PE X e te)(hs:swapsWith e none pos.line X.env=pure false:=by rfl):PS X (.Expr e pos) (Qri te):=by
 intro pins s σ H D I h;exact wpAny_Expr_any (thn (he pins s σ H _ I h) λv s1 ⟨x,H1,I1,r1,q1⟩=>⟨σ,H1,I1,q1⟩) I.quiet hs
def Qzl(te:TE):TS:=λD σ H=>te σ H D.rt
theorem QcR(he:PE X e te):PS X (.Return (some e) pos) (Qzl te):=by
 intro pins s σ H D I h;exact wpAny_Return_some (thn (he pins s σ H _ I h) λv s1 ⟨x,H1,I1,r1,q1⟩=>⟨x,σ,H1,I1,r1,q1⟩)
def Qzp(c:TT)(t u:TS):TS:=λD σ H=>c σ H λb H1=>if b=true then t D σ H1 else u D σ H1
theorem QrM{c:QV}{a b:List ZK}{tc:TT}(hc:PT X c tc)(ha:PSs X a t)(hb:PSs X b u):PS X (.If c a b pos) (Qzp tc t u):=by
 intro pins s σ H D I h;refine wpAny_If (thn (hc pins s σ H _ I h) λd s1 ⟨H1,I1,q1⟩=>?_);cases d with
 |true=>exact ha pins s1 σ H1 D I1 q1
 |false=>exact hb pins s1 σ H1 D I1 q1
end
abbrev TG:=V->St->Hp->(St->Hp->Prop)->Prop
abbrev TGs:=List V->St->Hp->(St->Hp->Prop)->Prop
def PG(X:Cx)(target:QV)(t:TG):Prop:=
 ∀(pins:List (Addr×Obj))(s:Shared)(σ:St)(H:Hp)(v:V)(u:Value)(Q:St->Hp->Prop),Inv X pins σ H s->RelV v u->t v σ H Q ->
  wpAny (model X.prog X.w) X.A (assign target X.env u) (λ_ s'=>∃σ' H',Inv X pins σ' H' s'/\Q σ' H') X.xe s
def PGs(X:Cx)(ts:List QV)(t:TGs):Prop:=
 ∀(pins:List (Addr×Obj))(s:Shared)(σ:St)(H:Hp)(vs:List V)(us:List Value)(Q:St->Hp->Prop),Inv X pins σ H s->Vals vs us->t vs σ H Q ->
  wpAny (model X.prog X.w) X.A (assignInOrder ((assignEach ts X.env).map (·.2)) us) (λ_ s'=>∃σ' H',Inv X pins σ' H' s'/\Q σ' H') X.xe s
abbrev TSet:=V->V->V->Hp->(Hp->Prop)->Prop
def Qyp(X:Cx)(t:TSet):Prop:=
 ∀(pins:List (Addr×Obj))(s:Shared)(σ:St)(H:Hp)(o i v:V)(ov iv u:Value)(Q:Hp->Prop),Inv X pins σ H s->RelV o ov->RelV i iv->RelV v u->t o i v H Q ->
  wpAny (model X.prog X.w) X.A (setItem ov iv u) (λ_ s'=>∃H',Inv X pins σ H' s'/\Q H') X.xe s
abbrev TIp:=V->V->Hp->VK->Prop
def PIp(X:Cx)(op:Qa7)(t:TIp):Prop:=
 ∀(pins:List (Addr×Obj))(s:Shared)(σ:St)(H:Hp)(x y:V)(v u:Value)(Q:VK),Inv X pins σ H s->RelV x v->RelV y u->t x y H Q ->
  wpAny (model X.prog X.w) X.A (inplaceOp op v u) (EP X pins σ Q) X.xe s
section
variable{X:Cx}{pos:Pos}
def Qfm(i:Nat):TG:=λv σ H Q=>Q (σ.set i (some v)) H
theorem Qg9{i:Nat}{x:Str}(hN:X.N.Nodup)(hi:X.N[i]? = some x)(hx:Loc X.env.scope x)(hf:X.fn x=true∨X.env.scope.names.lookup x=some .local:=by first | exact .inl rfl | exact .inr rfl | assumption):PG X (.Name x pos) (Qfm i):=by
 intro pins s σ H v u Q I r h;exact QwT (QeW I hN hi hx r (λs' I'=>⟨_,H,I',h⟩) hf)
def QyT:TGs:=λvs σ H Q=>vs=[]/\Q σ H
def QvO(t:TG)(u:TGs):TGs:=λvs σ H Q=>∃v r,vs=v::r/\t v σ H λσ' H'=>u r σ' H' Q
theorem QrU:PGs X [] QyT:=by
 intro pins s σ H vs us Q I r h;obtain⟨e,h⟩:=h;subst e;cases r;exact assignInOrder_nil ⟨σ,H,I,h⟩
theorem Qny{e:QV}{es:List QV}{t:TG}{u:TGs}(h1:PG X e t)(h2:PGs X es u)
  (hs:(assignEach (e::es) X.env).map (·.2)=assign e X.env::(assignEach es X.env).map (·.2):=by rfl):PGs X (e::es) (QvO t u):=by
 intro pins s σ H vs us Q I r h;obtain⟨v,vr,e1,h⟩:=h;subst e1;cases r with
 |cons r rr=>
  rw[hs];refine assignInOrder_cons (thn (h1 pins s σ H _ _ _ I r h) λ_ s1 ⟨σ1,H1,I1,q1⟩=>?_);exact h2 pins s1 σ1 H1 _ _ Q I1 rr q1
def QyS(K:PySem.W.Frag)(n:Nat)(t:TGs):TG:=λv σ H Q=>∃a xs,v=.ref a/\SqT K H a xs/\xs.length=n/\t xs σ H Q
theorem QuK{es:List QV}{k:Nat}{t:TGs}{n:Nat}(hc:X.calm=true)(h:PGs X es t)
  (hn:(assignEach es X.env).length=n:=by rfl)(hst:(assignEach es X.env).findIdx? (·.1)=none:=by rfl):PG X (.Tuple es k pos) (QyS X.K n t):=by
 intro pins s σ H v u Q I r hw;obtain⟨a,xs,e1,hq,hl,hw⟩:=hw;subst e1;cases r;obtain⟨its,rv,ht,hz⟩:=I.tuple hq;refine assign_Tuple_tuple (I.ok.hd hc) ht (by simp[hn,<- hl,rv.length]) hst λh' hx=>?_
 have I1:Inv X pins σ H { s with heap:=h' }:=I.kept (t':=s.toks) λb o e=>hx b o (QF (Qj e)) e
 exact h pins _ σ H xs _ Q I1 (by simpa using rv) hw
def gSub(to ti:TE)(t:TSet):TG:=λv σ H Q=>to σ H λo H1=>ti σ H1 λi H2=>t o i v H2 λH3=>Q σ H3
theorem Qph{o i:QV}{to ti:TE}{t:TSet}(ho:PE X o to)(hi:PE X i ti)(hs:Qyp X t)
  (ha:∀v,assign (.Subscript o i pos) X.env v=(do
   let ov <- holding [v] (eval o X.env)
   let iv <- holding [v,ov] (eval i X.env)
   standAt pos
   holding [v,ov,iv] (setItem ov iv v)
   release [v,ov,iv] []):=by intro _;rfl):PG X (.Subscript o i pos) (gSub to ti t):=by
 intro pins s σ H v u Q I r h;rw[ha];refine wpAny_bind (Zx (thn (ho pins s σ H _ I h) λov s1 ⟨x,H1,I1,r1,q1⟩=>?_));refine wpAny_bind (Zx (thn (hi pins s1 σ H1 _ I1 q1) λiv s2 ⟨y,H2,I2,r2,q2⟩=>?_));refine wpAny_bind (wpAny_standAt (wpAny_bind (Zx (thn (hs pins s2 σ H2 x y v ov iv u _ I2 r1 r2 r q2) λ_ s3 ⟨H3,I3,q3⟩=>?_))));exact wpAny_release ⟨σ,H3,I3,q3⟩
def Qm7(te:TE)(g:TG):TS:=λD σ H=>te σ H λx H1=>g x σ H1 D.nx
theorem QkK{tg e:QV}{te:TE}{g:TG}(he:PE X e te)(hg:PG X tg g)(hs:swapsWithSole [tg] e pos.line X.env=pure false:=by rfl)(hw:swappedStores [tg] e X.env=pure none:=by rfl)
  (h1:(assignEach [tg] X.env).map (·.2)=[assign tg X.env]:=by rfl):PS X (.Assign [tg] e pos) (Qm7 te g):=by
 intro pins s σ H D I h;refine wpAny_Assign_stores (thn (he pins s σ H _ I h) λv s1 ⟨x,H1,I1,r1,q1⟩=>?_) hs hw;rw[h1];exact thn (hg pins s1 σ H1 x v _ I1 r1 q1) λ_ s2 q=>q
theorem QcQ{i:Nat}{x:Str}{e:QV}{te:TE}{pos':Pos}(hN:X.N.Nodup)(hi:X.N[i]? = some x)(hx:Loc X.env.scope x)(he:PE X e te)(hs:swapsWith e (some (.Name x pos')) pos.line X.env=pure false:=by rfl)(hf:X.fn x=true∨X.env.scope.names.lookup x=some .local:=by first | exact .inl rfl | exact .inr rfl | assumption) :
  PS X (.Assign [.Name x pos'] e pos) (Qm7 te (Qfm i)):=by
 intro pins s σ H D I h;refine wpAny_Assign_Name (thn (he pins s σ H _ I h) λv s1 ⟨y,H1,I1,r1,q1⟩=>?_) hs;exact QeW I1 hN hi hx r1 (λs2 I2=>⟨_,H1,I2,q1⟩) hf
def Qyu(i:Nat)(te:TE)(ti:TIp):TS:=λD σ H=>∃x,σ[i]? = some (some x)/\te σ H λy H1=>ti x y H1 λz H2=>D.nx (σ.set i (some z)) H2
theorem QuF{i:Nat}{x:Str}{e:QV}{te:TE}{op:Qa7}{ti:TIp}{pos':Pos}(hN:X.N.Nodup)(hi:X.N[i]? = some x)(hx:Loc X.env.scope x)(he:PE X e te)(ho:PIp X op ti)(hf:X.fn x=true∨X.env.scope.names.lookup x=some .local:=by first | exact .inl rfl | exact .inr rfl | assumption) :
  PS X (.AugAssign (.Name x pos') op e pos) (Qyu i te ti):=by
 intro pins s σ H D I h;obtain⟨v,e1,h⟩:=h;obtain⟨m,hn,hl⟩:=I.loc;have vis:Vis X.env.scope x:=by rcases hx with k | k;exact .inl k;exact .inr (.inl k)
 obtain⟨u,r,l⟩:=hl i x v hi e1 vis;refine wpAny_AugAssign_Name ?_
 have go:wpAny (model X.prog X.w) X.A (eval e X.env) (λw s₂=>wpAny (model X.prog X.w) X.A (inplaceOp op u w) (λr s₃=>wpAny (model X.prog X.w) X.A (storeName X.env x r) (λ_=>SP X pins D .next) X.xe s₃) X.xe s₂) X.xe s:=by
  refine thn (he pins s σ H _ I h) λw s1 ⟨y,H1,I1,r1,q1⟩=>?_
  refine thn (ho pins s1 σ H1 v y u w _ I1 r r1 q1) λz s2 ⟨zv,H2,I2,r2,q2⟩=>?_
  exact QeW I2 hN hi hx r2 (λs3 I3=>⟨_,H2,I3,q2⟩) hf
 rcases l with⟨hk,hm⟩ | ⟨hk,c,hc,hcell⟩
 ·exact Qty I.ok.kind hk hn hm go
 ·rcases hk with hk | hk
  ·exact QtP I.ok.kind hk hc hcell go
  ·rcases hx with k | k
   ·have:X.env.scope.names.lookup x=some .free:=hk;rw[k] at this;cases this
   ·have:X.env.scope.names.lookup x=some .free:=hk;rw[k] at this;cases this
def Qud(to ti te:TE)(tget:V->V->Hp->VK->Prop)(tip:TIp)(tset:TSet):TS:=λD σ H=>to σ H λo H1=>ti σ H1 λi H2=>tget o i H2 λx H3=>te σ H3 λy H4=>tip x y H4 λz H5=>tset o i z H5 λH6=>D.nx σ H6
def Qze(X:Cx)(t:V->V->Hp->VK->Prop):Prop:=
 ∀(pins:List (Addr×Obj))(s:Shared)(σ:St)(H:Hp)(o i:V)(ov iv:Value)(Q:VK),Inv X pins σ H s->RelV o ov->RelV i iv->t o i H Q ->
  wpAny (model X.prog X.w) X.A (getItem ov iv) (EP X pins σ Q) X.xe s
theorem QrN{o i e:QV}{to ti te:TE}{tget:V->V->Hp->VK->Prop}{tip:TIp}{tset:TSet}{op:Qa7}{tpos:Pos}(ho:PE X o to)(hi:PE X i ti)(hg:Qze X tget)(he:PE X e te)(hp:PIp X op tip)(hs:Qyp X tset)
  (ha:∀ov iv new,augStore i ov iv new=(do holding [new,ov,iv] (setItem ov iv new);release [new,ov,iv] [];pure .next):=by intros;rfl):PS X (.AugAssign (.Subscript o i tpos) op e pos) (Qud to ti te tget tip tset):=by
 intro pins s σ H D I h;refine wpAny_AugAssign_SubscriptAny (thn (ho pins s σ H _ I h) λov s1 ⟨x1,H1,I1,r1,q1⟩=>?_) ha;refine thn (hi pins s1 σ H1 _ I1 q1) λiv s2 ⟨x2,H2,I2,r2,q2⟩=>?_
 refine thn (hg pins s2 σ H2 x1 x2 ov iv _ I2 r1 r2 q2) λold s3 ⟨x3,H3,I3,r3,q3⟩=>?_
 refine thn (he pins s3 σ H3 _ I3 q3) λv s4 ⟨x4,H4,I4,r4,q4⟩=>?_
 refine thn (hp pins s4 σ H4 x3 x4 old v _ I4 r3 r4 q4) λnew s5 ⟨x5,H5,I5,r5,q5⟩=>?_
 exact thn (hs pins s5 σ H5 x1 x2 x5 ov iv new _ I5 r1 r2 r5 q5) λ_ s6 ⟨H6,I6,q6⟩=>⟨σ,H6,I6,q6⟩
def ipI(f:Int->Int->Int):TIp:=λx y H Q=>∃i j,x=.int i/\y=.int j/\Q (.int (f i j)) H
theorem Qpp:PIp X .Add (ipI λi j=>i+j):=by
 intro pins s σ H x y v u Q I r1 r2 h;obtain⟨i,j,e1,e2,q⟩:=h;subst e1;subst e2;obtain⟨t,rfl⟩:=r1;obtain⟨t',rfl⟩:=r2;exact iadd_int ⟨.int _,H,I.tok _,⟨_,rfl⟩,q⟩
end
section
variable{X:Cx}{pos:Pos}
def Qub(c:TT)(tb:TS):TS:=λD σ H=>∃W:Nat->St->Hp->Prop,(∃m,W m σ H)/\∀m σ H,W m σ H ->
 c σ H λb H1=>if b=true then ∃N:St->Hp->Prop,(∀σ' H',N σ' H'->∃m',m'<m/\W m' σ' H')/\tb { D with nx:=N,ct:=N,bk:=D.nx } σ H1 else D.nx σ H1
theorem Qnt{c:QV}{body:List ZK}{tc:TT}{tb:TS}(hp:QeL (model X.prog X.w) X.A X.env X.xe)(hc:PT X c tc)(hb:PSs X body tb):PS X (.While c body [] pos) (Qub tc tb):=by
 intro pins s σ H D I h;obtain⟨W,⟨m0,w0⟩,turn⟩:=h;refine wpAny_While (codeAny_whileLoop (λn s'=>∃σ' H',Inv X pins σ' H' s'/\W n σ' H') ?_ m0 ⟨σ,H,I,w0⟩);rintro n s1 ⟨σ1,H1,I1,w1⟩;refine Yu hp (thn (hc pins s1 σ1 H1 _ I1 (turn n σ1 H1 w1)) λb s2 ⟨H2,I2,q2⟩=>?_);cases b with
 |true=>
  obtain⟨N,hN,q2⟩:=q2;rw[if_pos rfl];refine Yu hp (thn (hb pins s2 σ1 H2 _ I2 q2) λf s3 q3=>?_);cases f with
  |next=>
   obtain⟨σ3,H3,I3,n3⟩:=q3;obtain⟨m',hm,w3⟩:=hN σ3 H3 n3;exact⟨m',hm,σ3,H3,I3,w3⟩
  |cont=>
   obtain⟨σ3,H3,I3,n3⟩:=q3;obtain⟨m',hm,w3⟩:=hN σ3 H3 n3;exact⟨m',hm,σ3,H3,I3,w3⟩
  |brk=>exact q3
  |ret v=>exact q3
 |false=>
  rw[if_neg Qu];exact QcU ⟨σ1,H2,I2,q2⟩
end
structure It where
 go:Nat->Hp->Prop
 yld:Nat->Hp->V->Hp->Prop
 stop:Nat->Hp->Prop
def FpOk(X:Cx)(pins:List (Addr×Obj))(H:Hp)(b:Addr):Prop:=
 H b=none/\b≠X.env.locals/\b∉X.fs/\(b∈X.ex∨X.s₀.heap.objs.size<=b)/\(∀x c,X.env.cells.lookup x=some c->c≠b)/\∀p∈X.pn++pins,p.1≠b
theorem Inv.fpOk{X:Cx}{pins:List (Addr×Obj)}{σ:St}{H H':Hp}{s:Shared}{b:Addr}(I:Inv X pins σ H s)(hb:s.heap.objs.size<=b)(hn:H' b=none):FpOk X pins H' b:=by
 refine⟨hn,QbU (QU I.lt hb),I.nofs hb,.inr (Q1 I.sz hb),λx c e z=>?_,λp hp z=>?_⟩
 ·obtain⟨v,q⟩:=I.cell x c e;exact absurd (QU q.lt (by rw[z];exact hb)) (Ym _)
 ·exact absurd (QU (Qj (I.pin p hp).1) (by rw[z];exact hb)) (Ym _)
structure Turn (P:QN) (w:Jj) (K:PySem.W.Frag) (tg:QV) (J:It) (fp:List Addr) (it:Addr) (tn:Nat->J8->Prop):Prop where
 mem:it∈fp
 obj:∀i h,tn i h->∀b∈fp,∃o,h.get? b=some o/\∀v,o.data≠.cell v
 keep:∀i h h',tn i h->(∀b∈fp,∀o,h.get? b=some o->h'.get? b=some o)->tn i h'
 item:∀(X:Cx),X.prog=P->X.w=w->X.K=K->X.calm=true->∀(i:Nat)(pins:List (Addr×Obj))(s:Shared)(σ:St)(H:Hp)(E:Value->Shared->Prop),Inv X pins σ H s->(∀b∈fp,FpOk X pins H b)->tn i s.heap->J.go i H ->
  wpAny (model P w) X.A (pyNext (.ref it)) (λr s1=>∃u,r=some u /\
   wpAny (model P w) X.A (letOwnedTupleGo tg (.ref it) u) (λ_ s2=>∃x H',Inv X pins σ H' s2/\RelV x u/\J.yld i H x H'/\tn (i+1) s2.heap/\∀b∈fp,H' b=none) E s1) E s
 done:∀(X:Cx),X.prog=P->X.w=w->X.K=K->X.calm=true->∀(i:Nat)(pins:List (Addr×Obj))(s:Shared)(σ:St)(H:Hp)(E:Value->Shared->Prop),Inv X pins σ H s->(∀b∈fp,FpOk X pins H b)->tn i s.heap->J.stop i H ->
  wpAny (model P w) X.A (pyNext (.ref it)) (λr s1=>r=none/\Inv X pins σ H s1) E s
 self:∀(A:Jh)(i:Nat)(s:Shared)(Q:Value->Shared->Prop)(E:Value->Shared->Prop),tn i s.heap->Q (.ref it) s->wpAny (model P w) A (pyIter (.ref it)) Q E s
abbrev TI:=St->Hp->(It->Hp->Prop)->Prop
def PIE(X:Cx)(pins:List (Addr×Obj))(σ:St)(tg:QV)(R:It->Hp->Prop)(itv:Value)(s2:Shared):Prop:=
 ∃(it:Addr)(fp:List Addr)(tn:Nat->J8->Prop)(J:It)(H':Hp),itv=.ref it/\Inv X pins σ H' s2/\Turn X.prog X.w X.K tg J fp it tn/\tn 0 s2.heap/\(∀b∈fp,FpOk X pins H' b)/\R J H'
def PI(X:Cx)(tg iter:QV)(wi:TI):Prop:=
 ∀(pins:List (Addr×Obj))(s:Shared)(σ:St)(H:Hp)(R:It->Hp->Prop),Inv X pins σ H s->wi σ H R ->
  wpAny (model X.prog X.w) X.A (eval iter X.env) (λv s1=>wpAny (model X.prog X.w) X.A (pyIter v) (PIE X pins σ tg R) X.xe s1) X.xe s
theorem Qs1{M:Model}{A:Jh}{E:Value->Shared->Prop}{s:Shared}{tg:QV}{it:Addr}{u:Value}{o:Obj}{n:String}{vs:Array Value}{Q:Unit->Shared->Prop}(ho:s.heap.get? it=some o)(hc:o.cls=.type n)(hd:o.data=.fields vs)
  (hn:["enumerate", "zip", "dict_itemiterator", "dict_reverseitemiterator", "odict_iterator", "itertools.zip_longest", "itertools.pairwise"].contains n=false)(hQ:Q () s):wpAny M A (letOwnedTupleGo tg (.ref it) u) Q E s:=by
 unfold letOwnedTupleGo;cases tg<;>first
  |exact Qp hQ
  |(cases u<;>first
    |exact Qp hQ
    |(refine wpAny_bind (wpAny_load ho ?_)
      rw[hc,hd];show wpAny M A (if(["enumerate", "zip", "dict_itemiterator", "dict_reverseitemiterator", "odict_iterator", "itertools.zip_longest", "itertools.pairwise"].contains n&&vs[0]? == some (rawInt _))=true then _ else _) Q E s;rw[if_neg (by intro h;rw[hn,QaD] at h;cases h)];exact Qp hQ))
def Itl(K:PySem.W.Frag)(a:Addr):It:=
 ⟨λi H=>∃xs x,SqL K H a xs/\xs[i]? = some x,λi H x H'=>H'=H/\∀xs,SqL K H a xs->xs[i]? = some x,λi H=>∃xs,SqL K H a xs/\xs.length<=i⟩
def Itt(K:PySem.W.Frag)(a:Addr):It:=
 ⟨λi H=>∃xs x,SqT K H a xs/\xs[i]? = some x,λi H x H'=>H'=H/\∀xs,SqT K H a xs->xs[i]? = some x,λi H=>∃xs,SqT K H a xs/\xs.length<=i⟩
def Itr(lo:Int)(n:Nat):It:=⟨λi _=>i<n,λi H x H'=>H'=H/\x=.int (lo+i),λi _=>n<=i⟩
theorem Qj1{P:QN}{w:Jj}{K:PySem.W.Frag}{tg:QV}(a it:Addr):Turn P w K tg (Itl K a) [it] it (λi h=>h.IsListIter it a i) where
 mem:=by simp
 obj:=λi h st b hb=>by
  have e:b=it:=by simpa using hb
  subst e;obtain⟨o,e,c,d⟩:=st;exact⟨o,e,λv z=>by rw[d] at z;cases z⟩
 keep:=λi h h' st k=>st.at λo e=>k it (by simp) o e
 item:=by
  intro X hP hw hK hc i pins s σ H E I hf st hg;subst hP hw hK;obtain⟨xs,x,hq,hx⟩:=hg;obtain⟨its,rv,p,hz⟩:=I.list hq;obtain⟨u,hu,ru⟩:=rv.get hx;obtain⟨f0,f1,f2,f3,f4,f5⟩:=hf it (by simp);refine Qcd st p.isList (x:=u) (by simpa using hu) λh' st' sb=>?_
  have I1:Inv X pins σ H { s with heap:=h' }:=I.turned (t':=s.toks) (λb o hb e=>(sb.2 b hb).trans e) f0 f1 f3 f4 f5;obtain⟨o,e,c,d⟩:=id st';exact⟨u,rfl,Qs1 (s:={ s with heap:=h' }) e c d (by decide) ⟨x,H,I1,ru,⟨rfl,λys hy=>by rw[I.list_inj hy hq];exact hx⟩,st',λb hb=>(hf b hb).1⟩⟩
 done:=by
  intro X hP hw hK hc i pins s σ H E I hf st hg;subst hP hw hK;obtain⟨xs,hq,hx⟩:=hg;obtain⟨its,rv,p,hz⟩:=I.list hq;obtain⟨f0,f1,f2,f3,f4,f5⟩:=hf it (by simp);have hl:=rv.length;exact QcT (I.ok.hd hc) st p.isList (by simp;omega) λh' eb=>⟨rfl,I.turned (t':=s.toks) (λb o hb e=>eb b o hb e) f0 f1 f3 f4 f5⟩
 self:=λ_ _ _ _ _ st h=>wpAny_pyIter_listiter st h
theorem QiO{P:QN}{w:Jj}{K:PySem.W.Frag}{tg:QV}(a it:Addr):Turn P w K tg (Itt K a) [it] it (λi h=>h.IsTupleIter it a i) where
 mem:=by simp
 obj:=λi h st b hb=>by
  have e:b=it:=by simpa using hb
  subst e;obtain⟨o,e,c,d⟩:=st;exact⟨o,e,λv z=>by rw[d] at z;cases z⟩
 keep:=λi h h' st k=>st.at λo e=>k it (by simp) o e
 item:=by
  intro X hP hw hK hc i pins s σ H E I hf st hg;subst hP hw hK;obtain⟨xs,x,hq,hx⟩:=hg;obtain⟨its,rv,p,hz⟩:=I.tuple hq;obtain⟨u,hu,ru⟩:=rv.get hx;obtain⟨f0,f1,f2,f3,f4,f5⟩:=hf it (by simp);refine wpAny_pyNext_tuple_item st (show s.heap.IsTuple a its.toArray from p) (x:=u) (by simpa using hu) λh' st' sb=>?_
  have I1:Inv X pins σ H { s with heap:=h' }:=I.turned (t':=s.toks) (λb o hb e=>(sb.2 b hb).trans e) f0 f1 f3 f4 f5;obtain⟨o,e,c,d⟩:=id st';exact⟨u,rfl,Qs1 (s:={ s with heap:=h' }) e c d (by decide) ⟨x,H,I1,ru,⟨rfl,λys hy=>by rw[I.tuple_inj hy hq];exact hx⟩,st',λb hb=>(hf b hb).1⟩⟩
 done:=by
  intro X hP hw hK hc i pins s σ H E I hf st hg;subst hP hw hK;obtain⟨xs,hq,hx⟩:=hg;obtain⟨its,rv,p,hz⟩:=I.tuple hq;obtain⟨f0,f1,f2,f3,f4,f5⟩:=hf it (by simp);have hl:=rv.length;exact wpAny_pyNext_tuple_end (I.ok.hd hc) st (show s.heap.IsTuple a its.toArray from p) (by simp;omega) λh' eb=>⟨rfl,I.turned (t':=s.toks) (λb o hb e=>eb b o hb e) f0 f1 f3 f4 f5⟩
 self:=λ_ _ _ _ _ st h=>wpAny_pyIter_tupleiter st h
theorem QiP{P:QN}{w:Jj}{K:PySem.W.Frag}{tg:QV}(it:Addr)(lo:Int)(n:Nat):Turn P w K tg (Itr lo n) [it] it (λi h=>IsRangeIter h it (lo+(i:Nat)*1) ((n:Int) - (i:Nat)) 1) where
 mem:=by simp
 obj:=λi h st b hb=>by
  have e:b=it:=by simpa using hb
  subst e;exact⟨_,st,λv z=>by
   have z':Data.fields _=Data.cell v:=z;cases z'⟩
 keep:=λi h h' st k=>k it (by simp) _ st
 item:=by
  intro X hP hw hK hc i pins s σ H E I hf st hg;subst hP hw hK;obtain⟨f0,f1,f2,f3,f4,f5⟩:=hf it (by simp);have W:=Walks.range (prog:=X.prog) (w:=X.w) (I.ok.hd hc) it lo 1 n;refine W.item i s _ _ hg st λv h' tk hv st' kk=>?_
  obtain⟨t,rfl⟩:=hv;have I1:Inv X pins σ H { s with heap:=h',toks:=tk }:=I.turned (λb o hb e=>kk b o (by simpa using hb) e) f0 f1 f3 f4 f5;refine⟨_,rfl,Qs1 (s:={ s with heap:=h',toks:=tk }) (n := "range_iterator") st' rfl rfl (by decide) ⟨.int (lo+i),H,I1,⟨t,?_⟩,⟨rfl,rfl⟩,st',λb hb=>(hf b hb).1⟩⟩;rw[Qbq]
 done:=by
  intro X hP hw hK hc i pins s σ H E I hf st hg;subst hP hw hK;obtain⟨f0,f1,f2,f3,f4,f5⟩:=hf it (by simp);exact wpAny_pyNext_range_end (I.ok.hd hc) st (by have:n<=i:=hg;omega) λh' eb=>⟨rfl,I.turned (t':=s.toks) (λb o hb e=>eb b o hb e) f0 f1 f3 f4 f5⟩
 self:=λ_ _ _ _ _ st h=>wpAny_pyIter_rangeiter st h
section
variable{X:Cx}{tg:QV}
def Qx8(K:PySem.W.Frag)(tl:TE):TI:=λσ H R=>tl σ H λx H1=>∃a,x=.ref a/\(∃xs,SqL K H1 a xs)/\R (Itl K a) H1
def QzE(K:PySem.W.Frag)(tl:TE):TI:=λσ H R=>tl σ H λx H1=>∃a,x=.ref a/\(∃xs,SqT K H1 a xs)/\R (Itt K a) H1
theorem QrS{l:QV}{tl:TE}(hl:PE X l tl):PI X tg l (Qx8 X.K tl):=by
 intro pins s σ H R I h;refine thn (hl pins s σ H _ I h) λv s1 ⟨x,H1,I1,r1,q1⟩=>?_
 obtain⟨a,e,⟨xs,hq⟩,q⟩:=q1;subst e;cases r1;obtain⟨its,rv,p,hz⟩:=I1.list hq;refine QbA p.isList ?_
 refine⟨s1.heap.objs.size,[s1.heap.objs.size],_,_,H1,rfl,I1.kept (t':=s1.toks) λb o e=>Qd _ e,Qj1 a _,⟨_,Qv _ rfl,rfl,rfl⟩,λb hb=>?_,q⟩;have e:b=s1.heap.objs.size:=by simpa using hb
 subst e;exact I1.fpOk (Qi _) (I1.hok.fresh (Qi _))
theorem QuJ{l:QV}{tl:TE}(hl:PE X l tl):PI X tg l (QzE X.K tl):=by
 intro pins s σ H R I h;refine thn (hl pins s σ H _ I h) λv s1 ⟨x,H1,I1,r1,q1⟩=>?_
 obtain⟨a,e,⟨xs,hq⟩,q⟩:=q1;subst e;cases r1;obtain⟨its,rv,p,hz⟩:=I1.tuple hq;refine ZJ (show s1.heap.IsTuple a its.toArray from p) ?_
 refine⟨s1.heap.objs.size,[s1.heap.objs.size],_,_,H1,rfl,I1.kept (t':=s1.toks) λb o e=>Qd _ e,QiO a _,⟨_,Qv _ rfl,rfl,rfl⟩,λb hb=>?_,q⟩;have e:b=s1.heap.objs.size:=by simpa using hb
 subst e;exact I1.fpOk (Qi _) (I1.hok.fresh (Qi _))
theorem Qnn{pins:List (Addr×Obj)}{σ:St}{H:Hp}{s:Shared}{R:It->Hp->Prop}{E:Value->Shared->Prop}{lo hi:Int}{t u v:Tok}{tk:Nat}(I:Inv X pins σ H s)(h1 : -(2^62)<=lo)(h2:lo<2^62)(h3 : -(2^62)<=hi)(h4:hi<2^62)
  (q:R (Itr lo (hi - lo).toNat) H):wpAny (model X.prog X.w) X.A (pyIter (.ref s.heap.objs.size)) (PIE X pins σ tg R) E { s with heap:=s.heap.push { cls:=.type "range",data:=.fields #[.int lo t,.int hi u,.int 1 v] },toks:=tk }:=by
 refine wpAny_pyIter_range (IsRange.new ..) (small_one h1 h2 h3 h4) ?_
 have I1:Inv X pins σ H { s with heap:=s.heap.push { cls:=.type "range",data:=.fields #[.int lo t,.int hi u,.int 1 v] },toks:=tk }:=I.kept λb o e=>Qd _ e
 refine⟨(s.heap.push { cls:=.type "range",data:=.fields #[.int lo t,.int hi u,.int 1 v] }).objs.size,[(s.heap.push { cls:=.type "range",data:=.fields #[.int lo t,.int hi u,.int 1 v] }).objs.size],_,_,H,rfl,
  I1.kept (t':=tk) λb o e=>Qd _ e,QiP _ lo (hi - lo).toNat,?_,λb hb=>?_,q⟩
 ·have e1:lo+((0:Nat):Int)*1=lo:=by simp
  have e2:(((hi - lo).toNat:Nat):Int) - ((0:Nat):Int)=Qxg lo hi 1:=by rw[rangeSize_one];split<;>omega
  show IsRangeIter _ _ (lo+((0:Nat):Int)*1) ((((hi - lo).toNat:Nat):Int) - ((0:Nat):Int)) 1;rw[e1,e2];exact Qv _ rfl
 ·have e:b=(s.heap.push { cls:=.type "range",data:=.fields #[.int lo t,.int hi u,.int 1 v] }).objs.size:=by simpa using hb
  subst e;exact I1.fpOk (Qi _) (I1.hok.fresh (Qi _))
def Qx7(ta:TA):TI:=λσ H R=>ta σ H λvs H1=>∃j:Int,vs=[.int j] /\ -(2^62)<=j/\j<2^62/\R (Itr 0 j.toNat) H1
theorem Qga{a:QV}{ta:TA}{p pos:Pos}(hg:Gl X "range")(hm:X.mg "range" = none)(ha:PA X [a] ta)(hs:starEach [a] X.env=[(false,eval a X.env)]:=by rfl):PI X tg (.Call (.Name "range" p) [a] [] pos) (Qx7 ta):=by
 intro pins s σ H R I h;refine Call_ (Qb3 I hg hm boot_range (JO (thn (ha pos pins s σ H _ I h) λus s1 ⟨vs,H1,I1,r1,q1⟩=>?_) hs rfl));obtain⟨j,e,q1,q2,q⟩:=q1;subst e;cases r1 with
 |cons r rr=>
  cases rr;obtain⟨t,rfl⟩:=r;exact call_range_1 (Qnn I1 (by omega) (by omega) q1 q2 (by simpa using q))
def tFor(wi:TI)(g:TG)(tb:TS):TS:=λD σ H=>wi σ H λJ H1=>∃W:Nat->Nat->St->Hp->Prop,(∃m,W 0 m σ H1)/\∀i m σ H,W i m σ H ->
 (J.stop i H/\D.nx σ H)∨(J.go i H/\∃N:St->Hp->Prop,(∀σ' H',N σ' H'->∃m',m'<m/\W (i+1) m' σ' H')/\∀x H',J.yld i H x H'->g x σ H' λσ2 H2=>tb { D with nx:=N,ct:=N,bk:=D.nx } σ2 H2)
def Qia(fp:List Addr)(h:J8):List (Addr×Obj):=fp.filterMap λb=>(h.get? b).map λo=>(b,o)
theorem Ys{fp:List Addr}{h:J8}{b:Addr}{o:Obj}(hb:b∈fp)(e:h.get? b=some o):(b,o)∈Qia fp h:=QmP.mpr ⟨b,hb,by rw[e];rfl⟩
theorem Qld{fp:List Addr}{h:J8}{p:Addr×Obj}(hp:p∈Qia fp h):p.1∈fp/\h.get? p.1=some p.2:=by
 obtain⟨b,hb,e⟩:=QmP.mp hp;cases q:h.get? b with
 |none=>rw[q] at e;cases e
 |some o=>
  rw[q] at e;have e':(b,o)=p:=Qr e;subst e';exact⟨hb,q⟩
theorem Inv.pinned{pins:List (Addr×Obj)}{σ:St}{H:Hp}{s:Shared}{fp:List Addr}(I:Inv X pins σ H s)(hf:∀b∈fp,FpOk X pins H b)(ho:∀b∈fp,∃o,s.heap.get? b=some o/\∀v,o.data≠.cell v):Inv X (pins++Qia fp s.heap) σ H s:=
 I.pins_of λp hp=>(Jn.mp hp).elim (λz=>I.pin p (QR _ z)) λz=>by
  obtain⟨hb,e⟩:=Qld z;obtain⟨f0,f1,f2,_⟩:=hf p.1 hb;obtain⟨o,e',d⟩:=ho p.1 hb;rw[e] at e';cases e';exact⟨e,f0,f1,f2,d⟩
theorem Inv.unpinned{pins pl:List (Addr×Obj)}{σ:St}{H:Hp}{s:Shared}(I:Inv X (pins++pl) σ H s):Inv X pins σ H s:=I.pins_of λp hp=>I.pin p (QR _ (Qad _ hp))
theorem Qpe{iter:QV}{body:List ZK}{wi:TI}{g:TG}{tb:TS}{pos:Pos}(hp:QeL (model X.prog X.w) X.A X.env X.xe)(hc:X.calm=true)(hi:PI X tg iter wi)(hg:PG X tg g)(hb:PSs X body tb)
  (hs:∀x,foldedSetIterable iter X.env x=pure x:=by intro _;rfl):PS X (.For tg iter body [] pos) (tFor wi g tb):=by
 intro pins s σ H D I h;refine wpAny_For (thn (hi pins s σ H _ I h) λv s1 h1=>thn h1 λitv s2 h2=>?_) hs;obtain⟨it,fp,tn,J,H2,e,I2,T,st2,f2,W,⟨m0,w0⟩,turn⟩:=h2;subst e;have stat:∀{H':Hp},(∀b∈fp,H' b=none)->∀b∈fp,FpOk X pins H' b:=λhn b hb=>⟨hn b hb,(f2 b hb).2⟩
 refine codeAny_forLoop_any (λn s'=>∃i σ' H',Inv X pins σ' H' s'/\tn i s'.heap/\(∀b∈fp,H' b=none)/\W i n σ' H') ?_ m0 ⟨0,σ,H2,I2,st2,λb hb=>(f2 b hb).1,w0⟩
 rintro n s3 ⟨i,σ3,H3,I3,st3,fr3,w3⟩;rcases turn i n σ3 H3 w3 with⟨stop,qn⟩ | ⟨go,N,hN,step⟩
 ·refine Yu hp (thn (T.done X rfl rfl rfl hc i pins s3 σ3 H3 X.xe I3 (stat fr3) st3 stop) λr s4 ⟨hr,I4⟩=>?_);subst hr;exact QcU ⟨σ3,H3,I4,qn⟩
 ·refine Yu hp (thn (T.item X rfl rfl rfl hc i pins s3 σ3 H3 X.xe I3 (stat fr3) st3 go) λr s4 ⟨u,hr,h4⟩=>?_);subst hr;refine Yu hp (thn h4 λ_ s5 ⟨x,H5,I5,r5,y5,st5,fr5⟩=>?_);have I5':=I5.pinned (stat fr5) (T.obj _ _ st5);refine Yu hp (thn (hg _ s5 σ3 H5 x u _ I5' r5 (step x H5 y5)) λ_ s6 ⟨σ6,H6,I6,q6⟩=>?_);refine Yu hp (thn (hb _ s6 σ6 H6 _ I6 q6) λf s7 q7=>?_);have again:∀{σ7:St}{H7:Hp},Inv X (pins++Qia fp s5.heap) σ7 H7 s7->N σ7 H7->∃m,m<n/\∃i σ' H',Inv X pins σ' H' s7/\tn i s7.heap/\(∀b∈fp,H' b=none)/\W i m σ' H':=λ{σ7 H7} I7 n7=>by
   obtain⟨m',hm,w7⟩:=hN σ7 H7 n7;refine⟨m',hm,i+1,σ7,H7,I7.unpinned,T.keep _ _ _ st5 λb hb o e=>(I7.pin (b,o) (QR _ (QR _ (Ys hb e)))).1,λb hb=>?_,w7⟩;obtain⟨o,e,d⟩:=T.obj _ _ st5 b hb;exact(I7.pin (b,o) (QR _ (QR _ (Ys hb e)))).2.1
  cases f with
  |next=>obtain⟨σ7,H7,I7,n7⟩:=q7;exact again I7 n7
  |cont=>obtain⟨σ7,H7,I7,n7⟩:=q7;exact again I7 n7
  |brk=>obtain⟨σ7,H7,I7,q7⟩:=q7;exact⟨σ7,H7,I7.unpinned,q7⟩
  |ret v=>obtain⟨x7,σ7,H7,I7,r7,q7⟩:=q7;exact⟨x7,σ7,H7,I7.unpinned,r7,q7⟩
end
theorem QlO{lo:Int}{n:Nat}{g:TG}{tb:TS}{D:Ends}{σ:St}{H:Hp}(Pv:Nat->St->Hp->Prop)(h0:Pv 0 σ H)
  (hs:∀i σ H,i<n->Pv i σ H->g (.int (lo+i)) σ H λσ2 H2=>tb { D with nx:=Pv (i+1),ct:=Pv (i+1),bk:=D.nx } σ2 H2)(hd:∀σ H,Pv n σ H->D.nx σ H) :
  ∃W:Nat->Nat->St->Hp->Prop,(∃m,W 0 m σ H)/\∀i m σ H,W i m σ H ->
   ((Itr lo n).stop i H/\D.nx σ H)∨((Itr lo n).go i H/\∃N:St->Hp->Prop,(∀σ' H',N σ' H'->∃m',m'<m/\W (i+1) m' σ' H')/\∀x H',(Itr lo n).yld i H x H'->g x σ H' λσ2 H2=>tb { D with nx:=N,ct:=N,bk:=D.nx } σ2 H2):=by
 refine⟨λi m σ H=>m=n - i/\i<=n/\Pv i σ H,⟨n,by simp,Jm _,h0⟩,?_⟩;rintro i m σ H ⟨rfl,hi,p⟩;by_cases hlt:i<n
 ·refine .inr ⟨hlt,Pv (i+1),λσ' H' p'=>⟨n - (i+1),by omega,rfl,hlt,p'⟩,λx H' y=>?_⟩;obtain⟨e,y⟩:=y;subst e y;exact hs i σ _ hlt p
 ·have e:i=n:=by omega
  subst e;exact .inl ⟨Qi _,hd σ H p⟩
abbrev R2:=V->V->Hp->VK->Prop
def OpR(X:Cx)(f:Value->Value->Sem Value)(r:R2):Prop:=
 ∀(pins:List (Addr×Obj))(s:Shared)(σ:St)(H:Hp)(x y:V)(v u:Value)(Q:VK),Inv X pins σ H s->RelV x v->RelV y u->r x y H Q ->
  wpAny (model X.prog X.w) X.A (f v u) (EP X pins σ Q) X.xe s
def UnR(X:Cx)(f:Value->Sem Value)(r:V->Hp->VK->Prop):Prop:=
 ∀(pins:List (Addr×Obj))(s:Shared)(σ:St)(H:Hp)(x:V)(v:Value)(Q:VK),Inv X pins σ H s->RelV x v->r x H Q ->
  wpAny (model X.prog X.w) X.A (f v) (EP X pins σ Q) X.xe s
def CallR(X:Cx)(f:Value)(r:List V->Hp->VK->Prop):Prop:=
 ∀(pins:List (Addr×Obj))(s:Shared)(σ:St)(H:Hp)(xs:List V)(us:List Value)(Q:VK),Inv X pins σ H s->Vals xs us->r xs H Q ->
  wpAny (model X.prog X.w) X.A (call f us) (EP X pins σ Q) X.xe s
def QzL(X:Cx)(r:V->Hp->(Bool->Hp->Prop)->Prop):Prop:=
 ∀(pins:List (Addr×Obj))(s:Shared)(σ:St)(H:Hp)(x:V)(v:Value)(Q:Bool->Hp->Prop),Inv X pins σ H s->RelV x v->r x H Q ->
  wpAny (model X.prog X.w) X.A (truthy v) (TP X pins σ Q) X.xe s
def tOp(r:R2)(ta tb:TE):TE:=λσ H Q=>ta σ H λx H1=>tb σ H1 λy H2=>r x y H2 Q
def tUn(r:V->Hp->VK->Prop)(ta:TE):TE:=λσ H Q=>ta σ H λx H1=>r x H1 Q
def rI(C:Int->Int->Prop)(g:Int->Int->V):R2:=λx y H Q=>∃i j,x=.int i/\y=.int j/\C i j/\Q (g i j) H
def rI0(g:Int->Int->V):R2:=λx y H Q=>∃i j,x=.int i/\y=.int j/\Q (g i j) H
def rU(g:Int->V):V->Hp->VK->Prop:=λx H Q=>∃i,x=.int i/\Q (g i) H
section
variable{X:Cx}{a b c:QV}{ta tb tc:TE}{pos:Pos}
theorem Qyl(ha:PE X a ta)(hb:PE X b tb){pins:List (Addr×Obj)}{s:Shared}{σ:St}{H:Hp}{R:V->V->Hp->Prop}(I:Inv X pins σ H s)
  (h:ta σ H λx H1=>tb σ H1 λy H2=>R x y H2){Q:Value->Shared->Prop}{f:Value->Value->Sem Value}
  (hf:∀v u s2 x y H2,Inv X pins σ H2 s2->RelV x v->RelV y u->R x y H2->wpAny (model X.prog X.w) X.A (f v u) Q X.xe s2) :
  wpAny (model X.prog X.w) X.A (eval a X.env) (λv s₁=>wpAny (model X.prog X.w) X.A (eval b X.env) (λu s₂=>wpAny (model X.prog X.w) X.A (f v u) Q X.xe s₂) X.xe s₁) X.xe s:=by
 refine thn (ha pins s σ H _ I h) λv s1 ⟨x,H1,I1,r1,q1⟩=>?_
 refine thn (hb pins s1 σ H1 _ I1 q1) λu s2 ⟨y,H2,I2,r2,q2⟩=>?_
 exact hf v u s2 x y H2 I2 r1 r2 q2
theorem Qaz{op:Qa7}{r:R2}(ho:OpR X (binaryOp op) r)(ha:PE X a ta)(hb:PE X b tb):PE X (.BinOp a op b pos) (tOp r ta tb):=by
 intro pins s σ H Q I h;exact wpAny_BinOp (Qyl ha hb I h λv u s2 x y H2 I2 rx ry q=>ho pins s2 σ H2 x y v u Q I2 rx ry q)
theorem QxJ{op:UnaryOp}{r:V->Hp->VK->Prop}(ho:UnR X (unaryOp op) r)(ha:PE X a ta):PE X (.UnaryOp op a pos) (tUn r ta):=by
 intro pins s σ H Q I h;exact UnaryOp_ (thn (ha pins s σ H _ I h) λv s1 ⟨x,H1,I1,r1,q1⟩=>ho pins s1 σ H1 x v Q I1 r1 q1)
theorem opI{f:Value->Value->Sem Value}{C:Int->Int->Prop}{g:Int->Int->Int}
  (rule:∀(i j:Int)(t u:Tok)(s:Shared)(Q:Value->Shared->Prop)(E:Value->Shared->Prop),C i j->Q (.int (g i j) s.toks) { s with toks:=s.toks+1 }->wpAny (model X.prog X.w) X.A (f (.int i t) (.int j u)) Q E s) :
  OpR X f (rI C λi j=>.int (g i j)):=by
 intro pins s σ H x y v u Q I rx ry h;obtain⟨i,j,rfl,rfl,hc,q⟩:=h;obtain⟨t,rfl⟩:=rx;obtain⟨t',rfl⟩:=ry;exact rule i j t t' s _ _ hc ⟨.int (g i j),H,I.tok _,⟨_,rfl⟩,q⟩
theorem QyM{f:Value->Value->Sem Value}{g:Int->Int->Int}
  (rule:∀(i j:Int)(t u:Tok)(s:Shared)(Q:Value->Shared->Prop)(E:Value->Shared->Prop),Q (.int (g i j) s.toks) { s with toks:=s.toks+1 }->wpAny (model X.prog X.w) X.A (f (.int i t) (.int j u)) Q E s) :
  OpR X f (rI0 λi j=>.int (g i j)):=by
 intro pins s σ H x y v u Q I rx ry h;obtain⟨i,j,rfl,rfl,q⟩:=h;obtain⟨t,rfl⟩:=rx;obtain⟨t',rfl⟩:=ry;exact rule i j t t' s _ _ ⟨.int (g i j),H,I.tok _,⟨_,rfl⟩,q⟩
theorem QwH{f:Value->Value->Sem Value}{g:Int->Int->Bool}
  (rule:∀(i j:Int)(t u:Tok)(s:Shared)(Q:Value->Shared->Prop)(E:Value->Shared->Prop),Q (.bool (g i j)) s->wpAny (model X.prog X.w) X.A (f (.int i t) (.int j u)) Q E s) :
  OpR X f (rI0 λi j=>.bl (g i j)):=by
 intro pins s σ H x y v u Q I rx ry h;obtain⟨i,j,rfl,rfl,q⟩:=h;obtain⟨t,rfl⟩:=rx;obtain⟨t',rfl⟩:=ry;exact rule i j t t' s _ _ ⟨.bl (g i j),H,I,rfl,q⟩
def QzM(i j:Int):Prop:=0<=j/\j<=1000000/\i.natAbs<2^64
def CMul(i j:Int):Prop:=(-(2^64)<i/\i<2^64)∨(-(2^64)<j/\j<2^64)
theorem CMul.ok{i j:Int}(h:CMul i j):IntMulOk i j:=by
 rcases h with⟨h1,h2⟩ | ⟨h1,h2⟩
 ·exact .of_left (intBits_le_64 h1 h2)
 ·exact .of_right (intBits_le_64 h1 h2)
theorem Qen:OpR X (binaryOp .Add) (rI0 λi j=>.int (i+j)):=QyM λ_ _ _ _ _ _ _ q=>add_int q
theorem Qbx:OpR X (binaryOp .Sub) (rI0 λi j=>.int (i - j)):=QyM λ_ _ _ _ _ _ _ q=>sub_int q
theorem Qem:OpR X (binaryOp .Mult) (rI CMul λi j=>.int (i*j)):=opI λ_ _ _ _ _ _ _ hc q=>mul_int q hc.ok
theorem Qic:OpR X (binaryOp .Mod) (rI (λ_ j=>0<j) λi j=>.int (i % j)):=opI λi j _ _ _ _ _ hc q=>by
 have h1:(0:Int)<j:=hc;exact mod_int' (by omega) (by rw[Int.fmod_eq_emod_of_nonneg i (by omega)];exact q)
theorem Qpj:OpR X (binaryOp .Pow) (rI QzM λi j=>.int (i^j.toNat)):=opI λ_ _ _ _ _ _ _ hc q=>pow_int_small hc.1 hc.2.1 hc.2.2 q
theorem QsV:OpR X (inplaceOp .Mult) (rI CMul λi j=>.int (i*j)):=opI λ_ _ _ _ _ _ _ hc q=>imul_int q hc.ok
theorem unI{f:Value->Sem Value}{g:Int->Int}
  (rule:∀(i:Int)(t:Tok)(s:Shared)(Q:Value->Shared->Prop)(E:Value->Shared->Prop),Q (.int (g i) s.toks) { s with toks:=s.toks+1 }->wpAny (model X.prog X.w) X.A (f (.int i t)) Q E s) :
  UnR X f (rU λi=>.int (g i)):=by
 intro pins s σ H x v Q I rx h;obtain⟨i,rfl,q⟩:=h;obtain⟨t,rfl⟩:=rx;exact rule i t s _ _ ⟨.int (g i),H,I.tok _,⟨_,rfl⟩,q⟩
theorem Qt4:UnR X (unaryOp .USub) (rU λi=>.int (-i)):=unI λ_ _ _ _ _ q=>neg_int q
end
def scal:V->V->Bool
 |.non,.non=>true | .non,.int _=>true | .int _,.non=>true | .non,.bl _=>true | .bl _,.non=>true | .non,.str _=>true | .str _,.non=>true
 |.int _,.int _=>true | .bl _,.bl _=>true | .str _,.str _=>true | .byt _,.byt _=>true
 |.int _,.str _=>true | .str _,.int _=>true | .bl _,.str _=>true | .str _,.bl _=>true
 |_,_=>false
def rEq:R2:=λx y H Q=>scal x y=true/\Q (.bl (decide (x=y))) H
def rNe:R2:=λx y H Q=>scal x y=true/\Q (.bl (!decide (x=y))) H
theorem QlX{i j:Int}:decide (V.int i=V.int j)=(i == j):=by
 rw[Zd];simp
theorem QpE{i j:Bool}:decide (V.bl i=V.bl j)=(i == j):=by
 rw[Zd];simp
theorem QlW{i j:Str}:decide (V.str i=V.str j)=(i == j):=by
 rw[Zd];simp
theorem QlY{i j:Array UInt8}:decide (V.byt i=V.byt j)=(i.toList == j.toList):=by
 rw[Zd];cases i;cases j;simp
section
variable{X:Cx}{a b c:QV}{ta tb tc:TE}{pos:Pos}
theorem Zk{pins:List (Addr×Obj)}{σ:St}{H:Hp}{s:Shared}{Q:VK}{k k':Bool}(I:Inv X pins σ H s)(q:Q (.bl k) H)(e:k=k'):EP X pins σ Q (.bool k') s:=by
 subst e;exact⟨.bl k,H,I,rfl,q⟩
theorem QxU:OpR X (compareOp .Eq) rEq:=by
 intro pins s σ H x y v u Q I rx ry h;obtain⟨hs,q⟩:=h;cases x with
 |non=>
  cases rx;cases y with
  |non=>cases ry;exact PySem.EqNone.eq_none_none (Zk I q (by simp))
  |bl j=>cases ry;exact PySem.EqNone.eq_none_bool (Zk I q (by simp))
  |int j=>obtain⟨t',rfl⟩:=ry;exact PySem.EqNone.eq_none_int (Zk I q (by simp))
  |str j=>obtain⟨t',rfl⟩:=ry;exact PySem.EqNone.eq_none_str (Zk I q (by simp))
  |_=>exact absurd (show false=true from hs) Qu
 |bl i=>
  cases rx;cases y with
  |non=>cases ry;exact PySem.EqNone.eq_bool_none (Zk I q (by simp))
  |bl j=>cases ry;exact eq_bool (Zk I q QpE)
  |str j=>obtain⟨t',rfl⟩:=ry;exact PySem.EqMixed.eq_bool_str (Zk I q (by simp))
  |_=>exact absurd (show false=true from hs) Qu
 |int i=>
  obtain⟨t,rfl⟩:=rx;cases y with
  |non=>cases ry;exact PySem.EqNone.eq_int_none (Zk I q (by simp))
  |int j=>obtain⟨t',rfl⟩:=ry;exact eq_int (Zk I q QlX)
  |str j=>obtain⟨t',rfl⟩:=ry;exact PySem.EqMixed.eq_int_str (Zk I q (by simp))
  |_=>exact absurd (show false=true from hs) Qu
 |str i=>
  obtain⟨t,rfl⟩:=rx;cases y with
  |non=>cases ry;exact PySem.EqNone.eq_str_none (Zk I q (by simp))
  |bl j=>cases ry;exact PySem.EqMixed.eq_str_bool (Zk I q (by simp))
  |int j=>obtain⟨t',rfl⟩:=ry;exact PySem.EqMixed.eq_str_int (Zk I q (by simp))
  |str j=>obtain⟨t',rfl⟩:=ry;exact eq_str (Zk I q QlW)
  |_=>exact absurd (show false=true from hs) Qu
 |byt i=>
  obtain⟨t,rfl⟩:=rx;cases y with
  |byt j=>obtain⟨t',rfl⟩:=ry;exact PySem.W.eq_bytes (Zk I q QlY)
  |_=>exact absurd (show false=true from hs) Qu
 |_=>cases y<;>exact absurd (show false=true from hs) Qu
theorem QxT:OpR X (compareOp .NotEq) rNe:=by
 intro pins s σ H x y v u Q I rx ry h;obtain⟨hs,q⟩:=h;cases x with
 |non=>
  cases rx;cases y with
  |non=>cases ry;exact PySem.EqNone.ne_none_none (Zk I q (by simp))
  |bl j=>cases ry;exact PySem.EqNone.ne_none_bool (Zk I q (by simp))
  |int j=>obtain⟨t',rfl⟩:=ry;exact PySem.EqNone.ne_none_int (Zk I q (by simp))
  |str j=>obtain⟨t',rfl⟩:=ry;exact PySem.EqNone.ne_none_str (Zk I q (by simp))
  |_=>exact absurd (show false=true from hs) Qu
 |bl i=>
  cases rx;cases y with
  |non=>cases ry;exact PySem.EqNone.ne_bool_none (Zk I q (by simp))
  |bl j=>cases ry;exact ne_bool (Zk I q (congrArg not QpE))
  |str j=>obtain⟨t',rfl⟩:=ry;exact PySem.EqMixed.ne_bool_str (Zk I q (by simp))
  |_=>exact absurd (show false=true from hs) Qu
 |int i=>
  obtain⟨t,rfl⟩:=rx;cases y with
  |non=>cases ry;exact PySem.EqNone.ne_int_none (Zk I q (by simp))
  |int j=>obtain⟨t',rfl⟩:=ry;exact ne_int (Zk I q (congrArg not QlX))
  |str j=>obtain⟨t',rfl⟩:=ry;exact PySem.EqMixed.ne_int_str (Zk I q (by simp))
  |_=>exact absurd (show false=true from hs) Qu
 |str i=>
  obtain⟨t,rfl⟩:=rx;cases y with
  |non=>cases ry;exact PySem.EqNone.ne_str_none (Zk I q (by simp))
  |bl j=>cases ry;exact PySem.EqMixed.ne_str_bool (Zk I q (by simp))
  |int j=>obtain⟨t',rfl⟩:=ry;exact PySem.EqMixed.ne_str_int (Zk I q (by simp))
  |str j=>obtain⟨t',rfl⟩:=ry;exact ne_str (Zk I q (congrArg not QlW))
  |_=>exact absurd (show false=true from hs) Qu
 |byt i=>
  obtain⟨t,rfl⟩:=rx;cases y with
  |byt j=>obtain⟨t',rfl⟩:=ry;exact PySem.W.ne_bytes (Zk I q (congrArg not QlY))
  |_=>exact absurd (show false=true from hs) Qu
 |_=>cases y<;>exact absurd (show false=true from hs) Qu
theorem Qn2:OpR X (compareOp .Lt) (rI0 λi j=>.bl (decide (i<j))):=QwH λ_ _ _ _ _ _ _ q=>lt_int q
theorem Qi8:OpR X (compareOp .LtE) (rI0 λi j=>.bl (decide (i<=j))):=QwH λ_ _ _ _ _ _ _ q=>le_int q
theorem Qn4:OpR X (compareOp .Gt) (rI0 λi j=>.bl (decide (j<i))):=QwH λ_ _ _ _ _ _ _ q=>gt_int q
theorem Qsp:OpR X (compareOp .GtE) (rI0 λi j=>.bl (decide (j<=i))):=QwH λ_ _ _ _ _ _ _ q=>ge_int q
theorem Qvb:OpR X (compareOp .Is) (λx y H Q=>y=.non/\Q (.bl (decide (x=.non))) H):=by
 intro pins s σ H x y v u Q I rx ry h;obtain⟨rfl,q⟩:=h;cases ry;refine is_none_gen (Zk I q ?_);cases x<;>first
  |(cases rx;rfl)
  |(obtain⟨t,rfl⟩:=rx;rfl)
theorem Qsm:OpR X (compareOp .IsNot) (λx y H Q=>y=.non/\Q (.bl (!decide (x=.non))) H):=by
 intro pins s σ H x y v u Q I rx ry h;obtain⟨rfl,q⟩:=h;cases ry;refine isnot_none_gen (Zk I q ?_);cases x<;>first
  |(cases rx;rfl)
  |(obtain⟨t,rfl⟩:=rx;rfl)
theorem OpR.or{f:Value->Value->Sem Value}{r r':R2}(h:OpR X f r)(h':OpR X f r'):OpR X f (λx y H Q=>r x y H Q∨r' x y H Q):=by
 intro pins s σ H x y v u Q I rx ry q;rcases q with q | q
 ·exact h pins s σ H x y v u Q I rx ry q
 ·exact h' pins s σ H x y v u Q I rx ry q
theorem Zc(b:QV){op:QiM}(h:op≠.In:=by decide)(h2:op≠.NotIn:=by decide):behindInMarks op b=false:=by
 have e1:(op == CmpOp.In)=false:=by cases op<;>first | rfl | exact absurd rfl h
 have e2:(op == CmpOp.NotIn)=false:=by cases op<;>first | rfl | exact absurd rfl h2
 cases b<;>simp[behindInMarks,e1,e2]
theorem QrY{op:QiM}{r:R2}(ho:OpR X (compareOp op) r)(ha:PE X a ta)(hb:PE X b tb)(hm:behindInMarks op b=false):PE X (.Compare a [op] [b] pos) (tOp r ta tb):=by
 intro pins s σ H Q I h;exact wpAny_Compare1 (Qyl ha hb I h λv u s2 x y H2 I2 rx ry q=>ho pins s2 σ H2 x y v u Q I2 rx ry q) hm
def Quc(t:TE):TT:=λσ H Q=>t σ H λx H'=>∃k,x=.bl k/\Q k H'
theorem Qg4{op:QiM}{r:R2}(ho:OpR X (compareOp op) r)(ha:PE X a ta)(hb:PE X b tb)(hm:behindInMarks op b=false):PT X (.Compare a [op] [b] pos) (Quc (tOp r ta tb)):=by
 intro pins s σ H Q I h;refine wpAny_isTrue_Compare1 (thn (ha pins s σ H _ I h) λv s1 ⟨x,H1,I1,r1,q1⟩=>thn (hb pins s1 σ H1 _ I1 q1) λu s2 ⟨y,H2,I2,r2,q2⟩=>
  thn (ho pins s2 σ H2 x y v u _ I2 r1 r2 q2) λc s3 ⟨z,H3,I3,r3,k,e,q3⟩=>?_) hm
 subst e;cases r3;exact JB ⟨H3,I3,q3⟩
def Qka(r r':R2)(ta tb tc:TE):TE:=λσ H Q=>ta σ H λx H1=>tb σ H1 λy H2=>r x y H2 λz H3=>∃k,z=.bl k /\
 (if k=true then tc σ H3 λw' H4=>r' y w' H4 Q else Q (.bl false) H3)
theorem QnD{op op':QiM}{r r':R2}(ho:OpR X (compareOp op) r)(ho':OpR X (compareOp op') r')(ha:PE X a ta)(hb:PE X b tb)(hc:PE X c tc)
  (hm:lastMarks [op,op'] [b,c]=false:=by with_unfolding_all rfl):PE X (.Compare a [op,op'] [b,c] pos) (Qka r r' ta tb tc):=by
 intro pins s σ H Q I h;refine Compare_chain (thn (ha pins s σ H _ I h) λv s1 ⟨x,H1,I1,r1,q1⟩=>chain_link (thn (hb pins s1 σ H1 _ I1 q1) λu s2 ⟨y,H2,I2,r2,q2⟩=>
  thn (ho pins s2 σ H2 x y v u _ I2 r1 r2 q2) λd s3 ⟨z,H3,I3,r3,k,e,q3⟩=>?_)) hm
 subst e;cases r3;refine JB ?_
 cases k with
 |false=>exact ite_ff ⟨.bl false,H3,I3,rfl,q3⟩
 |true=>exact ite_tt (chain_last (thn (hc pins s3 σ H3 _ I3 q3) λw' s4 ⟨z',H4,I4,r4,q4⟩=>ho' pins s4 σ H4 y z' u w' Q I4 r2 r4 q4))
theorem Qns{op op':QiM}{r r':R2}(ho:OpR X (compareOp op) r)(ho':OpR X (compareOp op') r')(ha:PE X a ta)(hb:PE X b tb)(hc:PE X c tc)
  (hm:lastMarks [op,op'] [b,c]=false:=by with_unfolding_all rfl):PT X (.Compare a [op,op'] [b,c] pos) (Quc (Qka r r' ta tb tc)):=by
 intro pins s σ H Q I h;refine isTrue_chain (thn (ha pins s σ H _ I h) λv s1 ⟨x,H1,I1,r1,q1⟩=>test_link (thn (hb pins s1 σ H1 _ I1 q1) λu s2 ⟨y,H2,I2,r2,q2⟩=>
  thn (ho pins s2 σ H2 x y v u _ I2 r1 r2 q2) λd s3 ⟨z,H3,I3,r3,k,e,q3⟩=>?_)) hm
 subst e;cases r3;refine JB ?_
 cases k with
 |false=>
  obtain⟨k',e',q'⟩:=q3;cases e';exact ite_ff ⟨H3,I3,q'⟩
 |true=>
  refine ite_tt (test_last (thn (hc pins s3 σ H3 _ I3 q3) λw' s4 ⟨z',H4,I4,r4,q4⟩=>thn (ho' pins s4 σ H4 y z' u w' _ I4 r2 r4 q4) λd' s5 ⟨z2,H5,I5,r5,k2,e2,q5⟩=>?_));subst e2;cases r5;exact JB ⟨H5,I5,q5⟩
def Qyn(K:PySem.W.Frag)(x:V)(H:Hp)(k:Bool):Prop:=
 match x with
 |.non=>k=false
 |.bl b=>k=b
 |.int i=>k=(i != 0)
 |.str y=>y.length<=sizeLine/\k=((y.length:Int) != 0)
 |.byt y=>y.size<=sizeLine/\k=((y.size:Int) != 0)
 |.ref p=>(∃xs,SqL K H p xs/\k = !xs.isEmpty)∨(∃xs,SqT K H p xs/\k = !xs.isEmpty)∨∃kvs,H p=some (.dK kvs)/\k = !kvs.isEmpty
 |_=>False
theorem Qjf{κ:Type}{kvs:List (κ×V)}{vs:List (κ×Value)}(r:KV kvs vs):(!vs.isEmpty) = !kvs.isEmpty:=by
 cases r<;>rfl
theorem Qev{xs:List V}{its:List Value}(r:Vals xs its):(!its.toArray.isEmpty) = !xs.isEmpty:=by
 cases r<;>simp
theorem Qer:(sizeLine:Nat)<2^63:=by rw[QiF];decide
theorem Qt7:QzL X (λx H Q=>∃k,Qyn X.K x H k/\Q k H):=by
 intro pins s σ H x v Q I rx h;obtain⟨k,e,q⟩:=h;have hl:=Qer;have hs:sizeLine=16777216:=QiF;cases x with
 |non=>
  cases rx;have e':k=false:=e;subst e';exact truthy_none ⟨H,I,q⟩
 |bl b=>
  cases rx;have e':k=b:=e;subst e';exact JB ⟨H,I,q⟩
 |int i=>
  obtain⟨t,rfl⟩:=rx;have e':k=(i != 0):=e;subst e';exact PySem.P.truthy_int ⟨H,I,q⟩
 |str y=>
  obtain⟨t,rfl⟩:=rx;obtain⟨hy,e'⟩:y.length<=sizeLine/\k=((y.length:Int) != 0):=e;subst e';exact PySem.P.truthy_str (by omega) ⟨H,I.tok _,q⟩
 |byt y=>
  obtain⟨t,rfl⟩:=rx;obtain⟨hy,e'⟩:y.size<=sizeLine/\k=((y.size:Int) != 0):=e;subst e';exact PySem.W.truthy_bytes (by omega) ⟨H,I.tok _,q⟩
 |ref p=>
  cases rx;have e':(∃xs,SqL X.K H p xs/\k = !xs.isEmpty)∨(∃xs,SqT X.K H p xs/\k = !xs.isEmpty)∨∃kvs,H p=some (.dK kvs)/\k = !kvs.isEmpty:=e
  rcases e' with⟨xs,hx,e'⟩ | ⟨xs,hx,e'⟩ | ⟨kvs,hx,e'⟩
  ·subst e';obtain⟨its,r,pl,hz⟩:=I.list hx;have hlen:=r.length;exact wpAny_truthy_list pl.isList (by simp only[Qq];omega) ⟨H,I.tok _,by rw[Qev r];exact q⟩
  ·subst e';obtain⟨its,r,pl,hz⟩:=I.tuple hx;have hlen:=r.length;exact truthy_tuple pl (by simp only[Qq];omega) ⟨H,I.tok _,by rw[Qev r];exact q⟩
  ·subst e';obtain⟨hz,hS,vs,r,m⟩:kvs.length<=sizeLine/\(p == sysModules)=false/\∃vs,KV kvs vs/\s.heap.DictOf (mixKind X.prog X.w) p vs:=I.hok p _ hx
   have hlen:kvs.length=vs.length:=Qtz r;exact wpAny_truthy_dict hS m (by omega) ⟨H,I.tok _,by rw[Qjf r];exact q⟩
 |_=>exact(show False from e).elim
theorem Qnr(ha:PE X a ta)(he:∀whole,isTrue a X.env whole=(do let v <- whole;standAt a.pos;holding [v] (truthy v))) :
  PT X a (λσ H Q=>ta σ H λx H'=>∃k,Qyn X.K x H' k/\Q k H'):=by
 intro pins s σ H Q I h;exact isTrue_plain (thn (ha pins s σ H _ I h) λv s1 ⟨x,H1,I1,r1,q1⟩=>Qt7 pins s1 σ H1 x v Q I1 r1 q1) (he _)
theorem vals1{x:V}{us:List Value}(r:Vals [x] us):∃u,us=[u]/\RelV x u:=by
 cases r with
 |cons r1 r2=>cases r2;exact⟨_,rfl,r1⟩
theorem vals2{x y:V}{us:List Value}(r:Vals [x,y] us):∃u w',us=[u,w']/\RelV x u/\RelV y w':=by
 cases r with
 |cons r1 r2=>
  cases r2 with
  |cons r3 r4=>cases r4;exact⟨_,_,rfl,r1,r3⟩
theorem Qat(hc:X.calm=true):CallR X (.builtin "max") (λxs H Q=>∃i j,xs=[.int i,.int j]/\Q (.int (if j > i then j else i)) H):=by
 intro pins s σ H xs us Q I r h;obtain⟨i,j,rfl,q⟩:=h;obtain⟨u,w',rfl,⟨t,rfl⟩,⟨t',rfl⟩⟩:=vals2 r;refine max_two_ints (I.ok.hd hc) λh' tk k=>⟨_,H,I.kept k,?_,q⟩
 by_cases hj:j > i
 ·rw[if_pos hj,if_pos hj];exact⟨_,rfl⟩
 ·rw[if_neg hj,if_neg hj];exact⟨_,rfl⟩
theorem Qgt(hc:X.calm=true):CallR X (.builtin "min") (λxs H Q=>∃i j,xs=[.int i,.int j]/\Q (.int (if j<i then j else i)) H):=by
 intro pins s σ H xs us Q I r h;obtain⟨i,j,rfl,q⟩:=h;obtain⟨u,w',rfl,⟨t,rfl⟩,⟨t',rfl⟩⟩:=vals2 r;refine min_two_ints (I.ok.hd hc) λh' tk k=>⟨_,H,I.kept k,?_,q⟩
 by_cases hj:j<i
 ·rw[if_pos hj,if_pos hj];exact⟨_,rfl⟩
 ·rw[if_neg hj,if_neg hj];exact⟨_,rfl⟩
theorem Qgu:CallR X (.type "int") (λxs H Q=>(∃i,xs=[.int i]/\Q (.int i) H)∨∃k,xs=[.bl k]/\Q (.int (if k then 1 else 0)) H):=by
 intro pins s σ H xs us Q I r h;rcases h with⟨i,rfl,q⟩ | ⟨k,rfl,q⟩
 ·obtain⟨u,rfl,t,rfl⟩:=vals1 r;exact call_int_int ⟨.int i,H,I,⟨_,rfl⟩,q⟩
 ·obtain⟨u,rfl,r1⟩:=vals1 r;cases r1;exact call_int_bool ⟨.int (if k then 1 else 0),H,I.tok _,⟨_,rfl⟩,q⟩
end
structure ObjM (h:J8) (x dx C:Addr) (mA:Str->Option Value):Prop where
 obj:h.get? x=some (PySem.W.instObj C dx)
 ns:h.Ns1 dx mA
 ne:dx≠x
theorem Qlu{h:J8}{dx:Addr}{mA:Str->Option Value}(n:h.Ns1 dx mA):∃od,h.get? dx=some od/\∀name,PySem.W.lookIn name od=some (mA name):=by
 obtain⟨o,es,ep,ho,hd,hk,_,hm⟩:=n;refine⟨o,ho,λname=>?_⟩;have e:=hm name;unfold nsFind findBy at e;rw[<- Array.find?_toList] at e;unfold PySem.W.lookIn;rw[hd]
 dsimp only
 split
 ·rename_i y q
  rw[q] at e;exact congrArg some e
 ·rename_i q
  rw[q] at e;have a:es.toList.any (·.refKey)=false:=by
   rw[List.any_eq_false];intro y hy;obtain⟨z,t,hkey⟩:=hk y (QjI.mp hy);simp[DictEntry.refKey,hkey]
  have a':¬es.toList.any (·.refKey)=true:=by rw[a];exact Qu
  rw[if_neg a'];exact congrArg some e
theorem ObjM.look{h:J8}{x dx C:Addr}{mA:Str->Option Value}(I:ObjM h x dx C mA):∃od,PySem.W.InstAt h x (PySem.W.instObj C dx) C (some od)/\∀name,PySem.W.lookIn name od=some (mA name):=
 let ⟨od,ho,hl⟩:=Qlu I.ns
 ⟨od,⟨I.obj,rfl,rfl,ho⟩,hl⟩
section
variable{prog:QN}{w:Jj}{A:Jh}{E:Value->Shared->Prop}{s:Shared}{K:PySem.W.Frag}{x dx C f:Addr}{mA:Str->Option Value}{name:Str}{v:Value}
end
section
variable{P:QN}{w:Jj}{H H':Hp}{h h':J8}{a C dx:Addr}{fs fs':List (Str×V)}
theorem QsX(hok:HOk P w H h)(e:H a=some (.ins C dx fs)):∃mA,ObjM h a dx C mA/\(∀f,Qyo (fs.lookup f) (mA f))/\PySem.Within mA (fs.map (·.1))/\fs.length<=1000/\H dx=some (.own a):=by
 obtain⟨d,z,ne,ob,mA,n,r,q⟩:=(show ObjOk P w H h a (.ins C dx fs) from hok a _ e);exact⟨mA,⟨ob,n,ne⟩,r,q,z,d⟩
end
structure Cls (K:PySem.W.Frag) (C:Addr):Prop where
 pg:PySem.W.plainGet K C Str.empty=true
 hd:PySem.W.hasDictIn K C=true
 po:PySem.W.plainOver K C=true
 sa:PySem.W.findIn K (.ref C) "__setattr__" = some (some (.builtin "object.__setattr__"))
theorem Cls.get{K:PySem.W.Frag}{C:Addr}(c:Cls K C)(f:Str):PySem.W.plainGet K C f=true:=c.pg
section
variable{X:Cx}{pins:List (Addr×Obj)}{σ:St}{H:Hp}{s:Shared}{a C dx:Addr}{fs:List (Str×V)}{f:Str}{v:V}{A:Jh}{E:Value->Shared->Prop}
end
section
variable{X:Cx}{o e value:QV}{f:Str}{pos pos' tpos:Pos}{ta tv:TE}
def rAdd:V->V->Hp->VK->Prop:=λx y H Q=>∃i j,x=.int i/\y=.int j/\Q (.int (i+j)) H
end
section
variable{X:Cx}{pins:List (Addr×Obj)}{σ:St}{H:Hp}{s:Shared}{A:Jh}{E:Value->Shared->Prop}{Q:Value->Shared->Prop}{c:Value}{b:Bool}
inductive TyOf (K:PySem.W.Frag) (H:Hp):V->Value->Prop where
 |non:TyOf K H .non (.type "NoneType")
 |bl (x:Bool):TyOf K H (.bl x) (.type "bool")
 |int (i:Int):TyOf K H (.int i) (.type "int")
 |str (x:Str):TyOf K H (.str x) (.type "str")
 |flt (x:UInt64):TyOf K H (.flt x) (.type "float")
 |lst {a:Addr} {xs:List V} (e:H a=some (.lst xs)):TyOf K H (.ref a) (.type "list")
 |frz {a:Addr} {o:Obj} {xs:List V} (e:H a=some (.frz o (.lst xs))):TyOf K H (.ref a) (.type "list")
 |tup {a:Addr} {xs:List V} (e:H a=some (.tup xs)):TyOf K H (.ref a) (.type "tuple")
 |dK {a:Addr} {kvs:List (Key×V)} (e:H a=some (.dK kvs)):TyOf K H (.ref a) (.type "dict")
 |dT {a:Addr} {kvs:List (List Key×V)} (e:H a=some (.dT kvs)):TyOf K H (.ref a) (.type "dict")
 |ins {a C dx:Addr} {fs:List (Str×V)} (e:H a=some (.ins C dx fs)) (cl:Cls K C) (ha:PySem.W.findIn K (.ref C) "__class__" = some (some (.builtin "object.__class__")))
   (hn:PySem.W.specialIn K (.builtin "object.__class__") "__get__" = some (some (.builtin "getset_descriptor.__get__"))) (htk:PySem.W.takesIn K (.builtin "object.__class__")=some true)
   (hm:PySem.W.mroIn K C (.type "object")=some true):TyOf K H (.ref a) (.ref C)
theorem QlD{x:V}{u t:Value}(I:Inv X pins σ H s)(rx:RelV x u)(ty:TyOf X.K H x t)(e:PySem.W.kitOne X.K t c=some b)(h:∀tk,Q (.bool b) { s with toks:=tk }) :
  wpAny (model X.prog X.w) A (call (.builtin "isinstance") [u,c]) Q E s:=by
 cases ty with
 |non=>cases(show u=YR from rx);exact PySem.W.kia_one PySem.W.kitx_none I.kIn QbS e (λz=>nomatch z) h
 |bl y=>cases(show u=Ye y from rx);exact PySem.W.kia_one PySem.W.kitx_bool I.kIn QbS e (λz=>nomatch z) h
 |int i=>obtain⟨t,q⟩:=(show ∃t,u=QpW i t from rx);cases q;exact PySem.W.kia_one PySem.W.kitx_int I.kIn QbS e (λz=>nomatch z) h
 |str y=>obtain⟨t,q⟩:=(show ∃t,u=QpV y t from rx);cases q;exact PySem.W.kia_one PySem.W.kitx_str I.kIn QbS e (λz=>nomatch z) h
 |flt y=>obtain⟨t,q⟩:=(show ∃t,u=QwY y t from rx);cases q;exact PySem.W.kia_one PySem.W.kitx_float I.kIn QbS e (λz=>nomatch z) h
 |@lst a xs ea=>
  cases(show u=Zl a from rx);obtain⟨_,_,n,_,h1⟩:=(show ObjOk X.prog X.w H s.heap a (.lst xs) from I.hok a _ ea);exact PySem.W.kia_one PySem.W.kitx_list I.kIn ⟨_,h1,rfl⟩ e (λz=>nomatch z) h
 |@frz a ob xs ea=>
  cases(show u=Zl a from rx);obtain⟨_,_,_,n,_,h1⟩:=(show ObjOk X.prog X.w H s.heap a (.frz ob (.lst xs)) from I.hok a _ ea);exact PySem.W.kia_one PySem.W.kitx_list I.kIn ⟨_,h1,rfl⟩ e (λz=>nomatch z) h
 |@tup a xs ea=>
  cases(show u=Zl a from rx);obtain⟨_,_,_,p⟩:=(show ObjOk X.prog X.w H s.heap a (.tup xs) from I.hok a _ ea);obtain⟨o,h1,h2,_⟩:=p;exact PySem.W.kia_one PySem.W.kitx_tuple I.kIn ⟨o,h1,h2⟩ e (λz=>nomatch z) h
 |@dK a kvs ea=>
  cases(show u=Zl a from rx);obtain⟨_,_,vs,_,p⟩:=(show ObjOk X.prog X.w H s.heap a (.dK kvs) from I.hok a _ ea);obtain⟨o,es,ep,h1,h2,_⟩:=p;exact PySem.W.kia_one PySem.W.kitx_dict I.kIn ⟨o,h1,h2.1⟩ e (λz=>nomatch z) h
 |@dT a kvs ea=>
  cases(show u=Zl a from rx);obtain⟨_,_,xs,_,o,es,ep,h1,h2,_⟩:=(show ObjOk X.prog X.w H s.heap a (.dT kvs) from I.hok a _ ea);exact PySem.W.kia_one PySem.W.kitx_dict I.kIn ⟨o,h1,h2.1⟩ e (λz=>nomatch z) h
 |@ins a C dx fs ea cl ha hn htk hm=>
  cases(show u=Zl a from rx);obtain⟨mA,O,_⟩:=QsX I.hok ea;obtain⟨od,J,_⟩:=O.look;exact PySem.W.kia_one (PySem.W.kitx_own (cl.get _) cl.hd ha hn htk hm) I.kIn J e (λz=>nomatch z) h
end
structure Room (k:Nat) (A:Jh):Prop where
 hd:A.handled=none
 dp:A.depth+3*k+5<recursionLimit
 un:A.units+16*k+200<cLine
theorem Room.mono{j k:Nat}{A:Jh}(r:Room k A)(h:j<=k):Room j A:=⟨r.hd,by have:=r.dp;omega,by have:=r.un;omega⟩
theorem Room.deeper{k:Nat}{A:Jh}(r:Room (k+1) A)(env:Env):Room k (A.deeper env):=
 ⟨r.hd,by have:=r.dp;show A.depth+1+3*k+5<_;omega,by have:=r.un;show A.units+3+16*k+200<_;omega⟩
theorem Room.in1{k:Nat}{A:Jh}(r:Room (k+1) A):Room k A.in1:=
 ⟨r.hd,by have:=r.dp;show A.depth+3*k+5<_;omega,by have:=r.un;show A.units+1+16*k+200<_;omega⟩
theorem Room.depth{k:Nat}{A:Jh}(r:Room k A):A.depth<recursionLimit:=by have:=r.dp;omega
def Qys:TA:=λ_ H Q=>Q [] H
def Qm5(ta:TE)(tr:TA):TA:=λσ H Q=>ta σ H λx H1=>tr σ H1 λxs H2=>Q (x::xs) H2
section
variable{X:Cx}{e:QV}{es:List QV}{te:TE}{t:TA}{pos:Pos}
theorem YF:PA X [] Qys:=λ_ _ _ _ H Q I h=>Calls.spliced_nil ⟨[],H,I,.nil,h⟩
theorem QaX(ha:PE X e te)(hr:PA X es t)(hs:starEach (e::es) X.env=(false,eval e X.env)::starEach es X.env:=by rfl):PA X (e::es) (Qm5 te t):=by
 intro pos pins s σ H Q I h;rw[hs];show wpAny _ _ (spliced ((false,eval e X.env)::backTo pos (starEach es X.env))) _ _ s;refine Calls.spliced_cons (thn (ha pins s σ H _ I h) λu s1 ⟨x,H1,I1,r1,q1⟩=>?_);exact thn (hr pos pins s1 σ H1 _ I1 q1) λus s2 ⟨xs,H2,I2,r2,q2⟩=>⟨x::xs,H2,I2,.cons r1 r2,q2⟩
def Qzo(t:TA):TE:=λσ H Q=>t σ H λxs H1=>xs.length<=sizeLine/\∀p,H1 p=none->Q (.ref p) (upd H1 p (.lst xs))
theorem Qpi(h:PA X es t):PE X (.List es pos) (Qzo t):=by
 intro pins s σ H Q I hq;refine Qwp (thn (h pos pins s σ H _ I hq) λus s1 ⟨xs,H1,I1,r,z,q⟩=>⟨by rw[<- r.length];exact z,?_⟩);have hf:H1 s1.heap.objs.size=none:=I1.hok.fresh (Qi _);refine⟨.ref s1.heap.objs.size,upd H1 s1.heap.objs.size (.lst xs),I1.laid (t':=s1.toks) (λb u e=>Qd _ e) (Qi _) ?_,rfl,q _ hf⟩;exact⟨z,us,0,r,Qv _ rfl⟩
end
abbrev Sp:=List V->Hp->VK->XK->Prop
abbrev CXT:=List Env->Hp->Shared->XK->Value->Shared->Prop
structure Env0 (P:QN) (w:Jj) (K:PySem.W.Frag) (mg:Str->Option Value) (base:J8) (A:Jh) (outer:List Env) (s:Shared) (H:Hp):Prop where
 frames:A.frames=some outer
 mod:Mod K mg base
 bs:∀b o,base.get? b=some o->s.heap.get? b=some o/\H b=none
 bsz:base.objs.size<=s.heap.objs.size
 funs:s.heap.FunFrames base outer
 frf:∀b∈frs outer,H b=none
 hok:HOk P w H s.heap
 bare:QdX s.gens
def CE(outer:List Env)(P:QN)(w:Jj)(H:Hp)(s:Shared)(Q:VK)(u:Value)(s':Shared):Prop:=
 ∃v H',s'.os=s.os/\QdX s'.gens/\Un (frs outer) [] H H' s.heap s'.heap/\HOk P w H' s'.heap/\RelV v u/\Q v H'
def CR(CX:CXT)(outer:List Env)(P:QN)(w:Jj)(H:Hp)(s:Shared)(Q:VK)(E:XK)(r:QpX)(s':Shared):Prop:=
 match r with
 |.ok (.ret u)=>CE outer P w H s Q u s'
 |.ok _=>False
 |.error e=>CX outer H s E e s'
structure FnOk (P:QN) (w:Jj) (K:PySem.W.Frag) (mg:Str->Option Value) (base:J8) (CX:CXT) (k:Nat) (f:Addr) (fd:QK) (ps:List Str) (sp:Sp):Prop where
 len:∀vs H Q E,sp vs H Q E->vs.length=ps.length
 run:∀(A:Jh)(outer:List Env)(s:Shared)(H:Hp)(args:Args)(us:List Value)(vs:List V)(Q:VK)(E:XK),Room k A->Env0 P w K mg base A outer s H->QmU s fd args (ps.zip us)->Vals vs us->sp vs H Q E ->
  codeAny (model P w) A (.call (.ref f) args) (CR CX outer P w H s Q E) s
theorem FnOk.imp{P:QN}{w:Jj}{K:PySem.W.Frag}{mg:Str->Option Value}{base:J8}{CX:CXT}{k:Nat}{f:Addr}{fd:QK}{ps:List Str}{sp sp':Sp}(F:FnOk P w K mg base CX k f fd ps sp)
  (h:∀vs H Q E,sp' vs H Q E->sp vs H Q E):FnOk P w K mg base CX k f fd ps sp':=
 ⟨λvs H Q E q=>F.len vs H Q E (h _ _ _ _ q),λA outer s H args us vs Q E hr he hb hv hs=>F.run A outer s H args us vs Q E hr he hb hv (h _ _ _ _ hs)⟩
theorem Env0.in1{P:QN}{w:Jj}{K:PySem.W.Frag}{mg:Str->Option Value}{base:J8}{A:Jh}{outer:List Env}{s:Shared}{H:Hp}(e:Env0 P w K mg base A outer s H) :
  Env0 P w K mg base A.in1 outer s H:=⟨e.frames,e.mod,e.bs,e.bsz,e.funs,e.frf,e.hok,e.bare⟩
section
variable{X:Cx}{pins:List (Addr×Obj)}{σ:St}{H:Hp}{s s':Shared}
theorem Inv.env0(I:Inv X pins σ H s):Env0 X.prog X.w X.K X.mg X.base X.A X.stack s H:=
 ⟨I.ok.frames,I.ok.mod,I.bs,Q1 I.ok.bsz I.sz,I.stack,I.stkFree,I.hok,I.bare⟩
theorem Inv.after{Q:VK}{u:Value}(I:Inv X pins σ H s)(h:CE X.stack X.prog X.w H s Q u s'):EP X pins σ Q u s':=by
 obtain⟨v,H',os,bare,un,hok,r,q⟩:=h;obtain⟨hh,g,d,t,os'⟩:=s';obtain rfl:os'=s.os:=os;exact⟨v,H',I.call (h':=hh) (g':=g) (d':=d) (t':=t) (ch:=[]) un hok bare (λb z=>absurd z (by simp)),r,q⟩
end
def Qm6(sp:Sp)(dvs:List V)(E:XK)(t:TA):TE:=λσ H Q=>t σ H λvs H1=>sp (vs++dvs) H1 Q E
def Binds(K:PySem.W.Frag)(fd:QK)(ps:List Str)(ds:List Value):Prop:=
 ∀(s:Shared)(us:List Value),K.In s.heap->(us++ds).length=ps.length->QmU s fd ⟨us,[]⟩ (ps.zip (us++ds))
theorem Binds.all{K:PySem.W.Frag}{fd:QK}{ps:List Str}(h:∀us:List Value,us.length=ps.length->bindArgs fd ⟨us,[]⟩=pure (ps.zip us)):Binds K fd ps []:=λs us _ hl=>by
 rw[Yc] at hl ⊢;exact .of_eq (h us hl)
def Qa6(CX:CXT)(X:Cx)(E:XK):Prop:=∀(pins:List (Addr×Obj))(σ:St)(H:Hp)(s:Shared)(e:Value)(s':Shared),Inv X pins σ H s->CX X.stack H s E e s'->X.xe e s'
section
variable{X:Cx}{CX:CXT}{k:Nat}{f C:Addr}{fd:QK}{ps:List Str}{sp:Sp}{dvs:List V}{ds:List Value}{E:XK}{x m:Str}{p pos apos:Pos}{e o:QV}{es:List QV}{ta:TE}{t:TA}
theorem Qo9{pins:List (Addr×Obj)}{σ:St}{H:Hp}{s:Shared}{Q:VK}{us:List Value}{vs:List V}(F:FnOk X.prog X.w X.K X.mg X.base CX k f fd ps sp)(hr:Room k X.A)(hb:Binds X.K fd ps ds)(hd:Vals dvs ds)(hx:Qa6 CX X E)
  (I:Inv X pins σ H s)(r:Vals vs us)(h:sp (vs++dvs) H Q E):wpAny (model X.prog X.w) X.A (call (.ref f) us) (EP X pins σ Q) X.xe s:=by
 have r2:Vals (vs++dvs) (us++ds):=r.append hd;have hl:(us++ds).length=ps.length:=by rw[<- r2.length];exact F.len _ _ _ _ h
 refine QwS (QcV (F.run X.A X.stack s H ⟨us,[]⟩ (us++ds) (vs++dvs) Q E hr I.env0 (hb s us I.kIn hl) r2 h) λr s' hq=>?_);cases r with
 |error e=>exact hx pins σ H s e s' I hq
 |ok fl=>
  cases fl with
  |ret u=>exact I.after hq
  |next=>exact Zg hq
  |brk=>exact Zg hq
  |cont=>exact Zg hq
theorem Qdr(F:FnOk X.prog X.w X.K X.mg X.base CX k f fd ps sp)(hr:Room k X.A)(hg:Gl X x)(hm:X.mg x=some (.ref f))(hk:PySem.W.keepIn X.K (.ref f)=true)(hb:Binds X.K fd ps ds)(hd:Vals dvs ds)(hx:Qa6 CX X E)
  (ha:PA X (e::es) t)(hdb:(x == ("__debug__" : Str))=false:=by decide)(he:starEach (e::es) X.env=(false,eval e X.env)::starEach es X.env:=by rfl)(hpl:(backTo pos (starEach es X.env)).any (·.1)=false:=by rfl) :
  PE X (.Call (.Name x p) (e::es) [] pos) (Qm6 sp dvs E t):=by
 intro pins s σ H Q I h;refine YX (Qhi I hg hm ?_ hdb);refine PySem.W.callWith_K (h₀:=X.base) I.ok.mod.kin hk (thn (ha pos pins s σ H _ I h) λus s1 ⟨vs,H1,I1,r,q⟩=>⟨I1.kIn,?_⟩) he hpl;exact Qo9 F hr hb hd hx I1 r q
end
section
variable{X:Cx}{CX:CXT}{k:Nat}{f C:Addr}{fd:QK}{ps ks:List Str}{sp:Sp}{E:XK}{x m:Str}{p pos apos kpos:Pos}{e o:QV}{es:List QV}{kws:List Keyword}{te ta:TE}{t tk:TA}{nm:Option Str}
variable{g:List Value->List Value->List Value}{gV:List V->List V->List V}
end
structure Ji (N P:List Str) (sc:Yl):Prop where
 kind:sc.kind=.function
 co:sc.isCoroutine=false
 gen:sc.isGenerator=false
 nd:N.Nodup
 pre:N.take P.length=P
 par:∀x∈P,sc.names.lookup x=some .local∨sc.names.lookup x=some .cell
 nofree:∀y∈sc.names,y.2≠.free
theorem Qgy{kindOf:Str->Option YK}{x:Str}:∀{binds:List (Str×Value)}{m:Str->Option Value},(∀v,(x,v)∉binds)->bindL kindOf binds m x=m x
 |[],_,_=>rfl
 |(n,v)::r,m,h=>by
  unfold bindL;rw[Qgy λw hw=>h w (Jr _ hw)];split
  ·have:x≠n:=by rintro rfl;exact h v Zh
   simp[this]
  ·rfl
theorem QgA{kindOf:Str->Option YK}{x:Str}:∀{binds:List (Str×Value)}{m:Str->Option Value},(∀v,(x,v)∉binds)->bindC kindOf binds m x=m x
 |[],_,_=>rfl
 |(n,v)::r,m,h=>by
  unfold bindC;rw[QgA λw hw=>h w (Jr _ hw)];split
  ·rfl
  ·have:x≠n:=by rintro rfl;exact h v Zh
   simp[this]
theorem Qgz{kindOf:Str->Option YK}{x:Str}{v:Value}:∀{P:List Str}{vs:List Value}{i:Nat}{m:Str->Option Value},P.Nodup->P[i]? = some x->vs[i]? = some v->kindOf x=some .local ->
  bindL kindOf (P.zip vs) m x=some v
 |[],_,_,_,_,h,_,_=>by simp at h
 |_::_,[],_,_,_,_,h,_=>by simp at h
 |p::P,w::vs,0,m,nd,h1,h2,hk=>by
  simp at h1 h2;subst h1;subst h2;show bindL kindOf ((p,w)::P.zip vs) m p=_;unfold bindL;rw[Qgy λv hv=>(Zv.mp nd).1 (QfC hv).1,if_pos hk];simp
 |p::P,w::vs,i+1,m,nd,h1,h2,hk=>by
  show bindL kindOf ((p,w)::P.zip vs) m x=_;unfold bindL;exact Qgz (i:=i) (Zv.mp nd).2 (by simpa using h1) (by simpa using h2) hk
theorem QgB{kindOf:Str->Option YK}{x:Str}{v:Value}:∀{P:List Str}{vs:List Value}{i:Nat}{m:Str->Option Value},P.Nodup->P[i]? = some x->vs[i]? = some v->kindOf x≠some .local ->
  bindC kindOf (P.zip vs) m x=some v
 |[],_,_,_,_,h,_,_=>by simp at h
 |_::_,[],_,_,_,_,h,_=>by simp at h
 |p::P,w::vs,0,m,nd,h1,h2,hk=>by
  simp at h1 h2;subst h1;subst h2;show bindC kindOf ((p,w)::P.zip vs) m p=_;unfold bindC;rw[QgA λv hv=>(Zv.mp nd).1 (QfC hv).1,if_neg hk];simp
 |p::P,w::vs,i+1,m,nd,h1,h2,hk=>by
  show bindC kindOf ((p,w)::P.zip vs) m x=_;unfold bindC;exact QgB (i:=i) (Zv.mp nd).2 (by simpa using h1) (by simpa using h2) hk
def start(N:List Str)(vs:List V):St:=vs.map some++QJ (N.length - vs.length) none
def Qjl(CX:CXT)(P:QN)(w:Jj)(K:PySem.W.Frag)(mg:Str->Option Value)(base:J8)(N:List Str)(qual:Str)(scope:Yl)(f:Addr)(cd:Value)(A:Jh)(outer:List Env)(s:Shared)(H:Hp)(E:XK):Cx where
 prog:=P
 w:=w
 K:=K
 mg:=mg
 base:=base
 A:=A.deeper (envOfC qual scope s.heap.objs.size f cd)
 N:=N
 s₀:=s
 H₀:=H
 env:=envOfC qual scope s.heap.objs.size f cd
 outer:=outer
 stack:=envOfC qual scope s.heap.objs.size f cd::outer
 ex:=[]
 calm:=true
 fn:=λ_=>true
 pn:=[]
 xe:=λe s'=>wpAny (model P w) (A.deeper (envOfC qual scope s.heap.objs.size f cd)) (leaving (envOfC qual scope s.heap.objs.size f cd) e) (λ_ s''=>CX outer H s E e s'') (λe' s''=>CX outer H s E e' s'') s'
theorem Qix{sc:Yl}{n:Nat}{x:Str}(h:sc.names.lookup x=some .cell):∃c,(cellsFrom n sc.names []).lookup x=some c:=by
 have q:=PySem.W.cellsFrom_some sc.names n [] (.inl h);exact Option.isSome_iff_exists.mp q
theorem QlE{CX:CXT}{P:QN}{w:Jj}{K:PySem.W.Frag}{mg:Str->Option Value}{base:J8}{N ps:List Str}{qual:Str}{scope:Yl}{f:Addr}{cd:Value}{A:Jh}{outer:List Env}{s s1:Shared}{H:Hp}{E:XK}{us:List Value}{vs:List V}
  (S:Ji N ps scope)(hd:A.handled=none)(e0:Env0 P w K mg base A outer s H)(hl:vs.length=ps.length)(r:Vals vs us)
  (x:InCallC s s.heap.objs.size (bindL (envOfC qual scope s.heap.objs.size f cd).kindOf (ps.zip us) λ_=>none) (cellsFrom (s.heap.objs.size+1) scope.names []) (bindC (envOfC qual scope s.heap.objs.size f cd).kindOf (ps.zip us) λ_=>none) s1) :
  Inv (Qjl CX P w K mg base N qual scope f cd A outer s H E) [] (start N vs) H s1:=by
 have hpl:ps.length<=N.length:=by have:=congrArg QfG S.pre;rw[Yz] at this;omega
 obtain⟨h1,tk,rfl,hk⟩:=x.done;have noA:∀b:Addr,b∉(Qjl CX P w K mg base N qual scope f cd A outer s H E).ex:=λb z=>absurd (show b∈([]:List Addr) from z) (by simp)
 refine⟨⟨e0.mod,S.kind,rfl,rfl,Qi _,λy z c h1 h2=>?_,λy hy=>?_,λy c _ h=>?_,λ_=>hd,QiN e0.frames,.inr ⟨rfl,rfl⟩,λb z=>absurd z (noA b),e0.bs,e0.bsz,λb _ _=>noA b,λb z=>absurd z (noA b),e0.funs,e0.frf⟩,
  rfl,e0.bare,Un.kept hk,⟨_,x.toInCall.ns,λi y v h1 h2 h3=>?_⟩,λy c h=>⟨_,x.cell y c h⟩,e0.hok.fresh (Qi _),λy c h=>?_,λp hp=>absurd (show p∈([]:List (Addr×Obj)) from hp) (by simp),e0.hok.kept hk,?_⟩
 ·exact name_of_addr x.apart (PySem.mem_of_lookup h1) (PySem.mem_of_lookup h2)
 ·have hy:scope.names.lookup y=some .cell∨scope.names.lookup y=some .free:=hy;rcases hy with hy | hy
  ·exact Qix hy
  ·exact absurd rfl (S.nofree _ (PySem.mem_of_lookup hy))
 ·exact ZC (x.above y c (PySem.mem_of_lookup h))
 ·have hi:i<vs.length:=by
   unfold start at h2;by_cases hi:i<vs.length
   ·exact hi
   ·rw[ZA (by simpa using hi)] at h2;rw[Zr] at h2;split at h2<;>cases h2
  have ha:vs[i]? = some v:=by
   unfold start at h2;rw[ZG (by simpa using hi),Qh] at h2;cases e:vs[i]? with
   |none=>rw[e] at h2;cases h2
   |some a=>rw[e] at h2;cases h2;rfl
  obtain⟨u,hu,rv⟩:=r.get ha;have hp:ps[i]? = some y:=by
   rw[<- S.pre,QgN (by omega)];exact h1
  have ndP:ps.Nodup:=by rw[<- S.pre];exact S.nd.sublist (List.take_sublist _ _)
  refine⟨u,rv,?_⟩;rcases S.par y (Qz hp) with k | k
  ·exact .inl ⟨k,Qgz ndP hp hu k⟩
  ·obtain⟨c,e⟩:=Qix (n:=s.heap.objs.size+1) k;refine .inr ⟨.inl k,c,e,?_⟩;have q:=x.cell y c e;rw[QgB ndP hp hu (by show scope.names.lookup y≠_;rw[k];decide)] at q;exact q
 ·exact e0.hok.fresh (ZC (x.above y c (PySem.mem_of_lookup h)))
 ·unfold start;show _=N.length;rw[Qx,Qe,JF];omega
theorem QvP{CX:CXT}{P:QN}{w:Jj}{K:PySem.W.Frag}{mg:Str->Option Value}{base:J8}{k:Nat}{f:Addr}{name qual:Str}{params:QeQ}{body:List ZK}{scope:Yl}{dV kV doc pm cdv ct oc:Value}{an od:Option Addr}
  {osl:Array (Option Value)} {N ps:List Str} {sp:Sp} (lk:K.lookup f=some ⟨oc,od,.func (PySem.W.fnOf name qual params body scope dV kV doc pm an cdv ct),osl⟩) (hcd:PySem.W.codeIn K cdv qual=true) (S:Ji N ps scope)
  (len:∀vs H Q E,sp vs H Q E->vs.length=ps.length)
  (hbody:∀(A:Jh)(outer:List Env)(s:Shared)(H:Hp)(vs:List V)(Q:VK)(E:XK),Room k (A.deeper (envOfC qual scope s.heap.objs.size f cdv))->sp vs H Q E ->
   ∃t,PSs (Qjl CX P w K mg base N qual scope f cdv A outer s H E) body t/\t { nx:=λ_ H'=>Q .non H',rt:=Q } (start N vs) H) :
  FnOk P w K mg base CX (k+1) f (PySem.W.fnOf name qual params body scope dV kV doc pm an cdv ct) ps sp:=by
 refine⟨len,λA outer s H args us vs Q E hr e0 hb r hsp=>?_⟩;have hl:=len _ _ _ _ hsp;have KX:K.In s.heap:=e0.mod.kin.keeps λb o e=>(e0.bs b o e).1
 have lim:s.heap.NoLimit:=e0.mod.nolimit.keeps λb o e=>(e0.bs b o e).1
 have hkind:∀y∈ps.zip us,scope.names.lookup y.1=some .local∨(scope.names.lookup y.1=some .cell/\((cellsFrom (s.heap.objs.size+1) scope.names []).lookup y.1).isSome=true):=λ⟨n,v⟩ hy=>by
  rcases S.par n (QfC hy).1 with q | q
  ·exact .inl q
  ·exact .inr ⟨q,PySem.W.cellsFrom_some _ _ _ (.inl q)⟩
 refine codeAny_call_function hr.depth (KX _ _ lk) rfl S.co S.gen rfl (PySem.W.codeRec_of KX hcd) (hb _ _ _ _ ?_);refine wpAny_newFunctionEnv_cells S.kind hkind λenv he s1 x=>?_
 subst he;refine⟨lim.keeps x.toInCall.keep,codeAny_func ?_⟩;obtain⟨t,ht,hq⟩:=hbody A outer s H vs Q E (hr.deeper _) hsp;have I:Inv (Qjl CX P w K mg base N qual scope f cdv A outer s H E) [] (start N vs) H s1:=QlE S hr.hd e0 hl r x;refine wpAny_mono (ht [] s1 (start N vs) H _ I hq) (λfl s' hs=>?_) λe s' hs=>hs
 have fin:∀{σ':St}{H':Hp}{v:V}{u:Value},Inv (Qjl CX P w K mg base N qual scope f cdv A outer s H E) [] σ' H' s'->RelV v u->Q v H'->CE outer P w H s Q u s':=
  λ{σ' H' v u} J rv q=>⟨v,H',J.os,J.bare,J.base,J.hok,rv,q⟩
 cases fl with
 |ret u=>
  obtain⟨v,σ',H',J,rv,q⟩:=hs;exact fin J rv q
 |next=>
  obtain⟨σ',H',J,q⟩:=hs;exact fin (v:=V.non) (u:=YR) J rfl q
 |brk=>
  obtain⟨_,_,_,q⟩:=hs;exact Zg q
 |cont=>
  obtain⟨_,_,_,q⟩:=hs;exact Zg q
section
variable{X:Cx}{x:Str}{p pos:Pos}{e:QV}{es:List QV}{t:TA}{id T:String}{r:List V->Hp->VK->Prop}
def tCB(r:List V->Hp->VK->Prop)(t:TA):TE:=λσ H Q=>t σ H λvs H1=>r vs H1 Q
theorem Qb0(hc:CallR X (.builtin id) r)(hg:Gl X x)(hm:X.mg x=none)(hv:bootBuiltins x=some (.builtin id))(ha:PA X (e::es) t)(hn:x ≠ "__name__" := by decide)(hdb:(x == ("__debug__" : Str))=false:=by decide)
  (he:starEach (e::es) X.env=(false,eval e X.env)::starEach es X.env:=by rfl)(hpl:(backTo pos (starEach es X.env)).any (·.1)=false:=by rfl):PE X (.Call (.Name x p) (e::es) [] pos) (tCB r t):=by
 intro pins s σ H Q I h;refine YX (Qb3 I hg hm hv ?_ hn hdb);exact PyProof.Rows.callWith_builtin1 (thn (ha pos pins s σ H _ I h) λus s1 ⟨vs,H1,I1,r1,q1⟩=>hc pins s1 σ H1 vs us Q I1 r1 q1) he hpl
theorem Qgb(hc:CallR X (.type T) r)(hg:Gl X x)(hm:X.mg x=none)(hv:bootBuiltins x=some (.type T))(ha:PA X (e::es) t)(hn:x ≠ "__name__" := by decide)(hdb:(x == ("__debug__" : Str))=false:=by decide)
  (he:starEach (e::es) X.env=(false,eval e X.env)::starEach es X.env:=by rfl)(hpl:(backTo pos (starEach es X.env)).any (·.1)=false:=by rfl):PE X (.Call (.Name x p) (e::es) [] pos) (tCB r t):=by
 intro pins s σ H Q I h;refine YX (Qb3 I hg hm hv ?_ hn hdb);exact JO (thn (ha pos pins s σ H _ I h) λus s1 ⟨vs,H1,I1,r1,q1⟩=>hc pins s1 σ H1 vs us Q I1 r1 q1) he hpl
end
end L2
namespace HT
theorem Qh4(A:Jh)(s:Shared)(a:Int)(t:Tok)(c:Int)(u:Tok)(prog:QN)(w:Jj)(E:Value->Shared->Prop)(Q:Value->Shared->Prop)(h:Q (.bool (decide (a<c))) s) :
  wpAny (model prog w) A (richCompare .Lt (.int a t) (.int c u)) Q E s:=
 (PyProof.Rows.lt_int h:wpAny (model prog w) A (compareOp .Lt (.int a t) (.int c u)) Q E s)
section
open PySem.SeqAt
open PySem.AutoSeq1 (wpAny_loadPart')
open PySem.MeetsSeq PySem.MeetsSeq2 PySem.MeetsSeq3
end
section
variable{prog:QN}{w:Jj}{A:Jh}{E:Value->Shared->Prop}{s:Shared}
theorem Qtq{t b:Addr}{vs ws:List Value}{Q:Value->Shared->Prop}(ht:IsTup s.heap t vs.toArray)(hb:IsTup s.heap b ws.toArray)(hv:vs≠[])
  (h1:ws=[]->Q (.ref t) s)(h2:ws≠[]->Q (.ref s.heap.objs.size) { s with heap:=s.heap.push { cls:=.type "tuple",data:=.seq (vs++ws).toArray } })
  (hsz:vs.length+ws.length<=sizeLine):wpAny (model prog w) A (binaryOp .Add (.ref t) (.ref b)) Q E s:=by
 obtain⟨⟨cls,dd,data,sl⟩,ho,hc,n,hd⟩:=id ht;obtain⟨⟨cls2,dd2,data2,sl2⟩,ho2,hc2,n2,hd2⟩:=id hb;simp only at hc hd hc2 hd2;subst hc hd hc2 hd2;have e:vs.toArray++ws.toArray=(vs++ws).toArray:=by simp
 by_cases hw:ws=[]
 ·exact QpU ⟨_,ho,rfl⟩ ⟨_,ho2,rfl⟩ QgM QmI PySem.F.slot_tuple_add PySem.F.entry_tuple_add (PySem.F.args_tuple_add_2 _ _)
   (tuple_addW1 t b vs.toArray ws.toArray n n2 dd dd2 sl sl2 (by simpa using hv) (by simp[hw])) ⟨ho,ho2,h1 hw⟩
 ·refine QpU ⟨_,ho,rfl⟩ ⟨_,ho2,rfl⟩ QgM QmI PySem.F.slot_tuple_add PySem.F.entry_tuple_add (PySem.F.args_tuple_add_2 _ _)
   (tuple_addW2 t b vs.toArray ws.toArray n n2 dd dd2 sl sl2 (by simpa using hv) (by simpa using hw) (by rw[Qq,Qq];exact hsz)) ⟨ho,ho2,?_⟩
  rw[e];exact h2 hw
def sIx(n d:Nat):Option Int->Nat
 |none=>d
 |some v=>if v<0 then(v+(n:Int)).toNat else min v.toNat n
theorem Qh1(n d:Nat):sIx n d none=d:=rfl
theorem Qkw(n d k:Nat):sIx n d (some (k:Int))=min k n:=by
 show(if(k:Int)<0 then((k:Int)+(n:Int)).toNat else min (k:Int).toNat n)=min k n;rw[if_neg (by omega),Jz]
theorem Quk(n d:Nat)(hd:d<=n)(o:Option Int):sIx n d o<=n:=by
 cases o with
 |none=>exact hd
 |some v=>
  show(if v<0 then(v+(n:Int)).toNat else min v.toNat n)<=n;by_cases hv:v<0
  ·rw[if_pos hv];omega
  ·rw[if_neg hv];exact QeM _ _
theorem Qmb(v:Int)(n d:Nat):(if v<0 then max (v+(n:Int)) 0 else min v (n:Int))=((sIx n d (some v):Nat):Int):=by
 show(if v<0 then max (v+(n:Int)) 0 else min v (n:Int))=(((if v<0 then(v+(n:Int)).toNat else min v.toNat n):Nat):Int);by_cases hv:v<0
 ·simp only[if_pos hv];omega
 ·simp only[if_neg hv];omega
theorem Qjt(lo hi:Option Int)(n:Nat):Y5 lo hi 1 (n:Int)=(((sIx n 0 lo:Nat):Int),((sIx n n hi:Nat):Int)):=by
 have h1:¬((1:Int)<0):=by omega
 unfold Y5;simp only[h1,if_false];refine Prod.ext ?_ ?_
 ·cases lo with
  |none=>rfl
  |some v=>exact Qmb v n 0
 ·cases hi with
  |none=>rfl
  |some v=>exact Qmb v n n
theorem Qi6(i j:Nat):Z6 (i:Int) (j:Int) 1=j - i:=by
 unfold Z6;have h1:(1:Int) > 0:=by omega
 simp only[h1,if_true,Int.ediv_one];split<;>omega
theorem Qd8{v:Value}{o:Option Int}{Q:Option Int->Shared->Prop}(p:QgI v o)(h:Q o s):wpAny (model prog w) A (Qxe v) Q E s:=by
 cases p with
 |none=>exact slicePart_none h
 |int i t=>exact slicePart_int h
theorem QaE{sl:Addr}{vl vu:Value}{lo hi:Option Int}{n:Nat}{Q:Int×Int×Nat->Shared->Prop}(hs:s.heap.IsSliceOf sl vl vu .none)(pl:QgI vl lo)(pu:QgI vu hi)
  (h:Q (((sIx n 0 lo:Nat):Int),1,sIx n n hi - sIx n 0 lo) s):wpAny (model prog w) A (QcM (.ref sl) (pure (n:Int))) Q E s:=by
 obtain⟨os,hos,hcs,hds⟩:=id hs;unfold QcM Qxf;refine wpAny_bind (wpAny_bind (Ze hos hds (x:=vl) rfl (wpAny_bind (Ze hos hds (x:=vu) rfl (wpAny_bind (Ze hos hds (x:=.none) rfl (Qp ?_)))))));refine wpAny_bind (slicePart_none ?_);show wpAny _ _ (if((1:Int) == 0)=true then _ else _) _ _ s;rw[if_neg (by decide)];refine wpAny_bind (Qd8 pl (wpAny_bind (Qd8 pu (wpAny_bind (Qp ?_)))));show wpAny _ _ (match Y5 lo hi 1 (n:Int) with | (lo,hi)=>pure (lo,(1:Int),Z6 lo hi 1)) _ _ s;rw[Qjt lo hi n];show wpAny _ _ (pure (((sIx n 0 lo:Nat):Int),(1:Int),Z6 ((sIx n 0 lo:Nat):Int) ((sIx n n hi:Nat):Int) 1)) _ _ s;rw[Qi6];exact Qp h
theorem Qnw(xs:Array Value)(i k:Nat):((Qm k).filterMap λ(m:Nat)=>xs[((i:Int)+(m:Int)*1).toNat]?).toArray=((xs.toList.drop i).take k).toArray:=by
 have e:(λ(m:Nat)=>xs[((i:Int)+(m:Int)*1).toNat]?)=λm=>xs[i+m]? := by
  funext m
  have:((i:Int)+(m:Int)*1).toNat=i+m:=by omega
  rw[this]
 rw[e];have:=pick_run xs i k;rw[Qc3] at this;have e2:((λx=>xs[x]?)∘λx=>i+x)=λm=>xs[i+m]? := rfl
 rw[e2] at this;rw[this]
theorem Qcy{t sl:Addr}{items:Array Value}{vl vu:Value}{lo hi:Option Int}{Q:Value->Shared->Prop}(ht:IsTup s.heap t items)(hs:s.heap.IsSliceOf sl vl vu .none)(pl:QgI vl lo)(pu:QgI vu hi)
  (hw:¬(sIx items.size 0 lo=0/\sIx items.size items.size hi=items.size))
  (h:Q (.ref s.heap.objs.size) { s with heap:=s.heap.push { cls:=.type "tuple",data:=.seq ((items.toList.drop (sIx items.size 0 lo)).take (sIx items.size items.size hi - sIx items.size 0 lo)).toArray } })
  (hsz:items.size<=sizeLine):wpAny (model prog w) A (getItem (.ref t) (.ref sl)) Q E s:=by
 have htake:sizeOk (.seq ((items.toList.drop (sIx items.size 0 lo)).take (sIx items.size items.size hi - sIx items.size 0 lo)).toArray):=by
  show((items.toList.drop (sIx items.size 0 lo)).take (sIx items.size items.size hi - sIx items.size 0 lo)).toArray.size<=sizeLine;rw[Qq,Yz,Qp2,ZR];omega
 have hj:sIx items.size items.size hi<=items.size:=Quk _ _ (Qi _) hi;obtain⟨os,hos,hcs,hds⟩:=id hs;have hTs:s.TypeIs (.ref sl) "slice" := ⟨os,hos,hcs⟩;unfold getItem
 try with_reducible refine Zx ?_
 first | refine wpAny_bind (Qp ?_) | skip
 refine wpAny_bind (QwR ht.typeIs (by decide) ?_);refine wpAny_bind (Zy (name:=QaC "__getitem__") ht.typeIs JD
  (Z9 JD ht.typeIs QtQ ?_ (Qwq _ _)))
 show wpAny _ _ (QcL (.ref t) >>= _) _ _ s;refine wpAny_bind (tupleItemsOf_ ht ?_);refine wpAny_bind (QpS hTs ?_);rw[if_pos (by decide)];refine wpAny_bind (QaE hs pl pu ?_);have hno:¬((((sIx items.size 0 lo:Nat):Int) == 0&&(1:Int) == 1&&(sIx items.size items.size hi - sIx items.size 0 lo) == items.size)=true):=by
  intro q;rw[JN,JN] at q;have q1:((sIx items.size 0 lo:Nat):Int)=0:=eq_of_beq q.1.1;have q2:sIx items.size items.size hi - sIx items.size 0 lo=items.size:=eq_of_beq q.2;exact hw ⟨by omega,by omega⟩
 show wpAny _ _ (if(((sIx items.size 0 lo:Nat):Int) == 0&&(1:Int) == 1&&(sIx items.size items.size hi - sIx items.size 0 lo) == items.size)=true then _ else _) _ _ s;rw[if_neg hno,Qnw]
 first
  |exact wpAny_bind (m:=Yd _) (JW (Qp ⟨_,rfl,Qp h⟩) htake)
  |exact wpAny_bind (m:=Yd _) (JW (wpAny_bind (Qp (Qp ⟨_,rfl,Qp h⟩))) htake)
  |exact wpAny_bind (wpAny_bind (m:=Yd _) (JW (Qp (Qp ⟨_,rfl,Qp h⟩)) htake))
  |exact wpAny_bind (wpAny_bind (m:=Yd _) (JW (Qp ⟨_,rfl,Qp h⟩) htake))
end
end HT
namespace L2
abbrev TO:=St->Hp->(Option Int->Hp->Prop)->Prop
def PO(X:Cx)(e:Option QV)(t:TO):Prop:=
 ∀(pins:List (Addr×Obj))(s:Shared)(σ:St)(H:Hp)(Q:Option Int->Hp->Prop),Inv X pins σ H s->t σ H Q ->
  wpAny (model X.prog X.w) X.A (evalPart e X.env) (λu s'=>∃o H',Inv X pins σ H' s'/\QgI u o/\Q o H') X.xe s
def Qrg:TO:=λ_ H Q=>Q none H
def Qxp(t:TE):TO:=λσ H Q=>t σ H λx H1=>∃i,x=.int i/\Q (some i) H1
theorem intsAre_of{ns:List Int}:∀{us:List Value},Vals (ns.map V.int) us->Qbp us ns:=by
 induction ns with
 |nil=>intro us r;rw[Qjz] at r;cases r;exact .nil
 |cons n ns ih=>
  intro us r;rw[Jl] at r;cases r with
  |cons r1 r2=>
   obtain⟨t,e⟩:=r1;subst e;exact .cons n t (ih r2)
section
variable{X:Cx}{e:QV}{te:TE}{lo hi:Option QV}{tl th:TO}{pos p2:Pos}
theorem QrQ:PO X none Qrg:=by
 intro pins s σ H Q I h;rw[evalPart_none];exact Qp ⟨none,H,I,.none,h⟩
theorem QrP(h:PE X e te):PO X (some e) (Qxp te):=by
 intro pins s σ H Q I hw;rw[evalPart_some];refine thn (h pins s σ H _ I hw) λu s1 ⟨x,H1,I1,r1,q1⟩=>?_
 obtain⟨i,rfl,q⟩:=q1;obtain⟨t,rfl⟩:=r1;exact⟨some i,H1,I1,.int i t,q⟩
def SlR(X:Cx)(r:V->Option Int->Option Int->Hp->VK->Prop):Prop:=
 ∀(pins:List (Addr×Obj))(s:Shared)(σ:St)(H:Hp)(x:V)(v vl vu:Value)(lo hi:Option Int)(sl:Addr)(Q:VK),Inv X pins σ H s->RelV x v->s.heap.IsSliceOf sl vl vu .none->QgI vl lo->QgI vu hi->r x lo hi H Q ->
  ∃T id,typeLookup (.type T) "__getitem__" = pure (some (.builtin id))/\s.TypeIs v T/\wpAny (model X.prog X.w) X.A (getItem v (.ref sl)) (EP X pins σ Q) X.xe s
def tSl(r:V->Option Int->Option Int->Hp->VK->Prop)(te:TE)(tl th:TO):TE:=λσ H Q=>te σ H λx H1=>tl σ H1 λl H2=>th σ H2 λu H3=>r x l u H3 Q
theorem Qnz{r:V->Option Int->Option Int->Hp->VK->Prop}(hr:SlR X r)(he:PE X e te)(hl:PO X lo tl)(hu:PO X hi th):PE X (.Subscript e (.Slice lo hi none p2) pos) (tSl r te tl th):=by
 intro pins s σ H Q I h;refine Subscript_ (thn (he pins s σ H _ I h) λv s1 ⟨x,H1,I1,r1,q1⟩=>?_);refine wpAny_Slice (thn (hl pins s1 σ H1 _ I1 q1) λvl s2 ⟨l,H2,I2,pl,q2⟩=>thn (hu pins s2 σ H2 _ I2 q2) λvu s3 ⟨u,H3,I3,pu,q3⟩=>?_);rw[evalPart_none];refine Qp ?_
 have I4:Inv X pins σ H3 { s3 with heap:=s3.heap.push { cls:=.type "slice",data:=.fields #[vl,vu,.none] } }:=I3.kept (t':=s3.toks) λb ob q=>Qd _ q
 obtain⟨T,id,hT,ht,hg⟩:=hr pins { s3 with heap:=s3.heap.push { cls:=.type "slice",data:=.fields #[vl,vu,.none] } } σ H3 x v vl vu l u s3.heap.objs.size Q I4 r1 (Qwz ..) pl pu q3;show wpAny (model X.prog X.w) X.A (subscriptTail e (.Slice lo hi none p2) v (.ref s3.heap.objs.size)) (EP X pins σ Q) X.xe { s3 with heap:=s3.heap.push { cls:=.type "slice",data:=.fields #[vl,vu,.none] } };exact tail_any (ops:=[.ref s3.heap.objs.size,v]) ht hT hg (by with_unfolding_all rfl)
def QjL(xs:List V)(lo hi:Option Int):List V:=(xs.drop (HT.sIx xs.length 0 lo)).take (HT.sIx xs.length xs.length hi - HT.sIx xs.length 0 lo)
theorem QdI(xs:List V)(lo hi:Option Int):(QjL xs lo hi).length<=xs.length:=by
 unfold QjL;rw[Yz,Qp2];omega
def Qzr(K:PySem.W.Frag):V->Option Int->Option Int->Hp->VK->Prop:=λx lo hi H Q=>∃a xs,x=.ref a/\SqT K H a xs /\
 ¬(HT.sIx xs.length 0 lo=0/\HT.sIx xs.length xs.length hi=xs.length)/\∀p,H p=none->Q (.ref p) (upd H p (.tup (QjL xs lo hi)))
theorem Quh:SlR X (Qzr X.K):=by
 intro pins s σ H x v vl vu lo hi sl Q I rx hs pl pu h;obtain⟨a,xs,rfl,hx,hw,q⟩:=h;cases rx;obtain⟨its,r,ht,hz⟩:=I.tuple hx;have hlen:its.toArray.size=xs.length:=by rw[Qq];exact r.length.symm
 refine⟨"tuple",_,JD.lookup,ht.typeIs,?_⟩;refine HT.Qcy ht hs pl pu (by rw[hlen];exact hw) ?_ (by rw[hlen];exact hz)
 rw[hlen];refine⟨.ref s.heap.objs.size,_,I.laid (t':=s.toks) (o:=.tup (QjL xs lo hi)) (λb ob q=>Qd _ q) (Qi _) ?_,rfl,q _ (I.hok.fresh (Qi _))⟩;exact⟨Q1 (QdI xs lo hi) hz,_,(r.drop (HT.sIx xs.length 0 lo)).take (HT.sIx xs.length xs.length hi - HT.sIx xs.length 0 lo),TupN.new _ _⟩
def QxC(K:PySem.W.Frag):R2:=λx y H Q=>∃a b xs ys,x=.ref a/\y=.ref b/\SqT K H a xs/\SqT K H b ys/\xs≠[]/\xs.length+ys.length<=sizeLine /\
 (ys=[]->Q (.ref a) H)/\(ys≠[]->∀p,H p=none->Q (.ref p) (upd H p (.tup (xs++ys))))
theorem Vals.nil_iff{xs:List V}{us:List Value}(r:Vals xs us):us=[]↔xs=[]:=by
 cases r with
 |nil=>simp
 |cons _ _=>simp
theorem Qsq:OpR X (binaryOp .Add) (QxC X.K):=by
 intro pins s σ H x y v u Q I rx ry h;obtain⟨a,b,xs,ys,rfl,rfl,ha,hb,hx,hz,q1,q2⟩:=h;cases rx;cases ry;obtain⟨its,r1,p1,_⟩:=I.tuple ha;obtain⟨its2,r2,p2,_⟩:=I.tuple hb;refine HT.Qtq p1 p2 (λz=>hx (r1.nil_iff.mp z)) (λz=>⟨.ref a,H,I,rfl,q1 (r2.nil_iff.mp z)⟩) (λz=>?_) (by rw[<- r1.length,<- r2.length];exact hz);refine⟨.ref s.heap.objs.size,_,I.laid (t':=s.toks) (o:=.tup (xs++ys)) (λb ob q=>Qd _ q) (Qi _) ?_,rfl,q2 (λw=>z (r2.nil_iff.mpr w)) _ (I.hok.fresh (Qi _))⟩;exact⟨by rw[Qx];exact hz,_,r1.append r2,TupN.new _ _⟩
end
def ixN(n:Nat)(i:Int):Option Nat:=if 0<=i then(if i<n then some i.toNat else none) else if -(n:Int)<=i then some (i+n).toNat else none
def atI{α:Type}(xs:List α)(i:Int):Option α:=(ixN xs.length i).bind λj=>xs[j]?
theorem QlC{n:Nat}{i:Int}{j:Nat}(h:ixN n i=some j):seqIndex? i n=some j/\j<n /\ -(n:Int)<=i/\i<n:=by
 unfold ixN at h;by_cases h0:0<=i
 ·rw[if_pos h0] at h;by_cases h1:i<n
  ·rw[if_pos h1] at h;have e:i.toNat=j:=Qr h;exact⟨by rw[QiG h0 h1,e],by omega,by omega,h1⟩
  ·rw[if_neg h1] at h;cases h
 ·rw[if_neg h0] at h;by_cases h1 : -(n:Int)<=i
  ·rw[if_pos h1] at h;have e:(i+n).toNat=j:=Qr h;exact⟨by rw[QgD (by omega) h1,e],by omega,h1,by omega⟩
  ·rw[if_neg h1] at h;cases h
theorem Qhx{α:Type}{xs:List α}{i:Int}{v:α}(h:atI xs i=some v):∃j,seqIndex? i xs.length=some j/\xs[j]? = some v/\j<xs.length /\ -(xs.length:Int)<=i/\i<xs.length:=by
 unfold atI at h;cases e:ixN xs.length i with
 |none=>rw[e] at h;cases h
 |some j=>
  rw[e] at h;obtain⟨h1,h2,h3,h4⟩:=QlC e;exact⟨j,h1,h,h2,h3,h4⟩
theorem Ya{α:Type}{xs:List α}{j:Nat}{v:α}(h:xs[j]? = some v):atI xs (j:Int)=some v:=by
 have hj:j<xs.length:=(Qs.mp h).1;have e:ixN xs.length (j:Int)=some j:=by
  unfold ixN;rw[if_pos (by omega),if_pos (by omega)];simp
 unfold atI;rw[e];exact h
theorem QiB{α:Type}(xs:List α)(v:α):atI (xs++[v]) (-1)=some v:=by
 have hl:(xs++[v]).length=xs.length+1:=by simp
 have e:ixN (xs++[v]).length (-1)=some xs.length:=by
  unfold ixN;rw[hl,if_neg (by decide),if_pos (by omega)]
  congr 1
  omega
 unfold atI;rw[e];show(xs++[v])[xs.length]? = some v;simp
def Qhz(b:QV):Prop:=∀o i,subscripted b false o i=operate [o,i] (getItem o i)
def IxR(X:Cx)(r:R2):Prop:=
 ∀(value slice:QV)(pins:List (Addr×Obj))(s:Shared)(σ:St)(H:Hp)(x y:V)(v u:Value)(Q:VK),Inv X pins σ H s->RelV x v->RelV y u->r x y H Q ->
  subscripted slice false v u=operate [v,u] (getItem v u)->wpAny (model X.prog X.w) X.A (subscriptTail value slice v u) (EP X pins σ Q) X.xe s
def MtR(X:Cx)(id:String)(r:V->List V->Hp->VK->Prop):Prop:=
 ∀(pins:List (Addr×Obj))(s:Shared)(σ:St)(H:Hp)(x:V)(xs:List V)(v:Value)(us:List Value)(Q:VK),Inv X pins σ H s->RelV x v->Vals xs us->r x xs H Q ->
  wpAny (model X.prog X.w) X.A (call (.builtin id) (v::us)) (EP X pins σ Q) X.xe s
section
variable{X:Cx}{a b:QV}{ta tb:TE}{pos:Pos}
theorem QnB{r:R2}(hr:IxR X r)(ha:PE X a ta)(hb:PE X b tb)(hs:Qhz b):PE X (.Subscript a b pos) (tOp r ta tb):=by
 intro pins s σ H Q I h;exact Subscript_ (Qyl ha hb I h λv u s2 x y H2 I2 rx ry q=>hr a b pins s2 σ H2 x y v u Q I2 rx ry q (hs _ _))
def QwF(K:PySem.W.Frag):R2:=λx y H Q=>∃p xs i v,x=.ref p/\y=.int i/\SqL K H p xs/\atI xs i=some v/\Q v H
def QyE(K:PySem.W.Frag):R2:=λx y H Q=>∃p xs i v,x=.ref p/\y=.int i/\SqT K H p xs/\atI xs i=some v/\Q v H
theorem Qfj:IxR X (QwF X.K):=by
 intro value slice pins s σ H x y v u Q I rx ry h hs;obtain⟨p,xs,i,z,rfl,rfl,hq,he,q⟩:=h;cases rx;obtain⟨t,rfl⟩:=ry;obtain⟨its,r,pl,hz⟩:=I.list hq;obtain⟨j,h1,h2,h3,h4,h5⟩:=Qhx he;obtain⟨w,ew,rw'⟩:=r.get h2;have hl:=r.length;have hn:=Qer;have fin:EP X pins σ Q w s:=⟨z,H,I,rw',q⟩;by_cases h0:0<=i
 ·have hj:i.toNat=j:=by
   rw[QiG h0 h5] at h1;exact Qr h1
  exact item_listR pl.isList h0 (by omega) (by rw[hj];simpa using ew) fin hs
 ·have hj:(i+(its.toArray.size:Int)).toNat=j:=by
   rw[QgD (by omega) h4] at h1;rw[Qq,<- hl];exact Qr h1
  exact QoR (x:=w) pl.isList.typeIs QwW.lookup
   (QoQ (Q:=λr s'=>r=w/\EP X pins σ Q r s') pl.isList (by omega) (by rw[Qq]<;>omega) (by omega) (by rw[hj];simpa using ew) ⟨rfl,fin⟩) hs
theorem QvG:IxR X (QyE X.K):=by
 intro value slice pins s σ H x y v u Q I rx ry h hs;obtain⟨p,xs,i,z,rfl,rfl,hq,he,q⟩:=h;cases rx;obtain⟨t,rfl⟩:=ry;obtain⟨its,r,pl,hz⟩:=I.tuple hq;obtain⟨j,h1,h2,h3,h4,h5⟩:=Qhx he;obtain⟨w,ew,rw'⟩:=r.get h2;have hl:=r.length;have hn:=Qer;have fin:EP X pins σ Q w s:=⟨z,H,I,rw',q⟩;exact QoR (x:=w) pl.typeIs slot_tuple_getitem.lookup
  (getItem_tuple (j:=j) (Q:=λr s'=>r=w/\EP X pins σ Q r s') pl (by omega) (by omega) (by rw[Qq,<- hl];exact h1) (by simpa using ew) ⟨rfl,fin⟩) hs
theorem Qjc(its:List Value)(n j:Nat)(u:Value):Qb9 (·.setIfInBounds j u) { cls:=.type "list",data:=.seq its.toArray n }={ cls:=.type "list",data:=.seq (its.set j u).toArray n }:=by
 simp[Qb9]
theorem Inv.lst{pins:List (Addr×Obj)}{σ:St}{H:Hp}{s:Shared}{p:Addr}{xs:List V}(I:Inv X pins σ H s)(h:H p=some (.lst xs)) :
  ∃(its:List Value)(n:Nat),Vals xs its/\s.heap.get? p=some { cls:=.type "list",data:=.seq its.toArray n }/\xs.length<=sizeLine:=by
 obtain⟨z,its,n,r,e⟩:=I.hok p _ h;exact⟨its,n,r,e,z⟩
theorem Inv.lstUpd{pins:List (Addr×Obj)}{σ:St}{H:Hp}{s:Shared}{p:Addr}{xs ys:List V}{its its':List Value}{n n':Nat}{f:Obj->Obj}(I:Inv X pins σ H s)(h:H p=some (.lst xs))
  (ho:s.heap.get? p=some { cls:=.type "list",data:=.seq its.toArray n })(hf:f { cls:=.type "list",data:=.seq its.toArray n }={ cls:=.type "list",data:=.seq its'.toArray n' })(r:Vals ys its')(hz:ys.length<=sizeLine)(t:Nat) :
  Inv X pins σ (upd H p (.lst ys)) { s with heap:=s.heap.update p f,toks:=t }:=by
 have e:(s.heap.update p f).get? p=some { cls:=.type "list",data:=.seq its'.toArray n' }:=by
  rw[Y2 f ho (by rw[hf]<;>rfl),hf]
 refine I.write (x:=p) (e:=p) (by rw[h];trivial) (.inl rfl) (λb u hb q=>(Z5 _ _ (Qca hb)).trans q) ⟨_,e⟩ ?_
 exact⟨hz,its',n',r,e⟩
def QrA:V->V->V->Hp->(Hp->Prop)->Prop:=λo i v H Q=>∃p xs k j,o=.ref p/\i=.int k/\H p=some (.lst xs)/\ixN xs.length k=some j/\Q (upd H p (.lst (xs.set j v)))
theorem QeZ:Qyp X QrA:=by
 intro pins s σ H o i v ov iv u Q I ro ri rv h;obtain⟨p,xs,k,j,rfl,rfl,hp,hj,q⟩:=h;cases ro;obtain⟨t,rfl⟩:=ri;obtain⟨its,n,r,ho,hz⟩:=I.lst hp;obtain⟨h1,h2,h3,h4⟩:=QlC hj;have hl:=r.length;have hn:=Qer;have I':Inv X pins σ (upd H p (.lst (xs.set j v))) { s with heap:=s.heap.update p (Qb9 (·.setIfInBounds j u)) }:=
  I.lstUpd hp ho (Qjc its n j u) (r.set rv j) (by rw[ZN];exact hz) s.toks
 by_cases h0:0<=k
 ·have hk:k.toNat=j:=by
   rw[QiG h0 h4] at h1;exact Qr h1
  exact PySem.W.ki_setAt ho h0 (by omega) (by rw[Qq,<- hl];exact h4) (by rw[hk];exact⟨_,I',q⟩)
 ·have hk:(k+(its.toArray.size:Int)).toNat=j:=by
   rw[QgD (by omega) h3] at h1;rw[Qq,<- hl];exact Qr h1
  exact PySem.W.ki_setBack ho (by omega) (by rw[Qq,<- hl];exact h3) (by omega) (by rw[hk];exact⟨_,I',q⟩)
theorem Qf1(lo hi:Option Int)(n:Nat):(sliceBounds lo hi none n).1=((HT.sIx n 0 lo:Nat):Int)/\(sliceBounds lo hi none n).2.1=((HT.sIx n n hi:Nat):Int)/\(sliceBounds lo hi none n).2.2=1:=by
 refine⟨?_,?_,rfl⟩
 ·cases lo with
  |none=>simp[sliceBounds,HT.sIx]
  |some i=>
   simp only[sliceBounds,HT.sIx,QmM,show(1:Int) > 0 by decide,if_true];by_cases h:i<0
   ·simp only[h,if_true]<;>omega
   ·simp only[h,if_false]<;>omega
 ·cases hi with
  |none=>simp[sliceBounds,HT.sIx]
  |some i=>
   simp only[sliceBounds,HT.sIx,QmM,show(1:Int) > 0 by decide,if_true];by_cases h:i<0
   ·simp only[h,if_true]<;>omega
   ·simp only[h,if_false]<;>omega
theorem QeY(its:List Value)(lo hi:Option Int):slicePick its.toArray lo hi none=((its.drop (HT.sIx its.length 0 lo)).take (HT.sIx its.length its.length hi - HT.sIx its.length 0 lo)).toArray:=by
 obtain⟨h1,h2,h3⟩:=Qf1 lo hi its.toArray.size;unfold slicePick;rw[h1,h2,h3];simp only[sliceRange_one,pick_run,Qq]<;>rfl
def Qzs(K:PySem.W.Frag):V->Option Int->Option Int->Hp->VK->Prop:=λx lo hi H Q=>∃a xs,x=.ref a/\SqL K H a xs/\∀p,H p=none->Q (.ref p) (upd H p (.lst (QjL xs lo hi)))
theorem Qrq:SlR X (Qzs X.K):=by
 intro pins s σ H x v vl vu lo hi sl Q I rx hs pl pu h;obtain⟨a,xs,rfl,hx,q⟩:=h;cases rx;obtain⟨its,r,ht,hz⟩:=I.list hx;have hlen:=r.length;refine⟨"list",_,QwW.lookup,ht.isList.typeIs,?_⟩;refine wpAny_getItem_list_slice ht.isList hs pl pu .none (by simp) ?_ (by rw[Qq]<;>omega)
 rw[QeY,<- hlen];refine⟨.ref s.heap.objs.size,_,I.laid (t':=s.toks) (o:=.lst (QjL xs lo hi)) (λb ob q=>Qd _ q) (Qi _) ?_,rfl,q _ (I.hok.fresh (Qi _))⟩;exact⟨Q1 (QdI xs lo hi) hz,_,0,(r.drop (HT.sIx xs.length 0 lo)).take (HT.sIx xs.length xs.length hi - HT.sIx xs.length 0 lo),Qv _ rfl⟩
theorem Qa4:CallR X (.builtin "len") (λxs H Q=>∃p ys,xs=[.ref p]/\(SqL X.K H p ys∨SqT X.K H p ys)/\Q (.int ys.length) H):=by
 intro pins s σ H xs us Q I r h;obtain⟨p,ys,rfl,hq,q⟩:=h;obtain⟨u,rfl,rx⟩:=vals1 r;cases rx;have hn:=Qer;rcases hq with hq | hq
 ·obtain⟨its,r',pl,hz⟩:=I.list hq;have hlen:=r'.length;exact Calls.call_len_list pl.isList (by simp only[Qq]<;>omega) ⟨.int ys.length,H,I.tok _,⟨s.toks+1,by rw[Qq,hlen]⟩,q⟩
 ·obtain⟨its,r',pl,hz⟩:=I.tuple hq;have hlen:=r'.length;exact len_tuple pl (by simp only[Qq]<;>omega) ⟨.int ys.length,H,I.tok _,⟨s.toks+1,by rw[Qq,hlen]⟩,q⟩
theorem Qfv:CallR X (.type "tuple") (λxs H Q=>∃p ys,xs=[.ref p]/\((SqL X.K H p ys/\∀l,H l=none->Q (.ref l) (upd H l (.tup ys)))∨(SqT X.K H p ys/\Q (.ref p) H))):=by
 intro pins s σ H xs us Q I r h;obtain⟨p,ys,rfl,h⟩:=h;obtain⟨u,rfl,rx⟩:=vals1 r;cases rx;rcases h with⟨hq,q⟩ | ⟨hq,q⟩
 ·obtain⟨its,r',pl,hz⟩:=I.list hq;have hlen:=r'.length;refine call_tuple_list pl.isList (λh' kp=>?_) (by simp only[Qq]<;>omega);have I1:Inv X pins σ H { s with heap:=h' }:=I.kept (t':=s.toks) kp;have I2:Inv X pins σ (upd H h'.objs.size (.tup ys)) { s with heap:=h'.push { cls:=.type "tuple",data:=.seq its.toArray } }:=
   I1.laid (t':=s.toks) (λb o e=>Qd _ e) (Qi _) (show ObjOk X.prog X.w _ _ _ (.tup ys) from⟨hz,its,r',TupN.new _ _⟩)
  exact⟨.ref h'.objs.size,_,I2,rfl,q _ (I1.hok.fresh (Qi _))⟩
 ·obtain⟨its,r',pl,hz⟩:=I.tuple hq;exact call_tuple_same pl ⟨.ref p,H,I,rfl,q⟩
def tyV(K:PySem.W.Frag)(T:String)(x:V)(H:Hp):Prop:=match x with
 |.str _=>T = "str"
 |.int _=>T = "int"
 |.ref p=>(T = "list" /\ ∃xs,SqL K H p xs)∨(T = "tuple" /\ ∃o,K.lookup p=some o/\o.cls=.type "tuple" /\ o.dict=none) ∨
   (T = "dict" /\ ((∃kvs,H p=some (.dK kvs))∨∃kvs,H p=some (.dT kvs)))∨(T = "set" /\ ∃S n,H p=some (.set S n))
 |_=>False
theorem Qt5{pins:List (Addr×Obj)}{σ:St}{H:Hp}{s:Shared}{T:String}{x:V}{v:Value}(I:Inv X pins σ H s)(r:RelV x v)(ty:tyV X.K T x H) :
  s.TypeIs v T/\∀a,v=.ref a->∃ob,s.heap.get? a=some ob/\ob.dict=none:=by
 cases x with
 |str z=>
  obtain⟨t,rfl⟩:=r;cases(show T = "str" from ty);exact⟨typeIs_str s z t,λ_ e=>nomatch e⟩
 |int i=>
  obtain⟨t,rfl⟩:=r;cases(show T = "int" from ty);exact⟨QwV s i t,λ_ e=>nomatch e⟩
 |ref p=>
  cases r;rcases ty with⟨rfl,xs,hq⟩ | ⟨rfl,o,hk,hc,hd⟩ | ⟨rfl,hk⟩ | ⟨rfl,S,n,hk⟩
  ·obtain⟨its,_,pl,_⟩:=I.list hq;refine⟨pl.isList.typeIs,λa e=>?_⟩;cases e;obtain⟨o,n,e,c,hd,_⟩:=pl;exact⟨o,e,hd⟩
  ·refine⟨⟨o,I.kIn p o hk,hc⟩,λa e=>?_⟩;cases e;exact⟨o,I.kIn _ o hk,hd⟩
  ·have z:∃o,s.heap.get? p=some o/\o.ExactDict:=by
    rcases hk with⟨kvs,hk⟩ | ⟨kvs,hk⟩
    ·obtain⟨_,_,_,_,o,_,_,e,ex,_⟩:=I.hok p _ hk;exact⟨o,e,ex⟩
    ·obtain⟨_,_,_,_,o,_,_,e,ex,_⟩:=I.hok p _ hk;exact⟨o,e,ex⟩
   obtain⟨o,e,ex⟩:=z;refine⟨⟨o,e,ex.1⟩,λa e2=>?_⟩;cases e2;exact⟨o,e,ex.2.1⟩
  ·obtain⟨o,_,_,_,e,ex,_⟩:=I.hok p _ hk;refine⟨⟨o,e,ex.1⟩,λa e2=>?_⟩;cases e2;exact⟨o,e,ex.2.1⟩
 |_=>exact Zg ty
def Qyt(K:PySem.W.Frag)(T:String)(r:V->List V->Hp->VK->Prop)(to:TE):TE:=λσ H Q=>to σ H λx H1=>tyV K T x H1/\r x [] H1 Q
variable{o e:QV}{es:List QV}{to:TE}{t:TA}{name:Str}{apos cpos:Pos}{T id:String}{r:V->List V->Hp->VK->Prop}
theorem QuO(pa:PlainAttrs T)(slot:Slot T name id)(hty:typeOf (.builtin id)=pure (.type "method_descriptor"))(hm:MtR X id r)(ho:PE X o to)
  (hbase:attributeBase o name X.env (eval o X.env)=eval o X.env:=by rfl)(hline:(apos.endLine == cpos.line)=true:=by rfl):PE X (.Call (.Attribute o name apos) [] [] cpos) (Qyt X.K T r to):=by
 intro pins s σ H Q I h;refine wpAny_Call_method0_late hbase hline (thn (ho pins s σ H _ I h) λv s1 ⟨x,H1,I1,r1,ty,q1⟩=>?_);obtain⟨h1,h2⟩:=Qt5 I1 r1 ty;exact⟨T,id,pa,slot,hty,h1,h2,Calls.callWith_builtin rfl (PySem.evalArgs_none (hm pins s1 σ H1 x [] v [] Q I1 r1 .nil q1))⟩
end
def MtM(X:Cx)(id:String)(r:V->List V->Hp->VK->Prop):Prop:=
 ∀(pins:List (Addr×Obj))(s:Shared)(σ:St)(H:Hp)(x:V)(xs:List V)(v:Value)(us:List Value)(Q:VK),Inv X pins σ H s->RelV x v->Vals xs us->r x xs H Q ->
  wpAny (model X.prog X.w) X.A (call (.builtin id) (v::us)) (EP X pins σ Q) X.xe s
theorem Vals.one:∀{x:V}{us:List Value},Vals [x] us->∃u,us=[u]/\RelV x u
 |_,_,.cons r .nil=>⟨_,rfl,r⟩
theorem Vals.zero:∀{us:List Value},Vals [] us->us=[]
 |_,.nil=>rfl
theorem Vals.dropLast{xs:List V}{us:List Value}(h:Vals xs us):Vals xs.dropLast us.dropLast:=by
 induction h with
 |nil=>exact .nil
 |cons r t ih=>
  cases t with
  |nil=>exact .nil
  |cons q t'=>exact .cons r ih
theorem Vals.rep{xs:List V}{us:List Value}(h:Vals xs us):∀k:Nat,Vals (QJ k xs).flatten (QJ k us).flatten
 |0=>.nil
 |k+1=>by
  rw[Ja,Ja,JS,JS];exact Vals.append h (Vals.rep h k)
theorem Qji{α:Type}(l:List α):l.eraseIdx (l.length - 1)=l.dropLast:=by
 induction l with
 |nil=>rfl
 |cons a r ih=>
  cases r with
  |nil=>rfl
  |cons b r=>
   have e:(a::b::r).length - 1=((b::r).length - 1)+1:=by
    have h1:(a::b::r).length=r.length+2:=rfl;have h2:(b::r).length=r.length+1:=rfl;omega
   rw[e,List.eraseIdx_cons_succ,ih]
   all_goals rfl
theorem foldl_rep(its:List Value):∀(k:Nat)(acc:List Value),
  QoV (λx1 x2=>x1++x2) acc.toArray (QJ k its.toArray)=(acc++(QJ k its).flatten).toArray
 |0,acc=>by simp
 |k+1,acc=>by
  have e:acc.toArray++its.toArray=(acc++its).toArray:=by simp
  have e2:(acc++its)++(QJ k its).flatten=acc++(QJ (k+1) its).flatten:=by
   rw[Ja,JS,QoW]
  rw[<- e2,<- foldl_rep its k (acc++its),<- e,Ja,QfI]
section
variable{X:Cx}{pins:List (Addr×Obj)}{σ:St}{H:Hp}{s:Shared}{l b:Addr}{xs ys zs:List V}
theorem Inv.lset{its its':List Value}{n:Nat}{f:Array Value->Array Value}{t':Nat}(I:Inv X pins σ H s)(hH:H l=some (.lst xs))
  (e:s.heap.get? l=some { cls:=.type "list",data:=.seq its.toArray n })(hf:f its.toArray=its'.toArray)(hv:Vals ys its')(hz:ys.length<=sizeLine) :
  Inv X pins σ (upd H l (.lst ys)) { s with heap:=s.heap.update l (Qb9 f),toks:=t' }:=by
 have q:=PySem.IsL.update e f;rw[hf] at q;refine I.write (x:=l) (e:=l) (by rw[hH];exact trivial) (.inl rfl) (λb' u hb hu=>(Z5 s.heap (Qb9 f) (Qca hb)).trans hu) ⟨_,q⟩ ?_
 exact⟨hz,its',_,hv,q⟩
theorem Inv.lnew{its:List Value}{t':Nat}(I:Inv X pins σ H s)(hv:Vals ys its)(hz:ys.length<=sizeLine) :
  Inv X pins σ (upd H s.heap.objs.size (.lst ys)) { s with heap:=s.heap.push { cls:=.type "list",data:=.seq its.toArray },toks:=t' }:=
 I.laid (λ_ _ q=>Qd _ q) (Qi _) ⟨hz,its,0,hv,Qv _ rfl⟩
theorem Inv.fresh(I:Inv X pins σ H s):H s.heap.objs.size=none:=I.hok.fresh (Qi _)
theorem Inv.lstM(I:Inv X pins σ H s)(hH:H l=some (.lst xs)):xs.length<=sizeLine/\∃(its:List Value)(n:Nat),Vals xs its/\xs.length=its.length/\s.heap.get? l=some { cls:=.type "list",data:=.seq its.toArray n }:=by
 obtain⟨z,its,n,r,e⟩:=I.hok l _ hH;exact⟨z,its,n,r,r.length,e⟩
theorem Qoi{n:Nat}(h:n<=sizeLine):Qaf n=false:=by
 unfold Qaf;exact decide_eq_false (by omega)
end
section
variable{X:Cx}
def QrD:V->List V->Hp->VK->Prop:=λx vs H Q=>∃l xs y,x=.ref l/\vs=[y]/\H l=some (.lst xs)/\xs.length<sizeLine/\Q .non (upd H l (.lst (xs++[y])))
theorem Qlo:MtM X "list.append" QrD:=by
 intro pins s σ H x vs v us Q I rx rv h;obtain⟨l,xs,y,rfl,rfl,hH,hz,q⟩:=h;cases rx;obtain⟨u,rfl,ru⟩:=rv.one;obtain⟨z,its,n,r,hl,e⟩:=I.lstM hH;refine Qmy F.slot_list_append ⟨_,e,rfl⟩ F.entry_list_append (F.args_list_append_2 _ _) (PySem.list_append l its.toArray n u (by rw[Qq];omega)) ⟨e,?_⟩;refine⟨.non,_,I.lset (its':=its++[u]) hH e (by simp) (r.append (.cons ru .nil)) ?_,rfl,q⟩;rw[Qx,QbO];omega
def QyA:V->List V->Hp->VK->Prop:=λx vs H Q=>∃l xs y,x=.ref l/\vs=[]/\H l=some (.lst xs)/\xs[xs.length - 1]? = some y/\Q y (upd H l (.lst xs.dropLast))
theorem Qvt:MtM X "list.pop" QyA:=by
 intro pins s σ H x vs v us Q I rx rv h;obtain⟨l,xs,y,rfl,rfl,hH,hy,q⟩:=h;cases rx;have hus:=rv.zero;subst hus;obtain⟨z,its,n,r,hl,e⟩:=I.lstM hH;obtain⟨u,hu,ru⟩:=r.get hy;have hy':its.toArray[its.toArray.size - 1]? = some u:=by
  show its.toArray[its.length - 1]? = some u;rw[<- Array.getElem?_toList,<- hl];exact hu
 refine Qmy F.slot_list_pop ⟨_,e,rfl⟩ F.entry_list_pop (F.args_list_pop_1 _) (MeetsSeq.list_pop_last l its.toArray n u hy' (by rw[Qq];omega)) ⟨e,?_⟩;refine⟨y,_,I.lset (its':=its.dropLast) hH e ?_ r.dropLast ?_,ru,q⟩
 ·show its.toArray.eraseIdxIfInBounds (its.toArray.size - 1)=its.dropLast.toArray;rw[Qq,List.eraseIdxIfInBounds_toArray,Qji]
 ·rw[List.length_dropLast];omega
def QyK:R2:=λx y H Q=>∃l b xs zs,x=.ref l/\y=.ref b/\H l=some (.lst xs)/\H b=some (.lst zs)/\xs.length+zs.length<=sizeLine/\∀p,H p=none->Q (.ref p) (upd H p (.lst (xs++zs)))
theorem Qvi:OpR X (binaryOp .Add) QyK:=by
 intro pins s σ H x y v u Q I rx ry h;obtain⟨l,b,xs,zs,rfl,rfl,hH,hB,hz,q⟩:=h;cases rx;cases ry;obtain⟨z,its,n,r,hl,e⟩:=I.lstM hH;obtain⟨z2,its2,n2,r2,hl2,e2⟩:=I.lstM hB;refine PySem.P.add_list e e2 ?_ (by rw[Qq,Qq];omega)
 have ea:its.toArray++its2.toArray=(its++its2).toArray:=by simp
 rw[ea];exact⟨.ref _,_,I.lnew (t':=s.toks) (r.append r2) (by rw[Qx];omega),rfl,q _ I.fresh⟩
def Qyz:R2:=λx y H Q=>∃l k xs,x=.ref l/\y=.int k/\H l=some (.lst xs) /\ -(2^63)<=k/\k<2^63/\xs.length*k.toNat<=sizeLine /\
 ∀p,H p=none->Q (.ref p) (upd H p (.lst (QJ k.toNat xs).flatten))
theorem QsS{α:Type}(xs:List α)(k:Nat):(QJ k xs).flatten.length=k*xs.length:=by
 induction k with
 |zero=>simp
 |succ k ih=>rw[Ja,JS,Qx,ih,QjQ,Nat.add_comm]
theorem Qu6:OpR X (binaryOp .Mult) Qyz:=by
 intro pins s σ H x y v u Q I rx ry h;obtain⟨l,k,xs,rfl,rfl,hH,h1,h2,hz,q⟩:=h;cases rx;obtain⟨t,rfl⟩:=ry;obtain⟨z,its,n,r,hl,e⟩:=I.lstM hH;have hlen:its.toArray.size*k.toNat<=sizeLine:=by rw[Qq,<- hl];exact hz
 have hcap:¬its.toArray.size*k.toNat > (2^63 - 1) / 8:=by
  have:(sizeLine:Nat)<=(2^63 - 1) / 8:=by decide
  omega
 have hfit:¬(!Builtin.List.listFitsIndex k)=true:=by
  rw[fitsIndex_both h1 h2];exact Qu
 have hlong:¬Qaf (its.toArray.size*k.toNat)=true:=by
  rw[Qoi hlen];exact Qu
 have hnew:QoV (λx1 x2=>x1++x2) #[] (QJ (if its.toArray.isEmpty=true then 0 else k.toNat) its.toArray)=(QJ k.toNat its).flatten.toArray:=by
  have f0:∀m:Nat,QoV (λx1 x2=>x1++x2) #[] (QJ m its.toArray)=(QJ m its).flatten.toArray:=λm=>by
   have:=foldl_rep its m [];rw[QfD] at this;exact this
  rw[f0];cases its with
  |nil=>simp
  |cons a r'=>rw[if_neg (by simp)]
 refine wpAny_binaryOp_repeat_ref (T := "list") (U := "int") (by decide) ⟨_,e,rfl⟩ (λs'=>QwV s' k t) noFill_list_mul F.fills_int_mul Qxb repeat_list F.slot_int_index.lookup
  (Qmy Qxb (QwV s k t) F.entry_int_rmul (F.args_int_rmul_2 _ _) (int___rmul___int_list k t l its.toArray n)
   ⟨e,rfl,⟨_,e,rfl⟩,Qmy F.slot_list_mul ⟨_,e,rfl⟩ F.entry_list_mul (F.args_list_mul_2 _ _) (AutoListH.list___mul___list_int_3 l its.toArray n k t hfit hcap hlong) ⟨e,?_⟩⟩)
 rw[hnew];exact⟨.ref _,_,I.lnew (t':=s.toks) (r.rep k.toNat) (by rw[QsS,Nat.mul_comm];exact hz),rfl,q _ I.fresh⟩
end
section
variable{prog:QN}{w:Jj}{A:Jh}{E:Value->Shared->Prop}{s:Shared}
end
section
variable{X:Cx}
end
end L2
namespace Att
open PySem.W PySem.Calls
theorem Qdy{P:Params}{h:J8}:∀(ns:List Int)(vs:List Value),WellAll P h vs (ns.map WData.int)->Qbp vs ns:=by
 intro ns;induction ns with
 |nil=>
  intro vs w;rw[Qjz] at w;cases w;exact .nil
 |cons n ns ih=>
  intro vs w;rw[Jl] at w;cases w with
  |cons a b=>
   cases a;exact .cons _ _ (ih _ b)
theorem Qkn{l:OpenLaw}{n:Nat}(hn:l.most=some n){P:Params}{h:J8}{args:List WData}{vals:List Value}
  (hpre:l.row.toRowW.claim.pre args=true)(hwl:WellAll P h vals args) :
  ∃a vs ns,vals=[Zl a]/\args=[WData.list (ns.map WData.int)]/\h.get? a=some { cls:=.type "list",data:=.seq vs.toArray }/\Qbp vs ns/\ns.length<=n:=by
 have hsh:WShape.hasAll [] args [.list .int]=true:=(pre_splitW hpre).1;have hc:l.pre.holds [] { args:=args }=true:=(pre_splitW hpre).2;obtain⟨d,r,rfl,h1,h2⟩:=hasAllW_cons hsh;obtain rfl:=hasAllW_nil h2;obtain⟨xs,rfl,h3⟩:=hasW_list h1;obtain⟨ns,rfl⟩:=items_int h3;have hlen:ns.length<=n:=by
  unfold OpenLaw.pre at hc;have h4:(WTm.not (.lt (.lit (.int (n:Int))) (.len (.arg 0)))).holds [] { args:=[.list (ns.map .int)] }=true:=by
   have h4:=(holds_andW hc).1;rw[hn] at h4;exact h4
  have h5:=condW_of h4 (w_not (w_lt w_lit (w_len_list (w_arg rfl))));rw[Qe] at h5;refine Nat.le_of_not_lt λq=>?_
  have q':(n:Int)<((ns.length:Nat):Int):=by omega
  first
   |(rw[decide_eq_true q'] at h5;exact absurd h5 (by decide))
   |(simp at h5;omega)
 cases hwl with
 |cons w1 w2=>
  cases w2;cases w1 with
  |list ho hall=>exact⟨_,_,ns,rfl,rfl,ho,Qdy ns _ hall,hlen⟩
theorem QkN(l:OpenLaw)(args:List WData):l.row.toRowW.claim.post args (.bool true) args=true:=
 postW_of (r:=l.row.toRowW) (X:=(true == true))
  (show QwX [] (.bool true) .bool=true by first | rfl | decide | simp[QwX,WShape.arms,WShape.armsAll])
  (show(WTm.eq .res (.lit (.bool true))).value [] { args:=args,res:=some (.bool true),after:=args }=some (.bool (true == true)) from w_eq_bool (w_res rfl) w_lit) rfl
theorem Qhw{l:OpenLaw}{n:Nat}{q:QN}{loose:List Str}{XP:(Str->Option Value)->J8->Prop}{YP:Jj->J8->Prop}{d:DefRec}
  (hn:l.most=some n)(hdf:d.params.defaults=[])
  (call:∀(w:Jj)(s₀ s₁:Shared)(mg mb:Str->Option Value)(fa:Addr)(o:Obj)(pm cd doc:Value)(a:Addr)(vs:List Value)(ns:List Int),
   Ground q loose [] XP w s₀ mg mb s₁.heap->YP w s₁.heap ->
   s₁.heap.get? fa=some o->o.data=.func (docDef d.name d.params d.body d.scope pm cd doc)->s₁.heap.CodeRec cd d.name->mg d.name=some (.ref fa) ->
   s₁.heap.get? a=some { cls:=.type "list",data:=.seq vs.toArray }->Qbp vs ns->ns.length<=n->s₁.gens=#[] ->
   codeAny (model l.prog w) callerA (.call (.ref fa) ⟨[.ref a],[]⟩) (λr s'=>r=.ok (.ret (.bool true))/\OldK s₁.heap s'.heap/\s'.os=s₁.os/\QdX s'.gens) s₁) :
  WalkO q loose XP YP l.row.toRowW d [] (λf vs=>PySem.call f vs):=by
 intro w s₀ s₁ mg mb G Y fa o pm cd doc dV kV ho hd hcd hD hmg hg args vals as hpre hlay hrd hwl hlo;obtain rfl:dV=.none:=Dflts.none hD hdf;obtain rfl:kV=.none:=Dflts.noKw hD;obtain⟨a,vs,ns,rfl,rfl,hobj,hints,hlen⟩:=Qkn hn hpre hwl;refine enter_call (QcV (call w s₀ s₁ mg mb fa o pm cd doc a vs ns G Y ho (fd_plain hd) hcd hmg hobj hints hlen hg) λr s' hq=>?_);obtain⟨rfl,h2,h3,h4⟩:=hq;exact⟨.inl ⟨.bool true,.bool true,[],rfl,λ_=>rfl,.bool true,QkN l _,λ_=>⟨Qw8,λ_ hm=>(nomatch hm)⟩⟩,h2,h3,h4⟩
section
variable{prog:QN}{w:Jj}{A:Jh}{E:Value->Shared->Prop}{s:Shared}{K:Frag}
end
end Att
namespace L2
theorem QfQ:∀{vs:List Value}{ns:List Int},Qbp vs ns->Vals (ns.map V.int) vs
 |_,_,.nil=>.nil
 |_,_,.cons n t h=>.cons ⟨t,rfl⟩ (QfQ h)
def Jp(s:ZK):QeQ:=match s with
 |.FunctionDef _ a _ _ _ _ _ _ _ _=>a
 |_=>{ posonlyargs:=[],args:=[],vararg:=none,kwonlyargs:=[],kw_defaults:=[],kwarg:=none,defaults:=[] }
def Je(s:ZK):List ZK:=match s with
 |.FunctionDef _ _ b _ _ _ _ _ _ _=>b
 |_=>[]
def Ql(s:ZK):Yl:=match s with
 |.FunctionDef _ _ _ _ _ _ sc _ _ _=>sc
 |_=>{ kind:=.function,names:=[],isGenerator:=false,isCoroutine:=false }
abbrev CX0:CXT:=λ_ _ _ _ _ _=>False
abbrev E0:XK:=λ_ _ _=>False
structure Fun (K:PySem.W.Frag) (x qual:Str) (st:ZK) (f:Addr) (fd:QK):Prop where
 ex:∃(oc:Value)(od:Option Addr)(kV doc pm:Value)(an:Option Addr)(cdv ct:Value)(osl:Array (Option Value)),
  fd=PySem.W.fnOf x qual (Jp st) (Je st) (Ql st) .none kV doc pm an cdv ct/\K.lookup f=some ⟨oc,od,.func fd,osl⟩/\PySem.W.codeIn K cdv qual=true
 kp:PySem.W.keepIn K (.ref f)=true
section
variable{P:QN}{w:Jj}{K:PySem.W.Frag}{mg:Str->Option Value}{base:J8}
theorem Fun.ok{x qual:Str}{st:ZK}{f:Addr}{fd:QK}{N ps:List Str}{k:Nat}{sp:Sp}(F:Fun K x qual st f fd)(S:Ji N ps (Ql st))(len:∀vs H Q E,sp vs H Q E->vs.length=ps.length)
  (hbody:∀(cdv:Value)(A:Jh)(outer:List Env)(s:Shared)(H:Hp)(vs:List V)(Q:VK)(E:XK),Room k (A.deeper (envOfC qual (Ql st) s.heap.objs.size f cdv))->sp vs H Q E ->
   ∃t,PSs (Qjl CX0 P w K mg base N qual (Ql st) f cdv A outer s H E).nox (Je st) t/\t { nx:=λ_ H'=>Q .non H',rt:=Q } (start N vs) H):FnOk P w K mg base CX0 (k+1) f fd ps sp:=by
 obtain⟨oc,od,kV,doc,pm,an,cdv,ct,osl,rfl,lk,hcd⟩:=F.ex;refine QvP lk hcd S len λA outer s H vs Q E hr hsp=>?_
 obtain⟨t,h,q⟩:=hbody cdv A outer s H vs Q E hr hsp;exact⟨t,h.nox,q⟩
theorem Fun.binds{x qual:Str}{st:ZK}{f:Addr}{fd:QK}{ps:List Str}(F:Fun K x qual st f fd)
  (h:∀(kV doc pm:Value)(an:Option Addr)(cdv ct:Value)(us:List Value),us.length=ps.length->bindArgs (PySem.W.fnOf x qual (Jp st) (Je st) (Ql st) .none kV doc pm an cdv ct) ⟨us,[]⟩=pure (ps.zip us)):Binds K fd ps []:=by
 obtain⟨oc,od,kV,doc,pm,an,cdv,ct,osl,rfl,lk,hcd⟩:=F.ex;exact .all (h kV doc pm an cdv ct)
theorem JZ{x qual:Str}{st:ZK}{f:Addr}{oc:Value}{od an:Option Addr}{osl:Array (Option Value)}{kV doc pm cdv ct:Value}(l:K.lookup f=some ⟨oc,od,.func (PySem.W.fnOf x qual (Jp st) (Je st) (Ql st) .none kV doc pm an cdv ct),osl⟩)
  (c:PySem.W.codeIn K cdv qual=true)(k:PySem.W.keepIn K (.ref f)=true):Fun K x qual st f (PySem.W.fnOf x qual (Jp st) (Je st) (Ql st) .none kV doc pm an cdv ct):=⟨⟨oc,od,kV,doc,pm,an,cdv,ct,osl,rfl,l,c⟩,k⟩
end
section
variable{X:Cx}
theorem pv(i:Nat){x:Str}{pos:Pos}(hN:X.N[i]? = some x:=by rfl)(hv:Vis X.env.scope x:=by first | exact Q4 rfl | exact Q0 (Q4 rfl) | exact Q0 (Q0 rfl))(hd:(x == ("__debug__" : Str))=false:=by decide)
  (hcd:(x == ("__classdict__" : Str))=false:=by decide):PE X (.Name x pos) (Qj8 i):=QkP hN hv hd hcd
end
theorem QyP{A B:Prop}(h:B):if false=true then A else B:=by
 rw[if_neg Qu];exact h
theorem Qx3{A B:Prop}(h:A):if true=true then A else B:=by
 rw[if_pos rfl];exact h
theorem QyQ{c A B:Prop}[Decidable c](h1:c->A)(h2:¬c->B):if c then A else B:=by
 by_cases h:c
 ·rw[if_pos h];exact h1 h
 ·rw[if_neg h];exact h2 h
def Same(H H':Hp):Prop:=∀b o,H b=some o->H' b=some o
theorem Same.refl(H:Hp):Same H H:=λ_ _ h=>h
theorem Same.trans{H H1 H2:Hp}(a:Same H H1)(b:Same H1 H2):Same H H2:=λc o h=>b c o (a c o h)
theorem Same.free{H H':Hp}(e:Same H H'){l:Addr}(h:H' l=Qwt):H l=Qwt:=by
 cases q:H l with
 |none=>rfl
 |some o=>
  rw[e l o q] at h;cases h
theorem Same.seq{K:PySem.W.Frag}{H H':Hp}{a:Addr}{xs:List V}(e:Same H H')(h:SqL K H a xs):SqL K H' a xs:=by
 rcases h with(h | ⟨o,h⟩) | h
 ·exact .inl (.inl (e _ _ h))
 ·exact .inl (.inr ⟨o,e _ _ h⟩)
 ·exact .inr h
end L2
set_option maxHeartbeats 4000000
namespace Rt
abbrev le (c:Y3->Y3->Bool) (x y:Y3):Prop:=c y x=false
section
variable{c:Y3->Y3->Bool}
end
structure SB (κ:QeF) (a₀:Array Y3) (st:SortSt):Prop where
 perm:(arrOf st).Perm a₀
 kind:kindOf st=κ
 failed:failedOf st=none
theorem SB.size{κ:QeF}{a₀:Array Y3}{st:SortSt}(h:SB κ a₀ st):(arrOf st).size=a₀.size:=h.perm.size_eq
section
variable{prog:QN}{w:Jj}{A:Jh}{E:Value->Shared->Prop}{s:Shared}{a₀:Array Y3}{κ:QeF}{c:Y3->Y3->Bool}
end
section
variable{c:Y3->Y3->Bool}
variable{a b r:Array Y3}{i j k:Nat}
end
structure Sm (st st':SortSt):Prop where
 kind:kindOf st'=kindOf st
 arr:arrOf st'=arrOf st
 pend:pendingOf st'=pendingOf st
 failed:failedOf st'=failedOf st
section
variable{prog:QN}{w:Jj}{A:Jh}{E:Value->Shared->Prop}{s:Shared}{a₀:Array Y3}{κ:QeF}{c:Y3->Y3->Bool}
end
section
variable{c:Y3->Y3->Bool}
variable{a b r:Array Y3}{i j t:Nat}
end
section
variable{prog:QN}{w:Jj}{A:Jh}{E:Value->Shared->Prop}{s:Shared}{a₀:Array Y3}{κ:QeF}{c:Y3->Y3->Bool}
end
section
variable{c:Y3->Y3->Bool}
end
section
variable{prog:QN}{w:Jj}{A:Jh}{E:Value->Shared->Prop}{s:Shared}{a₀:Array Y3}{κ:QeF}{c:Y3->Y3->Bool}
end
def Qwl:List (Nat×Nat)->Nat->Nat->Prop
 |[],s,e=>s=e
 |(s',n)::r,s,e=>s'=s/\1<=n/\Qwl r (s+n) e
def sn(p:Nat×Nat×Nat):Nat×Nat:=(p.1,p.2.1)
section
variable{prog:QN}{w:Jj}{A:Jh}{E:Value->Shared->Prop}{s:Shared}{a₀:Array Y3}{κ:QeF}{c:Y3->Y3->Bool}
end
end Rt
namespace L2
def blk(X:Cx)(M:List Str)(scope:Yl)(cl:List (Str×Addr))(ex:List Addr)(s3:Shared)(H3:Hp)(C:Addr):Cx where
 prog:=X.prog
 w:=X.w
 K:=X.K
 mg:=X.mg
 base:=X.base
 A:=X.A
 N:=M
 s₀:=s3
 H₀:=H3
 env:=compEnvC scope cl C X.env
 outer:=X.stack
 stack:=X.stack
 ex:=ex
 fn:=λ_=>false
 calm:=X.calm
 pn:=[]
 xe:=λ_ _=>False
def Qbj(env:Env):List (Str×YK)->List (Str×Addr)->List (Str×Addr)
 |[],acc=>acc
 |(n,k)::r,acc=>Qbj env r (if k=.free then(n,(env.cells.lookup n).getD 0)::acc else acc)
theorem Qhp{env:Env}:∀(l:List (Str×YK))(acc:List (Str×Addr)),(∀x∈l,x.2=.free->∃c,env.cells.lookup x.1=some c) ->
  (forIn (m:=Sem) l acc λx cs=>(if(x.2 == Q7)=true then do let a <- cellOf env x.1;pure (Zo ((x.1,a)::cs)) else pure (Zo cs)))=pure (Qbj env l acc)
 |[],acc,_=>rfl
 |(n,k)::r,acc,h=>by
  rw[QfH];by_cases hk:k=.free
  ·subst hk;obtain⟨c,hc⟩:=h (n,.free) Zh rfl;have e1:cellOf env n=pure c:=by unfold cellOf;rw[hc]
   have e2:Qbj env ((n,.free)::r) acc=Qbj env r ((n,c)::acc):=by
    show Qbj env r (if Q7=.free then(n,(env.cells.lookup n).getD 0)::acc else acc)=_;rw[if_pos rfl,hc];rfl
   rw[e2];show((if(Q7 == Q7)=true then do let a <- cellOf env n;pure (Zo ((n,a)::acc)) else pure (Zo acc)) >>= _)=_;rw[if_pos (show(Q7 == Q7)=true by decide),e1];exact Qhp r _ λx hx=>h x (Jr _ hx)
  ·have hb:(k == Q7)=false:=by simpa using hk
   have e2:Qbj env ((n,k)::r) acc=Qbj env r acc:=by
    show Qbj env r (if k=.free then(n,(env.cells.lookup n).getD 0)::acc else acc)=_;rw[if_neg hk]
   rw[e2];show((if(k == Q7)=true then _ else pure (Zo acc)) >>= _)=_;rw[hb,if_neg Qu];exact Qhp r _ λx hx=>h x (Jr _ hx)
theorem Qhq{scope:Yl}{env:Env}(h:∀x∈scope.names,x.2=.free->∃c,env.cells.lookup x.1=some c):closureFor scope env=pure (Qbj env scope.names []):=by
 have e:=Qhp (env:=env) scope.names [] h;unfold closureFor;show(forIn scope.names [] _ >>= _)=_;have e':(forIn (m:=Sem) scope.names ([]:List (Str×Addr)) λx cs=>match x with | (name,kind)=>(if(kind == Q7)=true then do let a <- cellOf env name;pure (Zo ((name,a)::cs)) else pure (Zo cs)))=pure (Qbj env scope.names []):=e
 first
  |(rw[e'];rfl)
  |(refine Qp8 (congrArg (λt=>t >>= _) e') ?_;rfl)
theorem Qhr{env:Env}:∀(l:List (Str×YK))(acc:List (Str×Addr)),(∀x∈l,x.2=.free->∃c,env.cells.lookup x.1=some c)->(∀x c,acc.lookup x=some c->env.cells.lookup x=some c) ->
  (∀x c,(Qbj env l acc).lookup x=some c->env.cells.lookup x=some c)/\(∀x c,acc.lookup x=some c->(Qbj env l acc).lookup x=some c)/\∀x,(x,Q7)∈l->∃c,(Qbj env l acc).lookup x=some c
 |[],acc,_,ha=>⟨ha,λ_ _ h=>h,λ_ h=>nomatch h⟩
 |(n,k)::r,acc,h,ha=>by
  have hr:∀x∈r,x.2=.free->∃c,env.cells.lookup x.1=some c:=λx hx=>h x (Jr _ hx)
  by_cases hk:k=.free
  ·subst hk;obtain⟨c,hc⟩:=h (n,.free) Zh rfl;have e2:Qbj env ((n,.free)::r) acc=Qbj env r ((n,c)::acc):=by
    show Qbj env r (if Q7=.free then(n,(env.cells.lookup n).getD 0)::acc else acc)=_;rw[if_pos rfl,hc];rfl
   rw[e2];have ha':∀x c',((n,c)::acc).lookup x=some c'->env.cells.lookup x=some c':=λx c' q=>by
    rw[Q2] at q;cases hx:x == n with
    |true=>
     rw[hx] at q;have z:c=c':=Qr q;have y:x=n:=by simpa using hx
     rw[y,<- z];exact hc
    |false=>rw[hx] at q;exact ha x c' q
   obtain⟨i1,i2,i3⟩:=Qhr r ((n,c)::acc) hr ha';refine⟨i1,λx c' q=>?_,λx hx=>?_⟩
   ·refine i2 x c' ?_
    rw[Q2];cases hx:x == n with
    |true=>
     have y:x=n:=by simpa using hx
     have:=ha x c' q;rw[y,hc] at this;exact this
    |false=>exact q
   ·rcases Qt.mp hx with z | z
    ·cases z;exact⟨c,i2 n c (by rw[Q2,beq_self_eq_true])⟩
    ·exact i3 x z
  ·have e2:Qbj env ((n,k)::r) acc=Qbj env r acc:=by
    show Qbj env r (if k=.free then(n,(env.cells.lookup n).getD 0)::acc else acc)=_;rw[if_neg hk]
   rw[e2];obtain⟨i1,i2,i3⟩:=Qhr r acc hr ha;refine⟨i1,i2,λx hx=>?_⟩;rcases Qt.mp hx with z | z
   ·cases z;exact absurd rfl hk
   ·exact i3 x z
theorem Qbh{l:List (Str×YK)}{x:Str}{k:YK}(h:l.lookup x=some k):(x,k)∈l:=by
 induction l with
 |nil=>cases h
 |cons p r ih=>
  obtain⟨n,q⟩:=p;rw[Q2] at h;cases hx:x == n with
  |true=>
   rw[hx] at h;have y:x=n:=by simpa using hx
   have z:q=k:=Qr h;subst y z;exact Zh
  |false=>rw[hx] at h;exact Jr _ (ih h)
theorem Qak{env:Env}:∀{names:List (Str×YK)}{x:Str}{k:YK},(names.map λ(n,k)=>if(k == Q7&&env.scope.kind == .function&&env.kindOf n == some .cell) then(n,Z7) else(n,k)).lookup x=some k ->
  names.lookup x=some k∨(k=.cell/\names.lookup x=some .free)
 |[],x,k,h=>by cases h
 |(n,q)::r,x,k,h=>by
  have ih:=@Qak env r x k;rw[Jl] at h;have h':QfE x ((if(q == Q7&&env.scope.kind == .function&&env.kindOf n == some .cell)=true then(n,Z7) else(n,q))::_)=some k:=h;cases hx:x == n with
  |true=>
   by_cases hc:(q == Q7&&env.scope.kind == .function&&env.kindOf n == some .cell)=true
   ·rw[if_pos hc,Q2,hx] at h';have z:Z7=k:=Qr h';have y:q=.free:=by simp at hc;exact hc.1.1
    refine .inr ⟨z.symm,?_⟩;rw[Q2,hx,y]
   ·rw[if_neg hc,Q2,hx] at h';refine .inl ?_
    rw[Q2,hx];exact h'
  |false=>
   have h2:QfE x (r.map λ(n,k)=>if(k == Q7&&env.scope.kind == .function&&env.kindOf n == some .cell) then(n,Z7) else(n,k))=some k:=by
    by_cases hc:(q == Q7&&env.scope.kind == .function&&env.kindOf n == some .cell)=true
    ·rw[if_pos hc,Q2,hx] at h';exact h'
    ·rw[if_neg hc,Q2,hx] at h';exact h'
   rw[Q2,hx];exact ih h2
theorem relabel_free{env:Env}:∀{names:List (Str×YK)}{x:Str},names.lookup x=some .free->(names.map λ(n,k)=>if(k == Q7&&env.scope.kind == .function&&env.kindOf n == some .cell) then(n,Z7) else(n,k)).lookup x=some .cell ∨
   (names.map λ(n,k)=>if(k == Q7&&env.scope.kind == .function&&env.kindOf n == some .cell) then(n,Z7) else(n,k)).lookup x=some .free
 |[],x,h=>by cases h
 |(n,q)::r,x,h=>by
  have ih:=@relabel_free env r x;rw[Jl];show QfE x ((if(q == Q7&&env.scope.kind == .function&&env.kindOf n == some .cell)=true then(n,Z7) else(n,q))::_)=some .cell∨QfE x ((if(q == Q7&&env.scope.kind == .function&&env.kindOf n == some .cell)=true then(n,Z7) else(n,q))::_)=some .free;cases hx:x == n with
  |true=>
   rw[Q2,hx] at h;have z:q=Q7:=Qr h;subst z;by_cases hc:(Q7 == Q7&&env.scope.kind == .function&&env.kindOf n == some .cell)=true
   ·rw[if_pos hc,Q2,hx];exact .inl rfl
   ·rw[if_neg hc,Q2,hx];exact .inr rfl
  |false=>
   rw[Q2,hx] at h;by_cases hc:(q == Q7&&env.scope.kind == .function&&env.kindOf n == some .cell)=true
   ·rw[if_pos hc,Q2,hx];exact ih h
   ·rw[if_neg hc,Q2,hx];exact ih h
def Qd0(N:List Str)(sc:Yl)(M:List Str)(scope:Yl)(cap:List (Option Nat)):Bool:=
 cap.length == M.length&&(M.zip cap).all (λ(x,o)=>match o with
  |none=>scope.names.lookup x == some .local
  |some j=>N[j]? == some x&&(scope.names.lookup x == some .free&&(sc.names.lookup x == some .cell||sc.names.lookup x == some .free))) &&
 (scope.kind == .function&&scope.names.all λy=>y.2 != .cell&&((y.2 != .free||(sc.names.lookup y.1 == some .cell||sc.names.lookup y.1 == some .free))&&(y.2 != .local||scope.names.lookup y.1 == some .local)))
def QcD(cap:List (Option Nat))(σ:St):St:=cap.map λo=>match o with
 |none=>none
 |some j=>(σ[j]?).getD none
structure CapOk (N:List Str) (sc:Yl) (M:List Str) (scope:Yl) (cap:List (Option Nat)):Prop where
 len:cap.length=M.length
 own:∀(i j:Nat)(x:Str),M[i]? = some x->cap[i]? = some (some j)->N[j]? = some x/\scope.names.lookup x=some .free/\(sc.names.lookup x=some .cell∨sc.names.lookup x=some .free)
 kind:scope.kind=.function
 cell:∀y∈scope.names,y.2≠.cell
 free:∀y∈scope.names,y.2=.free->sc.names.lookup y.1=some .cell∨sc.names.lookup y.1=some .free
 loc:∀y∈scope.names,y.2=.local->scope.names.lookup y.1=some .local
theorem CapOk.of{N:List Str}{sc:Yl}{M:List Str}{scope:Yl}{cap:List (Option Nat)}(h:Qd0 N sc M scope cap=true):CapOk N sc M scope cap:=by
 unfold Qd0 at h;simp only[JN,JM,beq_iff_eq] at h;obtain⟨⟨h1,h2⟩,h3,h4⟩:=h;refine⟨h1,λi j x e1 e2=>?_,h3,λy hy z=>?_,λy hy z=>?_,λy hy z=>?_⟩
 ·have hm:(x,some j)∈M.zip cap:=by
   have:(M.zip cap)[i]? = some (x,some j):=by rw[List.getElem?_zip_eq_some];exact⟨e1,e2⟩
   exact Qz this
  have:=h2 _ hm;simp only[JN,beq_iff_eq,QtF] at this;exact this
 ·have:=(h4 y hy).1;simp[z] at this
 ·have:=(h4 y hy).2.1
  simpa [z] using this
 ·have:=(h4 y hy).2.2
  simpa [z] using this
section
variable{X:Cx}{pins:List (Addr×Obj)}{σ:St}{H H3:Hp}{s3:Shared}{M:List Str}{scope:Yl}{cap:List (Option Nat)}{fp:List Addr}{h4:J8}{t4:Nat}
theorem Cx.Ok.cells(ok:X.Ok){N:List Str}(c:CapOk N X.env.scope M scope cap):∀y∈scope.names,y.2=.free->∃d,X.env.cells.lookup y.1=some d:=λy hy z=>ok.has y.1 (c.free y hy z)
theorem QdO(I:Inv X pins σ H3 s3)(c:CapOk X.N X.env.scope M scope cap)(hf:∀b∈fp,FpOk X pins H3 b)(hb:∀b∈fp,b<s3.heap.objs.size)
  (hn:h4.Ns s3.heap.objs.size λ_=>none)(hk:∀b o,s3.heap.get? b=some o->h4.get? b=some o) :
  Inv (blk X M scope (Qbj X.env scope.names []) fp s3 H3 s3.heap.objs.size) [] (QcD cap σ) H3 { s3 with heap:=h4,toks:=t4 }:=by
 obtain⟨c1,c2,c3⟩:=Qhr scope.names [] (I.ok.cells c) (λx d q=>by cases q);refine⟨⟨I.ok.mod,c.kind,I.ok.glob,I.ok.blt,Qi _,λx y d e1 e2=>I.ok.inj x y d (c1 x d e1) (c1 y d e2),λx hx=>?_,(λx d z=>nomatch z),I.ok.hd,I.ok.frames,.inl rfl,λb hb'=>?_,I.bs,
  Q1 I.ok.bsz I.sz,λb o e z=>?_,λb hb' z=>?_,I.stack,I.stkFree⟩,rfl,I.bare,Un.kept hk,⟨_,hn,λi x v e1 e2 e3=>?_⟩,λx d e=>?_,I.hok.fresh (Qi _),λx d e=>I.freeC x d (c1 x d e),λp hp=>(nomatch hp),I.hok.kept hk,?_⟩
 ·have hx':(relabel scope X.env).names.lookup x=some .cell∨(relabel scope X.env).names.lookup x=some .free:=hx;rcases hx' with q | q
  ·rcases Qak q with z | ⟨_,z⟩
   ·exact absurd rfl (c.cell _ (Qbh z))
   ·exact c3 x (Qbh z)
  ·rcases Qak q with z | ⟨z,_⟩
   ·exact c3 x (Qbh z)
   ·cases z
 ·obtain⟨f0,f1,f2,f3,f4,f5⟩:=hf b hb';exact⟨QF (hb b hb'),λx d e=>f4 x d (c1 x d e)⟩
 ·obtain⟨f0,f1,f2,f3,f4,f5⟩:=hf b z;rcases f3 with q | q
  ·exact I.ok.noex b o e q
  ·exact absurd (QU (Qj e) (Q1 I.ok.bsz q)) (Ym _)
 ·obtain⟨f0,f1,f2,f3,f4,f5⟩:=hf b hb';rcases Qt.mp (I.stkSub b z) with q | q
  ·exact f1 q
  ·exact f2 q
 ·have e2':(cap.map λo=>match o with | none=>none | some j=>(σ[j]?).getD none)[i]? = some (some v):=e2;rw[Qh] at e2';cases q:cap[i]? with
  |none=>rw[q] at e2';cases e2'
  |some o=>
   rw[q] at e2';cases o with
   |none=>cases e2'
   |some j=>
    have e4:(σ[j]?).getD none=some v:=Qr e2';have e5:σ[j]? = some (some v):=by
     cases r:σ[j]? with
     |none=>rw[r] at e4;cases e4
     |some o=>rw[r] at e4;exact congrArg some e4
    obtain⟨n1,n2,n3⟩:=c.own i j x e1 q;obtain⟨m,hm,hl⟩:=I.loc;obtain⟨u,ru,lk⟩:=hl j x v n1 e5 (n3.elim (λz=>.inr (.inl z)) λz=>.inr (.inr z));refine⟨u,ru,.inr ?_⟩;rcases lk with⟨k1,_⟩ | ⟨_,d,k2,k3⟩
    ·have k1':X.env.scope.names.lookup x=some .local:=k1;rcases n3 with z | z<;>(rw[z] at k1';cases k1')
    ·obtain⟨d',hd'⟩:=c3 x (Qbh n2);have ed:d'=d:=by
      have:=c1 x d' hd';rw[k2] at this;exact(Qr this).symm
     subst ed;exact⟨(relabel_free n2:(relabel scope X.env).names.lookup x=some .cell∨(relabel scope X.env).names.lookup x=some .free),d',hd',k3.keeps hk⟩
 ·obtain⟨v,q⟩:=I.cell x d (c1 x d e);exact⟨v,q.keeps hk⟩
 ·show(cap.map _).length=M.length;rw[Qe];exact c.len
theorem Qmo{σ':St}{s':Shared}{h':J8}(I:Inv X pins σ H3 s3)(hf:∀b∈fp,FpOk X pins H3 b)(J:Inv (blk X M scope (Qbj X.env scope.names []) fp s3 H3 s3.heap.objs.size) [] σ' H s')(hs:QbP s3.heap.objs.size s'.heap h') :
  Inv X pins σ H { s' with heap:=h' }:=by
 have u:Un (frs X.stack) fp H3 H s3.heap s'.heap:=J.base;have ne:∀b o,s3.heap.get? b=some o->b≠s3.heap.objs.size:=λb o e=>QF (Qj e)
 have hC:H s3.heap.objs.size=none:=J.free;refine I.call' (ch:=fp) (s':={ s' with heap:=h' }) J.os ⟨λb o e n hb hx=>(hs.2 b (ne b o e)).trans (u.keep b o e n hb hx),λb o e n hb hx=>?_,u.free,λb o e hx=>?_,u.tups,u.frzs,u.tbls⟩ (λb o e=>?_) J.bare λb hb=>?_
 ·obtain⟨sl,q⟩:=u.slot b o e n hb hx;exact⟨sl,(hs.2 b (ne b o e)).trans q⟩
 ·obtain⟨o',q⟩:=u.there b o e hx;exact⟨o',(hs.2 b (ne b o e)).trans q⟩
 ·refine(J.hok b o e).stay (λc v hc q=>(hs.2 c ?_).trans q) (λ_ q=>q) λ_ _ q=>q
  rintro rfl;rcases hc with z | z
  ·rw[<- z,hC] at e;cases e
  ·rw[hC] at z;cases z
 ·obtain⟨f0,f1,f2,f3,f4,f5⟩:=hf b hb;exact⟨f3,f1,f4,f5⟩
end
def Wk:St->St->Prop
 |[],[]=>True
 |none::a,_::b=>Wk a b
 |some v::a,some u::b=>v=u/\Wk a b
 |_,_=>False
theorem Wk.len:∀{a b:St},Wk a b->a.length=b.length
 |[],[],_=>rfl
 |none::a,_::b,h=>congrArg (·+1) (Wk.len (a:=a) (b:=b) h)
 |some v::a,some u::b,h=>congrArg (·+1) (Wk.len (a:=a) (b:=b) h.2)
 |[],_::_,h=>h.elim
 |some _::_,[],h=>h.elim
 |none::_,[],h=>h.elim
 |some _::_,none::_,h=>h.elim
theorem Wk.get:∀{a b:St},Wk a b->∀(i:Nat) v,a[i]? = some (some v)->b[i]? = some (some v)
 |[],[],_,i,v,h=>by simp at h
 |none::a,x::b,h,0,v,e=>by simp at e
 |none::a,x::b,h,i+1,v,e=>by
  simp only[QhG] at e ⊢;exact Wk.get (a:=a) (b:=b) h i v e
 |some q::a,some u::b,h,0,v,e=>by
  simp only[QhF] at e ⊢;rw[<- h.1];exact e
 |some q::a,some u::b,h,i+1,v,e=>by
  simp only[QhG] at e ⊢;exact Wk.get (a:=a) (b:=b) h.2 i v e
 |[],_::_,h,_,_,_=>h.elim
 |some _::_,[],h,_,_,_=>h.elim
 |none::_,[],h,_,_,_=>h.elim
 |some _::_,none::_,h,_,_,_=>h.elim
theorem Inv.wk{X:Cx}{pins:List (Addr×Obj)}{σ σ':St}{H:Hp}{s:Shared}(I:Inv X pins σ H s)(h:Wk σ' σ):Inv X pins σ' H s:=I.weak h.len h.get
def Qj9(J:It)(body:V->Hp->(Hp->Prop)->Prop)(Qn:Hp->Prop)(H:Hp):Prop:=
 ∃W:Nat->Nat->Hp->Prop,(∃m,W 0 m H)/\∀i m H2,W i m H2->(J.stop i H2/\Qn H2)∨(J.go i H2/\∀x H3,J.yld i H2 x H3->body x H3 λH6=>∃m',m'<m/\W (i+1) m' H6)
abbrev Act:=(Shared->Prop)->Shared->Prop
def BodyOk(Y:Cx)(σ:St)(act:Act)(b:Hp->(Hp->Prop)->Prop):Prop:=
 ∀(pins:List (Addr×Obj))(s:Shared)(H:Hp)(k:Hp->Prop)(Q:Shared->Prop),Inv Y pins σ H s->b H k->(∀s' H',Inv Y pins σ H' s'->k H'->Q s')->act Q s
theorem Qb4{Y:Cx}{σ:St}{tg:QV}{elt:QV}{gens:List QeN}{scope:Yl}{cpos:Pos}{d:Nat}{it D:Addr}{fp:List Addr}{tn:Nat->J8->Prop}{J:It}{pins:List (Addr×Obj)}{s:Shared}{H:Hp}{body:V->Hp->(Hp->Prop)->Prop}{Qn:Hp->Prop}{R:QpX->Shared->Prop}{act:Value->Act}
  (hc:Y.calm=true)(T:Turn Y.prog Y.w Y.K tg J fp it tn)(st:tn 0 s.heap)(hf:∀b∈fp,FpOk Y pins H b)
  (hturn:∀(Q:PySem.Fin->Shared->Prop)(E:Value->Shared->Prop)(s:Shared),wpAny (model Y.prog Y.w) Y.A (pyNext (.ref it)) (λr s1=>match r with
   |none=>Q (.done .next) s1
   |some v=>wpAny (model Y.prog Y.w) Y.A (letOwnedTupleGo tg (.ref it) v) (λ_ s2=>act v (λs3=>Q (.again (.compLoop (.ListComp elt gens scope cpos) d (.ref it) (.ref D) Y.env)) s3) s2) E s1) E s ->
   wpAny (model Y.prog Y.w) Y.A (compTurn (.ListComp elt gens scope cpos) d (.ref it) (.ref D) Y.env) Q E s)
  (hact:∀(x:V)(u:Value),RelV x u->BodyOk Y σ (act u) (body x))
  (I:Inv Y pins σ H s)(h:Qj9 J body Qn H)(hR:∀s' H',Inv Y pins σ H' s'->Qn H'->R (.ok .next) s') :
  codeAny (model Y.prog Y.w) Y.A (.compLoop (.ListComp elt gens scope cpos) d (.ref it) (.ref D) Y.env) R s:=by
 obtain⟨W,⟨m0,w0⟩,turn⟩:=h;have stat:∀{H':Hp},(∀b∈fp,H' b=none)->∀b∈fp,FpOk Y pins H' b:=λhn b hb=>⟨hn b hb,(hf b hb).2⟩
 refine codeAny_loop rfl (λn s'=>∃i H',Inv Y pins σ H' s'/\tn i s'.heap/\(∀b∈fp,H' b=none)/\W i n H') (λn s3 hI=>?_) m0 ⟨0,H,I,st,λb hb=>(hf b hb).1,w0⟩;show wpAny _ Y.A ((compTurn (.ListComp elt gens scope cpos) d (.ref it) (.ref D) Y.env).onRaise (λx=>do noteFrame x Y.env;theTreesLotGoes x)) _ _ s3;refine wpAny_noted (hturn _ _ _ ?_);obtain⟨i,H3,I3,st3,fr3,w3⟩:=hI;rcases turn i n H3 w3 with⟨stop,qn⟩ | ⟨go,step⟩
 ·refine thn (T.done Y rfl rfl rfl hc i pins s3 σ H3 _ I3 (stat fr3) st3 stop) λr s4 ⟨hr,I4⟩=>?_
  subst hr;exact hR s4 H3 I4 qn
 ·refine thn (T.item Y rfl rfl rfl hc i pins s3 σ H3 _ I3 (stat fr3) st3 go) λr s4 ⟨u,hr,h4⟩=>?_
  subst hr;refine thn h4 λ_ s5 ⟨x,H5,I5,r5,y5,st5,fr5⟩=>?_
  have I5':=I5.pinned (stat fr5) (T.obj _ _ st5);refine hact x u r5 _ s5 H5 _ _ I5' (step x H5 y5) λs7 H7 I7 ⟨m',hm,w7⟩=>?_
  refine⟨rfl,m',hm,i+1,H7,I7.unpinned,T.keep _ _ _ st5 λb hb o e=>(I7.pin (b,o) (QR _ (QR _ (Ys hb e)))).1,λb hb=>?_,w7⟩;obtain⟨o,e,dd⟩:=T.obj _ _ st5 b hb;exact(I7.pin (b,o) (QR _ (QR _ (Ys hb e)))).2.1
abbrev Qj6 (ifs:List QV) (env:Env):Sem Bool:=forIn ifs true λc r=>if r=true then do let ok <- isTrue c env (eval c env);pure (Zo ok) else pure (Zo r)
def PTs(Y:Cx)(ifs:List QV)(t:TT):Prop:=
 ∀(pins:List (Addr×Obj))(s:Shared)(σ:St)(H:Hp)(Q:Bool->Hp->Prop),Inv Y pins σ H s->t σ H Q->wpAny (model Y.prog Y.w) Y.A (Qj6 ifs Y.env) (TP Y pins σ Q) Y.xe s
def Qrf:TT:=λ_ H Q=>Q true H
theorem QrL{Y:Cx}:PTs Y [] Qrf:=λpins s σ H Q I h=>wpAny_tests_nil ⟨H,I,h⟩
theorem QrK{Y:Cx}{c:QV}{t:TT}(h:PT Y c t):PTs Y [c] t:=λpins s σ H Q I q=>wpAny_tests_one (h pins s σ H Q I q)
def QoP(Y:Cx)(tg:QV)(ifs:List QV)(inner:Act):Value->Act:=λu Q s=>
 wpAny (model Y.prog Y.w) Y.A (assign tg Y.env u) (λ_ s4=>wpAny (model Y.prog Y.w) Y.A (Qj6 ifs Y.env) (λok s5=>if ok=true then inner Q s5 else Q s5) (λ_ _=>False) s4) (λ_ _=>False) s
def bOf(σ:St)(g:TG)(tc:TT)(inner:St->Hp->(Hp->Prop)->Prop):V->Hp->(Hp->Prop)->Prop:=λx H k=>g x σ H λσ4 H4=>Wk σ σ4/\tc σ4 H4 λb H5=>
 if b=true then inner σ4 H5 k else k H5
theorem Qfx{Y:Cx}{σ:St}{tg:QV}{ifs:List QV}{g:TG}{tc:TT}{inner:Act}{ri:St->Hp->(Hp->Prop)->Prop}(hx:Y.xe=λ_ _=>False)(hg:PG Y tg g)(ht:PTs Y ifs tc)(he:∀σ4,BodyOk Y σ4 inner (ri σ4))(x:V)(u:Value)(r:RelV x u) :
  BodyOk Y σ (QoP Y tg ifs inner u) (bOf σ g tc ri x):=by
 intro pins s H k Q I h hQ;have hx':∀(v:Value)(s':Shared),Y.xe v s'->False:=λv s' z=>by rw[hx] at z;exact z
 refine wpAny_mono (hg pins s σ H x u _ I r h) (λ_ s4 ⟨σ4,H4,I4,wk,q4⟩=>?_) hx';refine wpAny_mono (ht pins s4 σ4 H4 _ I4 q4) (λb s5 ⟨H5,I5,q5⟩=>?_) hx';cases b with
 |false=>
  rw[if_neg Qu] at q5;rw[if_neg Qu];exact hQ s5 H5 (I5.wk wk) q5
 |true=>
  rw[if_pos rfl] at q5;rw[if_pos rfl];exact he σ4 pins s5 H5 k Q I5 q5 λs' H' I' k'=>hQ s' H' (I'.wk wk) k'
def Qmw(Y:Cx)(elt:QV)(D:Addr):Act:=λQ s=>wpAny (model Y.prog Y.w) Y.A (eval elt Y.env) (λv s6=>wpAny (model Y.prog Y.w) Y.A (call (.builtin "list.append") [.ref D,v]) (λ_ s7=>Q s7) (λ_ _=>False) s6) (λ_ _=>False) s
def Qwe(p:Addr)(te:TE):St->Hp->(Hp->Prop)->Prop:=λσ H k=>te σ H λv H6=>∃ys,H6 p=some (.lst ys)/\ys.length<sizeLine/\k (upd H6 p (.lst (ys++[v])))
theorem Qfy{Y:Cx}{σ:St}{elt:QV}{te:TE}{D:Addr}(hx:Y.xe=λ_ _=>False)(he:PE Y elt te):BodyOk Y σ (Qmw Y elt D) (Qwe D te σ):=by
 intro pins s H k Q I h hQ;have hx':∀(v:Value)(s':Shared),Y.xe v s'->False:=λv s' z=>by rw[hx] at z;exact z
 refine wpAny_mono (he pins s σ H _ I h) (λv s6 ⟨y,H6,I6,r6,ys,e,hz,q⟩=>?_) hx';exact wpAny_mono (Qlo (X:=Y) pins s6 σ H6 (.ref D) [y] (.ref D) [v] (λ_ H'=>k H') I6 rfl (.cons r6 .nil) ⟨D,ys,y,rfl,rfl,e,hz,q⟩) (λ_ s7 ⟨_,H7,I7,_,q7⟩=>hQ s7 H7 I7 q7) hx'
theorem QhL{Y:Cx}{elt tg iter:QV}{ifs:List QV}{scope:Yl}{cpos:Pos}{it D:Addr}(Q:PySem.Fin->Shared->Prop)(E:Value->Shared->Prop)(s:Shared)
  (h:wpAny (model Y.prog Y.w) Y.A (pyNext (.ref it)) (λr s1=>match r with
   |none=>Q (.done .next) s1
   |some v=>wpAny (model Y.prog Y.w) Y.A (letOwnedTupleGo tg (.ref it) v) (λ_ s2=>QoP Y tg ifs (Qmw Y elt D) v (λs3=>Q (.again (.compLoop (.ListComp elt [⟨tg,iter,ifs,0⟩] scope cpos) 0 (.ref it) (.ref D) Y.env)) s3) s2) E s1) E s) :
  wpAny (model Y.prog Y.w) Y.A (compTurn (.ListComp elt [⟨tg,iter,ifs,0⟩] scope cpos) 0 (.ref it) (.ref D) Y.env) Q E s:=by
 rw[compTurn_list];refine wpAny_bind (wpAny_standAt (wpAny_bind (thn h λr s1 h1=>?_)));cases r with
 |none=>exact Qp h1
 |some v=>
  refine wpAny_bind (thn h1 λ_ s2 h2=>?_);refine wpAny_bind (wpAny_mono h2 (λ_ s4 h4=>wpAny_bind (wpAny_mono h4 (λok s5 h5=>?_) λ_ _ f=>f.elim)) λ_ _ f=>f.elim);cases ok with
  |false=>exact Qp h5
  |true=>exact wpAny_bind (wpAny_bind (wpAny_mono h5 (λx s6 h6=>wpAny_bind (wpAny_mono h6 (λ_ s7 h7=>Qp (Qp h7)) λ_ _ f=>f.elim)) λ_ _ f=>f.elim))
def tComp(cap:List (Option Nat))(wi:TI)(g:TG)(tc:TT)(te:TE):TE:=λσ H Q=>wi σ H λJ H1=>∀p,H1 p=none->Qj9 J (bOf (QcD cap σ) g tc (Qwe p te)) (Q (.ref p)) (upd H1 p (.lst []))
theorem FpOk.upd{X:Cx}{pins:List (Addr×Obj)}{H:Hp}{b a:Addr}{o:HO}(h:FpOk X pins H b)(hne:b≠a):FpOk X pins (upd H a o) b:=⟨by rw[Jq hne];exact h.1,h.2⟩
theorem QnA{X:Cx}{M:List Str}{cap:List (Option Nat)}{elt tg iter:QV}{ifs:List QV}{scope:Yl}{pos:Pos}{wi:TI}{g:TG}{tc:TT}{te:TE}(hc:X.calm=true)(ok:Qd0 X.N X.env.scope M scope cap=true)
  (hi:PI X tg iter wi)(hb:∀cl ex s3 H3 C,PG (blk X M scope cl ex s3 H3 C) tg g/\PTs (blk X M scope cl ex s3 H3 C) ifs tc/\PE (blk X M scope cl ex s3 H3 C) elt te)
  (hs:∀x,foldedSetIterable iter X.env x=pure x:=by intro _;rfl):PE X (.ListComp elt [⟨tg,iter,ifs,0⟩] scope pos) (tComp cap wi g tc te):=by
 intro pins s σ H Q I h;have c:=CapOk.of ok;rw[eval_ListComp];refine QbC (use:=none) rfl hs (Qhq (I.ok.cells c)) c.kind c.loc ?_
 refine thn (hi pins s σ H _ I h) λv s1 h1=>thn h1 λitv s2 h2=>?_
 obtain⟨it,fp,tn,J,H2,e,I2,T,st2,f2,hW⟩:=h2;subst e;refine JW (Qau c.cell (by intro y hy;simp at hy) (λh₁ hns₁ hsb₁=>?_) c.kind);have I3:Inv X pins σ (upd H2 s2.heap.objs.size (.lst [])) { s2 with heap:=s2.heap.push { cls:=.type "list",data:=.seq ([]:List Value).toArray } }:=I2.lnew (t':=s2.toks) (ys:=[]) .nil (Jm _);have lt2:∀b∈fp,b<s2.heap.objs.size:=λb hb=>by obtain⟨o,e,_⟩:=T.obj _ _ st2 b hb;exact Qj e
 have f3:∀b∈fp,FpOk X pins (upd H2 s2.heap.objs.size (.lst [])) b:=λb hb=>(f2 b hb).upd (QF (lt2 b hb))
 generalize hs3:({ s2 with heap:=s2.heap.push { cls:=.type "list",data:=.seq ([]:List Value).toArray } }:Shared)=s3 at I3;have e3:s3.heap=s2.heap.push { cls:=.type "list",data:=.seq ([]:List Value).toArray }:=by rw[<- hs3]
 have z3:s3.heap.objs.size=s2.heap.objs.size+1:=by rw[e3,ZH]
 have hk:∀b o,s3.heap.get? b=some o->h₁.get? b=some o:=λb o e=>hsb₁.extBut b o (by
  have:=Qj e;rw[e3] at this;exact QF this) (Qd _ (e3 ▸ e))
 have hn₁:h₁.Ns s3.heap.objs.size λ_=>none:=by rw[e3];exact hns₁
 have B:=QdO (t4:=s3.toks+([]:List (Str×Value)).length) (fp:=fp) I3 c f3 (λb hb=>by rw[z3];exact QaO (lt2 b hb)) hn₁ hk;have st4:tn 0 h₁:=T.keep _ _ _ st2 λb hb o e=>hk b o (by rw[e3];exact Qd _ e)
 have fp4:∀b∈fp,FpOk (blk X M scope (Qbj X.env scope.names []) fp s3 (upd H2 s2.heap.objs.size (.lst [])) s3.heap.objs.size) [] (upd H2 s2.heap.objs.size (.lst [])) b:=λb hb=>by
  refine⟨(f3 b hb).1,(B.ok.exf b hb).1,B.ok.exfs b hb,.inl hb,(B.ok.exf b hb).2,λp hp=>(nomatch hp)⟩
 obtain⟨hg,ht,he⟩:=hb (Qbj X.env scope.names []) fp s3 (upd H2 s2.heap.objs.size (.lst [])) s3.heap.objs.size;have loop:codeAny (model X.prog X.w) X.A (.compLoop (.ListComp elt [⟨tg,iter,ifs,0⟩] scope pos) 0 (.ref it) (.ref s2.heap.objs.size) (compEnvC scope (Qbj X.env scope.names []) s3.heap.objs.size X.env))
   (compPost (model X.prog X.w) X.A X.xe none (EP X pins σ Q) (.ref s2.heap.objs.size) s3.heap.objs.size) { s3 with heap:=h₁,toks:=s3.toks+([]:List (Str×Value)).length }:=by
  refine Qb4 (Y:=blk X M scope (Qbj X.env scope.names []) fp s3 (upd H2 s2.heap.objs.size (.lst [])) s3.heap.objs.size) (gens:=[⟨tg,iter,ifs,0⟩]) (d:=0) hc T st4 fp4
   (λQ E s h=>QhL Q E s h) (λx u r=>Qfx rfl hg ht (λσ4=>Qfy rfl he) x u r) B (hW _ (I2.hok.fresh (Qi _))) λs' H' I' q=>?_
  obtain⟨m,hn,_⟩:=I'.loc;exact⟨m,hn,λh' hs'=>⟨.ref s2.heap.objs.size,H',Qmo I3 f3 I' hs',rfl,q⟩⟩
 exact Qce loop (T.self _ 0 _ _ _ st4 loop)
section
variable{X:Cx}
theorem Qhv:CallR X (.builtin "isinstance") (λxs H Q=>∃x t T b,xs=[x,.ty T]/\TyOf X.K H x t/\PySem.W.kitOne X.K t (.type T)=some b/\Q (.bl b) H):=by
 intro pins s σ H xs us Q I r h;obtain⟨x,t,T,b,rfl,ty,e,q⟩:=h;obtain⟨u,v,rfl,ru,rv⟩:=vals2 r;cases(show v=QmJ T from rv);exact QlD I ru ty e λtk=>⟨.bl b,H,I.tok tk,rfl,q⟩
theorem Qiz{bs:List Bool}:∀{us:List Value},Vals (bs.map V.bl) us->LSm.BoolsAre us bs:=by
 induction bs with
 |nil=>intro us r;cases r;exact .nil
 |cons b bs ih=>
  intro us r;cases r with
  |cons r t=>
   cases(show _=Ye b from r);exact .cons b (ih t)
theorem Qb6:CallR X (.builtin "all") (λxs H Q=>∃(p:Addr)(bs:List Bool),xs=[.ref p]/\SqL X.K H p (bs.map V.bl)/\X.calm=true/\Q (.bl (bs.all id)) H):=by
 intro pins s σ H xs us Q I r h;obtain⟨p,bs,rfl,hp,hc,q⟩:=h;obtain⟨u,rfl,ru⟩:=vals1 r;cases ru;obtain⟨its,rv,pl,hz⟩:=I.list hp;have hl:=pl.isList;have hb:=Qiz rv;have hlt:p<s.heap.objs.size:=by obtain⟨_,e,_⟩:=hl;exact Qj e
 refine call_all_walk (QbA hl ?_);refine⟨s.heap.objs.size,[s.heap.objs.size,p],[s.heap.objs.size],its.toArray.size,_,_,λi=>(bs[i]?).getD true,rfl,Walks.list (A:=X.A.in1) (I.ok.hd hc) _ p (QF hlt) its.toArray,
  ⟨⟨_,Qv _ rfl,rfl,rfl⟩,hl.push _⟩,λi v s' Q' E' hP hQ=>?_,λh' tk hk=>?_⟩
 ·obtain⟨b,e,rfl⟩:=hb.get i v (by simpa using hP);simp only[e,QmL] at hQ;exact JB hQ
 ·have e:((Qm its.toArray.size).all λi=>(bs[i]?).getD true)=bs.all id:=by
   rw[Qq,hb.length];exact LSm.range_all bs
  rw[e];exact⟨.bl _,H,I.kept (QiL hk),rfl,q⟩
theorem Qn3:OpR X (compareOp .Is) (λx y H Q=>∃a b,x=.bl a/\y=.bl b/\Q (.bl (a == b)) H):=by
 intro pins s σ H x y v u Q I rx ry h;obtain⟨a,b,rfl,rfl,q⟩:=h;cases(show v=Ye a from rx);cases(show u=Ye b from ry);refine is_bool ?_
 exact⟨.bl _,H,I,rfl,q⟩
def Qyy:V->Option Int->Option Int->Hp->VK->Prop:=λx lo hi H Q=>∃a xs,x=.ref a/\H a=some (.tup xs)/\∀p H',Same H H'->H' p=some (.tup (QjL xs lo hi))->Q (.ref p) H'
theorem JI{H:Hp}{p:Addr}{o:HO}(h:H p=none):Same H (upd H p o):=λb u e=>by rw[Jq (JL e h)];exact e
theorem QbJ{prog:QN}{w:Jj}{A:Jh}{E:Value->Shared->Prop}{s:Shared}{t sl:Addr}{items:Array Value}{vl vu:Value}{lo hi:Option Int}{Q:Value->Shared->Prop}(ht:IsTup s.heap t items)(hs:s.heap.IsSliceOf sl vl vu .none)(pl:QgI vl lo)(pu:QgI vu hi)
  (h1:HT.sIx items.size 0 lo=0)(h2:HT.sIx items.size items.size hi=items.size)(h:Q (.ref t) s):wpAny (model prog w) A (getItem (.ref t) (.ref sl)) Q E s:=by
 obtain⟨os,hos,hcs,hds⟩:=id hs;have hTs:s.TypeIs (.ref sl) "slice" := ⟨os,hos,hcs⟩;unfold getItem
 try with_reducible refine Zx ?_
 first | refine wpAny_bind (Qp ?_) | skip
 refine wpAny_bind (QwR ht.typeIs (by decide) ?_);refine wpAny_bind (Zy (name:=QaC "__getitem__") ht.typeIs JD
  (Z9 JD ht.typeIs QtQ ?_ (Qwq _ _)))
 show wpAny _ _ (QcL (.ref t) >>= _) _ _ s;refine wpAny_bind (tupleItemsOf_ ht ?_);refine wpAny_bind (QpS hTs ?_);rw[if_pos (by decide)];refine wpAny_bind (HT.QaE hs pl pu ?_);show wpAny _ _ (if(((HT.sIx items.size 0 lo:Nat):Int) == 0&&(1:Int) == 1&&(HT.sIx items.size items.size hi - HT.sIx items.size 0 lo) == items.size)=true then _ else _) _ _ s;rw[if_pos (by rw[h1,h2];simp)];refine wpAny_bind (m:=Qxc _) (wpAny_bind (QpS ht.typeIs (Qp ?_)));rw[if_pos (by decide)];exact wpAny_bind (wpAny_rule (Qp ⟨_,rfl,Qp h⟩))
theorem Qui:SlR X Qyy:=by
 intro pins s σ H x v vl vu lo hi sl Q I rx hs pl pu h;obtain⟨a,xs,rfl,hx,q⟩:=h;by_cases hw:HT.sIx xs.length 0 lo=0/\HT.sIx xs.length xs.length hi=xs.length
 ·cases rx;obtain⟨its,r,ht,hz⟩:=I.tuple (SqT.of hx);have hlen:its.toArray.size=xs.length:=by rw[Qq];exact r.length.symm
  refine⟨"tuple",_,JD.lookup,ht.typeIs,?_⟩;refine QbJ ht hs pl pu (by rw[hlen];exact hw.1) (by rw[hlen];exact hw.2) ?_
  refine⟨.ref a,H,I,rfl,q a H (Same.refl H) ?_⟩;have e:QjL xs lo hi=xs:=by
   unfold QjL;rw[hw.1,hw.2];simp
  rw[e];exact hx
 ·exact Quh pins s σ H (.ref a) v vl vu lo hi sl Q I rx hs pl pu ⟨a,xs,rfl,SqT.of hx,hw,λp hp=>q p _ (JI hp) Ju⟩
def Qut:R2:=λx y H Q=>∃a b xs ys,x=.ref a/\y=.ref b/\H a=some (.tup xs)/\H b=some (.tup ys)/\xs.length+ys.length<=sizeLine/\∀p H',Same H H'->H' p=some (.tup (xs++ys))->Q (.ref p) H'
theorem Qsr:OpR X (binaryOp .Add) Qut:=by
 intro pins s σ H x y v u Q I rx ry h;obtain⟨a,b,xs,ys,rfl,rfl,ha,hb,hz,q⟩:=h;by_cases hx:xs=[]
 ·subst hx;cases rx;cases ry;obtain⟨its,r1,p1,_⟩:=I.tuple (SqT.of ha);obtain⟨its2,r2,p2,_⟩:=I.tuple (SqT.of hb);cases r1;obtain⟨⟨cls,dd,data,sl⟩,ho,hc,n,hd⟩:=id p1;obtain⟨⟨cls2,dd2,data2,sl2⟩,ho2,hc2,n2,hd2⟩:=id p2;simp only at hc hd hc2 hd2;subst hc hd hc2 hd2;exact QpU ⟨_,ho,rfl⟩ ⟨_,ho2,rfl⟩ QgM QmI PySem.F.slot_tuple_add PySem.F.entry_tuple_add (PySem.F.args_tuple_add_2 _ _)
   (tuple_addW0 a b #[] its2.toArray n n2 dd dd2 sl sl2 rfl) ⟨ho,ho2,⟨.ref b,H,I,rfl,q b H (Same.refl H) hb⟩⟩
 ·exact Qsq pins s σ H _ _ v u Q I rx ry ⟨a,b,xs,ys,rfl,rfl,SqT.of ha,SqT.of hb,hx,hz,λe=>q a H (Same.refl H) (by rw[e,Yc];exact ha),λ_ p hp=>q p _ (JI hp) Ju⟩
end
end L2
namespace Rz
open Sem (wp)
section
variable{prog:QN}{w:Jj}{A:Jh}{E:Value->Shared->Prop}{s:Shared}
theorem Qdc{it t:Addr}{i:Nat}{items:Array Value}{x:Value}{Q:Value->Shared->Prop}(hit:s.heap.IsTupleIter it t i)(ht:s.heap.IsTuple t items)(hx:items[i]? = some x)
  (hQ:∀h',h'.IsTupleIter it t (i+1)->QbP it s.heap h'->Q x { s with heap:=h' }):wpAny (model prog w) A (Jt (.ref it)) Q E s:=by
 obtain⟨o,ho,hc,hd⟩:=id hit;obtain⟨ol,hol,_,nl,hdl⟩:=ht;unfold Jt;refine wpAny_bind (Zy (name:=QaC "__next__") hit.typeIs Yv
  (Z9 Yv hit.typeIs QgP ?_ (QgK _)))
 show wpAny _ _ (field (.ref it) 0 >>= _) _ _ s;refine wpAny_bind (Ze ho hd (x:=.ref t) rfl ?_);show wpAny _ _ (if(Zl t == YR)=true then _ else _) _ _ s;rw[if_neg (show ¬((Zl t == YR)=true) from Qu)];show wpAny _ _ (field (.ref it) 1 >>= _) _ _ s;refine wpAny_bind (Ze ho hd (x:=.int i 0) rfl ?_);show wpAny _ _ (seqItems? (.ref t) >>= _) _ _ s;refine wpAny_bind (J5 hol hdl ?_);simp only[Jz,hx];refine wpAny_bind (wpAny_setField ho hd (by simp) (Qp ⟨x,rfl,Qp (hQ _ ?_ (QfJ ..))⟩));exact⟨_,Y2 _ ho (Obj.isFreed_of_fields (QoU hd _)),(Obj.cls_mapFields ..).trans hc,by
  rw[QoU hd];simp[rawInt]⟩
theorem Qhd{it t:Addr}{i:Nat}{items:Array Value}{Q:Value->Shared->Prop}(hh:A.handled=none)(hit:s.heap.IsTupleIter it t i)(ht:s.heap.IsTuple t items)(hx:items[i]? = none)
  (hE:∀h' e,Heap.ExtBut it s.heap h'->(∃o,h'.get? e=some o/\o.cls=.type "StopIteration")->E (.ref e) { s with heap:=h' }):wpAny (model prog w) A (Jt (.ref it)) Q E s:=by
 obtain⟨o,ho,hc,hd⟩:=id hit;obtain⟨ol,hol,_,nl,hdl⟩:=ht;unfold Jt;refine wpAny_bind (Zy (name:=QaC "__next__") hit.typeIs Yv
  (Z9 Yv hit.typeIs QgP ?_ (QgK _)))
 show wpAny _ _ (field (.ref it) 0 >>= _) _ _ s;refine wpAny_bind (Ze ho hd (x:=.ref t) rfl ?_);show wpAny _ _ (if(Zl t == YR)=true then _ else _) _ _ s;rw[if_neg (show ¬((Zl t == YR)=true) from Qu)];show wpAny _ _ (field (.ref it) 1 >>= _) _ _ s;refine wpAny_bind (Ze ho hd (x:=.int i 0) rfl ?_);show wpAny _ _ (seqItems? (.ref t) >>= _) _ _ s;refine wpAny_bind (J5 hol hdl ?_);simp only[Jz,hx];refine wpAny_bind (wpAny_rule (wpAny_bind (wpAny_setField ho hd (by simp) ?_)));show wpAny _ _ (newExc (.type "StopIteration") [] >>= _) _ _ _;refine wpAny_bind ?_
 simp only[newExc,newTuple];refine wpAny_bind (JW ?_ (by size_fits));refine wpAny_bind (m:=firstArgMember _ _) (wpAny_of_eq (a:=YR) (by first | rfl | (simp only[firstArgMember];rfl)) ?_);refine JW ?_ (by size_fits)
 simp only[raiseNew];refine wpAny_bind (wpAny_handled ?_)
 first | rw[show A.in1.handled=none from hh] | rw[hh]
 refine wpAny_bind (Qp (wpAny_throw ?_));exact hE _ _ (((QfJ ..).extBut.push _).push _) ⟨_,Qv _ rfl,rfl⟩
structure Apart (z TI TO i1 i2 t1 t2:Addr):Prop where
 a1:TI≠z
 a2:TO≠z
 a3:i1≠z
 a4:i2≠z
 a5:TI≠TO
 a6:TI≠i1
 a7:TI≠i2
 a8:TO≠i1
 a9:TO≠i2
 b1:i1≠i2
 b2:t1≠z/\t1≠TO/\t1≠i1/\t1≠i2
 b3:t2≠z/\t2≠TO/\t2≠i1/\t2≠i2
structure Qmx (h:J8) (z TI TO i1 i2 t1 t2:Addr) (f:Value) (k:Nat):Prop where
 zp:Qp6 h z TI TO f
 ti:IsPair h TI (.ref i1) (.ref i2)
 to:∃a b,IsPair h TO a b
 i1:h.IsTupleIter i1 t1 k
 i2:h.IsTupleIter i2 t2 k
theorem Qlh{z TI TO i1 i2 t1 t2:Addr}{k:Nat}{xs ys:Array Value}{x y:Value}{Q:Option Value->Shared->Prop}(D:Apart z TI TO i1 i2 t1 t2)(Z:Qmx s.heap z TI TO i1 i2 t1 t2 .none k)
  (hl1:s.heap.IsTuple t1 xs)(hl2:s.heap.IsTuple t2 ys)(hx:xs[k]? = some x)(hy:ys[k]? = some y)
  (hQ:∀h',Qmx h' z TI TO i1 i2 t1 t2 (rawInt s.heap.objs.size) (k+1)->IsPair h' s.heap.objs.size x y->(∀c o,c≠z->c≠TO->c≠i1->c≠i2->s.heap.get? c=some o->h'.get? c=some o)->Q (some (.ref s.heap.objs.size)) { s with heap:=h' }) :
  wpAny (model prog w) A (pyNext (.ref z)) Q E s:=by
 obtain⟨hz,hTI,⟨a,b,hTO⟩,h1,h2⟩:=Z;have hT:s.TypeIs (.ref z) "zip" := ⟨_,hz,rfl⟩;unfold pyNext;refine wpAny_bind (wpAny_attempt (Zy (name:=QaC "__next__") hT Qcf (Z9 Qcf hT QwA ?_ (QtX _))));show wpAny _ _ (field (.ref z) 2 >>= _) _ _ _;refine wpAny_bind (Ze hz rfl (x:=.bool false) rfl ?_);show wpAny _ _ (field (.ref z) 3 >>= _) _ _ _;refine wpAny_bind (Ze hz rfl (x:=.ref TI) rfl (wpAny_bind (J5 hTI rfl ?_)));show wpAny _ _ (Zb (.ref z) >>= _) _ _ _;refine wpAny_bind ?_
 unfold Zb;refine wpAny_bind (Ze hz rfl (x:=.none) rfl (Qp ?_));simp only[if_true];refine wpAny_bind (wpAny_rule (wpAny_bind (Ze hz rfl (x:=.ref TO) rfl (wpAny_bind (Yj hz (by simp) λg1 z1 s1=>?_)))))
 replace z1:Qp6 g1 z TI TO .ellipsis:=z1
 refine wpAny_bind ?_
 simp only[QpZ,QtC,QfH,QtW];refine wpAny_bind (wpAny_bind (QeD ?_));show wpAny _ _ (Jt (.ref i1) >>= _) _ _ _;refine wpAny_bind (Qdc (h1.extBut s1.extBut D.a3) (hl1.extBut s1.extBut D.b2.1) hx λg2 p2 s2=>Qp ?_);have o2:IsPair g2 TO a b:=s2.extBut _ _ D.a8 (s1.extBut _ _ D.a2 hTO);refine wpAny_bind (J5 o2 rfl (wpAny_bind (Qdf o2 λg3 o3 s3=>wpAny_bind (QaG (Qp ?_)))))
 replace o3:IsPair g3 TO x b:=o3
 refine wpAny_bind (wpAny_bind (QeD ?_));show wpAny _ _ (Jt (.ref i2) >>= _) _ _ _;refine wpAny_bind (Qdc (((h2.extBut s1.extBut D.a4).extBut s2.extBut D.b1.symm).extBut s3.extBut D.a9.symm)
  (((hl2.extBut s1.extBut D.b3.1).extBut s2.extBut D.b3.2.2.1).extBut s3.extBut D.b3.2.1) hy λg4 p4 s4=>Qp ?_)
 have o4:IsPair g4 TO x b:=s4.extBut _ _ D.a9 o3;refine wpAny_bind (J5 o4 rfl (wpAny_bind (Qdf o4 λg5 o5 s5=>wpAny_bind (QaG (Qp (Qp ?_))))))
 replace o5:IsPair g5 TO x y:=o5
 refine wpAny_bind (J5 o5 rfl (wpAny_bind (wpAny_newTuple ?_)));have sz:g5.objs.size=s.heap.objs.size:=by rw[s5.1,s4.1,s3.1,s2.1,s1.1]
 have kp:∀c o,c≠z->c≠TO->c≠i1->c≠i2->s.heap.get? c=some o->g5.get? c=some o:=λc o c1 c2 c3 c4 e=>
  s5.extBut _ _ c2 (s4.extBut _ _ c4 (s3.extBut _ _ c2 (s2.extBut _ _ c3 (s1.extBut _ _ c1 e))))
 have z5:Qp6 g5 z TI TO .ellipsis:=s5.extBut _ _ D.a2.symm (s4.extBut _ _ D.a4.symm (s3.extBut _ _ D.a2.symm (s2.extBut _ _ D.a3.symm z1)));have q1:g5.IsTupleIter i1 t1 (k+1):=((p2.extBut s3.extBut D.a8.symm).extBut s4.extBut D.b1).extBut s5.extBut D.a8.symm;have q2:g5.IsTupleIter i2 t2 (k+1):=p4.extBut s5.extBut D.a9.symm;show wpAny _ _ (Qao (.ref z) (.ref g5.objs.size) >>= _) _ _ _;refine wpAny_bind ?_
 unfold Qao;have z6:Qp6 (g5.push { cls:=.type "tuple",data:=.seq #[x,y] }) z TI TO .ellipsis:=Qd _ z5;refine wpAny_bind (Yj z6 (by simp) λg7 z7 s7=>?_)
 replace z7:Qp6 g7 z TI TO (rawInt g5.objs.size):=z7
 refine Yj z7 (by simp) λg8 z8 s8=>?_
 replace z8:Qp6 g8 z TI TO (rawInt g5.objs.size):=z8
 have up:∀c o,c≠z->g5.get? c=some o->g8.get? c=some o:=λc o c1 e=>s8.extBut _ _ c1 (s7.extBut _ _ c1 (Qd _ e))
 have ne:g5.objs.size≠z:=QbU (Qj z5);have t8:IsPair g8 g5.objs.size x y:=s8.extBut _ _ ne (s7.extBut _ _ ne (Qv _ rfl));rw[sz] at z8 t8;refine Qp ⟨_,rfl,Qp ?_⟩;show Q (some (.ref g5.objs.size)) _;rw[sz];exact hQ g8 ⟨z8,up _ _ D.a1 (kp _ _ D.a1 D.a5 D.a6 D.a7 hTI),⟨x,y,up _ _ D.a2 o5⟩,q1.at λo e=>up _ o D.a3 e,q2.at λo e=>up _ o D.a4 e⟩ t8 λc o c1 c2 c3 c4 e=>up c o c1 (kp c o c1 c2 c3 c4 e)
theorem Qoj{z TI TO i1 i2 t1 t2:Addr}{k:Nat}{xs ys:Array Value}{Q:Option Value->Shared->Prop}(hh:A.handled=none)(D:Apart z TI TO i1 i2 t1 t2)(Z:Qmx s.heap z TI TO i1 i2 t1 t2 .none k)
  (hl1:s.heap.IsTuple t1 xs)(hl2:s.heap.IsTuple t2 ys)(hend:xs[k]? = none∨ys[k]? = none)
  (hQ:∀h',(∀c o,c≠z->c≠TO->c≠i1->c≠i2->s.heap.get? c=some o->h'.get? c=some o)->Q none { s with heap:=h' }):wpAny (model prog w) A (pyNext (.ref z)) Q E s:=by
 obtain⟨hz,hTI,⟨a,b,hTO⟩,h1,h2⟩:=Z;have hT:s.TypeIs (.ref z) "zip" := ⟨_,hz,rfl⟩;have fin:∀(h':J8)(e:Addr),(∀c o,c≠z->c≠TO->c≠i1->c≠i2->s.heap.get? c=some o->h'.get? c=some o)->(∃o,h'.get? e=some o/\o.cls=.type "StopIteration") ->
   wpAny (model prog w) A (isInstance (.ref e) (.type "StopIteration") >>= λx=>if x=true then pure none else throw (.ref e)) Q E { s with heap:=h' }:=λh' e hk he=>by
  obtain⟨o,ho,hc⟩:=he;refine wpAny_bind (wpAny_isInstance (T := "StopIteration") (b:=true) ⟨o,ho,hc⟩ isSubtype_stop ?_);exact Qp (hQ _ hk)
 unfold pyNext;refine wpAny_bind (wpAny_attempt (Zy (name:=QaC "__next__") hT Qcf (Z9 Qcf hT QwA ?_ (QtX _))));show wpAny _ _ (field (.ref z) 2 >>= _) _ _ _;refine wpAny_bind (Ze hz rfl (x:=.bool false) rfl ?_);show wpAny _ _ (field (.ref z) 3 >>= _) _ _ _;refine wpAny_bind (Ze hz rfl (x:=.ref TI) rfl (wpAny_bind (J5 hTI rfl ?_)));show wpAny _ _ (Zb (.ref z) >>= _) _ _ _;refine wpAny_bind ?_
 unfold Zb;refine wpAny_bind (Ze hz rfl (x:=.none) rfl (Qp ?_));simp only[if_true];refine wpAny_bind (wpAny_rule (wpAny_bind (Ze hz rfl (x:=.ref TO) rfl (wpAny_bind (Yj hz (by simp) λg1 z1 s1=>?_)))))
 replace z1:Qp6 g1 z TI TO .ellipsis:=z1
 refine wpAny_bind ?_
 simp only[QpZ,QtC,QfH,QtW];refine wpAny_bind (wpAny_bind (QeD ?_));show wpAny _ _ (Jt (.ref i1) >>= _) _ _ _;cases hx:xs[k]? with
 |none=>
  refine wpAny_bind (Qhd hh (h1.extBut s1.extBut D.a3) (hl1.extBut s1.extBut D.b2.1) hx λg2 e s2 he=>?_);obtain⟨oe,hoe,hce⟩:=he;have z2:Qp6 g2 z TI TO .ellipsis:=s2 _ _ D.a3.symm z1;have hez:e≠z:=λq=>by subst q;rw[z2] at hoe;cases hoe;simp at hce
  refine Yj z2 (by simp) λg3 _ s3=>?_
  exact fin g3 e (λc o c1 _ c3 _ q=>s3.extBut _ _ c1 (s2 _ _ c3 (s1.extBut _ _ c1 q))) ⟨oe,s3.extBut _ _ hez hoe,hce⟩
 |some x=>
  have hy:ys[k]? = none:=by
   rcases hend with q | q
   ·rw[hx] at q;cases q
   ·exact q
  refine wpAny_bind (Qdc (h1.extBut s1.extBut D.a3) (hl1.extBut s1.extBut D.b2.1) hx λg2 p2 s2=>Qp ?_);have o2:IsPair g2 TO a b:=s2.extBut _ _ D.a8 (s1.extBut _ _ D.a2 hTO);refine wpAny_bind (J5 o2 rfl (wpAny_bind (Qdf o2 λg3 o3 s3=>wpAny_bind (QaG (Qp ?_)))));refine wpAny_bind (wpAny_bind (QeD ?_));show wpAny _ _ (Jt (.ref i2) >>= _) _ _ _;refine wpAny_bind (Qhd hh (((h2.extBut s1.extBut D.a4).extBut s2.extBut D.b1.symm).extBut s3.extBut D.a9.symm)
   (((hl2.extBut s1.extBut D.b3.1).extBut s2.extBut D.b3.2.2.1).extBut s3.extBut D.b3.2.1) hy λg4 e s4 he=>?_)
  obtain⟨oe,hoe,hce⟩:=he;have z4:Qp6 g4 z TI TO .ellipsis:=s4 _ _ D.a4.symm (s3.extBut _ _ D.a2.symm (s2.extBut _ _ D.a3.symm z1));have hez:e≠z:=λq=>by subst q;rw[z4] at hoe;cases hoe;simp at hce
  refine Yj z4 (by simp) λg5 _ s5=>?_
  exact fin g5 e (λc o c1 c2 c3 c4 q=>s5.extBut _ _ c1 (s4 _ _ c4 (s3.extBut _ _ c2 (s2.extBut _ _ c3 (s1.extBut _ _ c1 q))))) ⟨oe,s5.extBut _ _ hez hoe,hce⟩
end
abbrev zh1 (h:J8) (t1:Addr):J8:=h.push { cls:=.type "tuple_iterator",data:=.fields #[.ref t1,.int 0 0] }
abbrev zh2 (h:J8) (t1 t2:Addr):J8:=(zh1 h t1).push { cls:=.type "tuple_iterator",data:=.fields #[.ref t2,.int 0 0] }
abbrev zh3 (h:J8) (t1 t2:Addr):J8:=(zh2 h t1 t2).push { cls:=.type "tuple",data:=.seq #[.ref h.objs.size,.ref (zh1 h t1).objs.size] }
abbrev zh4 (h:J8) (t1 t2:Addr):J8:=(zh3 h t1 t2).push { cls:=.type "tuple",data:=.seq #[.none,.none] }
abbrev zh5 (h:J8) (t1 t2:Addr):J8:=(zh4 h t1 t2).push { cls:=.type "zip",data:=.fields #[.none,.bool false,.bool false,.ref (zh2 h t1 t2).objs.size,.ref (zh3 h t1 t2).objs.size] }
theorem Qzz(t1 t2:Addr)(xs ys:Array Value) :
  Meets (QmT.«zip.__new__» ⟨[.type "zip",.ref t1,.ref t2],[]⟩) (λ_ R s=>s.heap.IsTuple t1 xs/\s.heap.IsTuple t2 ys/\R (.ok (.ret (.ref (zh4 s.heap t1 t2).objs.size))) { s with heap:=zh5 s.heap t1 t2 }):=
 .of_wp λprog w A R s h=>by
  obtain⟨hp,g,d,tk,os⟩:=s;obtain⟨hl1,hl2,h⟩:=h;have hsub:=sub_zip;have k1:QjH (Qjv ⟨hp,g,d,tk,os⟩) t1 xs:=hl1;have k2:QjH (Qjv ⟨hp.push { cls:=.type "tuple_iterator",data:=.fields #[.ref t1,.int 0 0] },g,d,tk,os⟩) t2 ys:=hl2.at λo e=>Qd _ e
  wp_walk using ZJ k1,ZJ k2
  exact⟨_,rfl,h⟩
section
variable{prog:QN}{w:Jj}{A:Jh}{E:Value->Shared->Prop}{s:Shared}
theorem QoM{t1 t2:Addr}{xs ys:Array Value}{Q:Value->Shared->Prop}(hl1:s.heap.IsTuple t1 xs)(hl2:s.heap.IsTuple t2 ys)
  (h:∀h',Qmx h' (s.heap.objs.size+4) (s.heap.objs.size+2) (s.heap.objs.size+3) s.heap.objs.size (s.heap.objs.size+1) t1 t2 .none 0->(∀c o,s.heap.get? c=some o->h'.get? c=some o)->Q (.ref (s.heap.objs.size+4)) { s with heap:=h' }) :
  wpAny (model prog w) A (call (.type "zip") [.ref t1,.ref t2]) Q E s:=by
 refine callType_new F.called_zip (by decide) (F.typeCall_zip_2 _ _) (F.newCall_zip_2 _ _) (λobj=>F.args_object_init_3 obj _ _) F.entry_zip_new (Qzz t1 t2 xs ys) ⟨hl1,hl2,?_⟩;have z1:(zh1 s.heap t1).objs.size=s.heap.objs.size+1:=ZH ..;have z2:(zh2 s.heap t1 t2).objs.size=s.heap.objs.size+2:=by rw[ZH,z1]
 have z3:(zh3 s.heap t1 t2).objs.size=s.heap.objs.size+3:=by rw[ZH,z2]
 have z4:(zh4 s.heap t1 t2).objs.size=s.heap.objs.size+4:=by rw[ZH,z3]
 have g5:(zh5 s.heap t1 t2).get? (zh4 s.heap t1 t2).objs.size=some _:=Qv _ rfl;have g4:(zh5 s.heap t1 t2).get? (zh3 s.heap t1 t2).objs.size=some _:=Qd _ (Qv _ rfl);have g3:(zh5 s.heap t1 t2).get? (zh2 s.heap t1 t2).objs.size=some _:=Qd _ (Qd _ (Qv _ rfl));have g2:(zh5 s.heap t1 t2).get? (zh1 s.heap t1).objs.size=some _:=Qd _ (Qd _ (Qd _ (Qv _ rfl)));have g1:(zh5 s.heap t1 t2).get? s.heap.objs.size=some _:=Qd _ (Qd _ (Qd _ (Qd _ (Qv _ rfl))));show _/\_;rw[z2,z3,z4] at g5;rw[z1,z2] at g3;rw[z3] at g4;rw[z1] at g2;rw[z4];exact⟨⟨_,g5,rfl⟩,h _ ⟨g5,g3,⟨_,_,g4⟩,⟨_,g1,rfl,rfl⟩,⟨_,g2,rfl,rfl⟩⟩ λc o x=>Qd _ (Qd _ (Qd _ (Qd _ (Qd _ x))))⟩
end
end Rz
namespace L2
section
variable{X:Cx}{pins:List (Addr×Obj)}{σ:St}{H:Hp}{s:Shared}{h':J8}
theorem Inv.turnedNew{t':Nat}{ch:List Addr}{a:Addr}{o:HO}(I:Inv X pins σ H s)(hch:∀b∈ch,FpOk X pins H b)(k:∀b u,b∉ch->s.heap.get? b=some u->h'.get? b=some u)(hp:s.heap.objs.size<=a)
  (new:ObjOk X.prog X.w (upd H a o) h' a o):Inv X pins σ (upd H a o) { s with heap:=h',toks:=t' }:=by
 have hn:H a=none:=I.hok.fresh hp;have nch:∀b u,H b=some u->b∉ch:=λb u e z=>by rw[(hch b z).1] at e;cases e
 refine I.step (g':=s.gens) (d':=s.drawn) (ch:=ch) (λb hb=>?_) (λb u _ _ hc e _=>k b u hc e) (λb u _ _ hc e _=>⟨u.slots,k b u hc e⟩) (λb u hc e n=>?_) (λb u hc e=>⟨u,k b u hc e⟩)
  (λb xs e=>by rw[Jq (JL e hn)];exact e) (λb u v e=>by rw[Jq (JL e hn)];exact e) (λb ps e=>⟨#[],by rw[Jq (JL e hn),e];simp⟩) (λm hm=>?_) (λb u e=>?_) I.bare
 ·obtain⟨f0,f1,f2,f3,f4,f5⟩:=hch b hb;exact⟨f3,f1,f4,f5⟩
 ·rw[Jq (QF (QU (Qj e) hp))];exact n
 ·obtain⟨u,es,ep,ho,r⟩:=hm;exact⟨u,es,ep,k _ u (λz=>(hch _ z).2.1 rfl) ho,r⟩
 ·by_cases hb:b=a
  ·subst hb;rw[Ju] at e;cases e;exact new
  ·rw[Jq hb] at e;refine(I.hok b u e).stay (λc v hc q=>k c v ?_ q) (λc q=>by rw[Jq (JL q hn)];exact q) (λc xs q=>by rw[Jq (JL q hn)];exact q) λc z u q=>by rw[Jq (JL q hn)];exact q
   rcases hc with z | z
   ·rw[z];exact nch b u e
   ·exact nch c _ z
theorem Inv.turnedAll{t':Nat}{ch:List Addr}(I:Inv X pins σ H s)(hch:∀b∈ch,FpOk X pins H b)(k:∀b u,b∉ch->s.heap.get? b=some u->h'.get? b=some u):Inv X pins σ H { s with heap:=h',toks:=t' }:=by
 have nch:∀b u,H b=some u->b∉ch:=λb u e z=>by rw[(hch b z).1] at e;cases e
 refine I.step (g':=s.gens) (d':=s.drawn) (ch:=ch) (λb hb=>?_) (λb u _ _ hc e _=>k b u hc e) (λb u _ _ hc e _=>⟨u.slots,k b u hc e⟩) (λb u hc e n=>n) (λb u hc e=>⟨u,k b u hc e⟩)
  (λb xs e=>e) (λb u v e=>e) (λb ps e=>⟨#[],by rw[e];simp⟩) (λm hm=>?_) (λb u e=>?_) I.bare
 ·obtain⟨f0,f1,f2,f3,f4,f5⟩:=hch b hb;exact⟨f3,f1,f4,f5⟩
 ·obtain⟨u,es,ep,ho,r⟩:=hm;exact⟨u,es,ep,k _ u (λz=>(hch _ z).2.1 rfl) ho,r⟩
 ·refine(I.hok b u e).stay (λc v hc q=>k c v ?_ q) (λc q=>q) λc xs q=>q
  rcases hc with z | z
  ·rw[z];exact nch b u e
  ·exact nch c _ z
end
def Itz(t1 t2:Addr):It:=
 ⟨λi H=>∃xs ys x y,H t1=some (.tup xs)/\H t2=some (.tup ys)/\xs[i]? = some x/\ys[i]? = some y,
  λi H v H'=>∃p x y,H p=none/\(∀xs,H t1=some (.tup xs)->xs[i]? = some x)/\(∀ys,H t2=some (.tup ys)->ys[i]? = some y)/\v=.ref p/\H'=upd H p (.tup [x,y]),
  λi H=>∃xs ys,H t1=some (.tup xs)/\H t2=some (.tup ys)/\(xs.length<=i∨ys.length<=i)⟩
theorem QmZ{P:QN}{w:Jj}{K:PySem.W.Frag}{elts:List QV}{x1}{tpos:Pos}{z TI TO i1 i2 t1 t2:Addr}(D:Rz.Apart z TI TO i1 i2 t1 t2) :
  Turn P w K (.Tuple elts x1 tpos) (Itz t1 t2) [z,TI,TO,i1,i2] z (λi h=>Rz.Qmx h z TI TO i1 i2 t1 t2 .none i) where
 mem:=by simp
 obj:=λi h st b hb=>by
  obtain⟨a1,a2,⟨_,_,a3⟩,⟨o4,a4,_,d4⟩,⟨o5,a5,_,d5⟩⟩:=st;simp only[Qt,Q5,or_false] at hb;rcases hb with rfl | rfl | rfl | rfl | rfl
  ·exact⟨_,a1,λv q=>nomatch q⟩
  ·exact⟨_,a2,λv q=>nomatch q⟩
  ·exact⟨_,a3,λv q=>nomatch q⟩
  ·exact⟨_,a4,λv q=>by rw[d4] at q;cases q⟩
  ·exact⟨_,a5,λv q=>by rw[d5] at q;cases q⟩
 keep:=λi h h' st k=>by
  obtain⟨a1,a2,⟨a,b,a3⟩,a4,a5⟩:=st;exact⟨k z (by simp) _ a1,k TI (by simp) _ a2,⟨a,b,k TO (by simp) _ a3⟩,a4.at λo e=>k i1 (by simp) o e,a5.at λo e=>k i2 (by simp) o e⟩
 item:=by
  intro X hP hw hK hc i pins s σ H E I hf st hg;subst hP hw hK;obtain⟨xs,ys,x,y,h1,h2,hx,hy⟩:=hg;obtain⟨its1,r1,p1,_⟩:=I.tuple (SqT.of h1);obtain⟨its2,r2,p2,_⟩:=I.tuple (SqT.of h2);obtain⟨u1,hu1,ru1⟩:=r1.get hx;obtain⟨u2,hu2,ru2⟩:=r2.get hy;refine Rz.Qlh D st (show s.heap.IsTuple t1 its1.toArray from p1) (show s.heap.IsTuple t2 its2.toArray from p2) (by simpa using hu1) (by simpa using hu2) λh' st' tp kp=>?_
  have hlt:∀b∈[z,TI,TO,i1,i2],b≠s.heap.objs.size:=λb hb=>by
   obtain⟨a1,a2,⟨_,_,a3⟩,⟨o4,a4,_,d4⟩,⟨o5,a5,_,d5⟩⟩:=st;simp only[Qt,Q5,or_false] at hb;rcases hb with rfl | rfl | rfl | rfl | rfl
   ·exact QF (Qj a1)
   ·exact QF (Qj a2)
   ·exact QF (Qj a3)
   ·exact QF (Qj a4)
   ·exact QF (Qj a5)
  have fr:H s.heap.objs.size=none:=I.hok.fresh (Qi _);refine⟨_,rfl,QjM st'.zp λh2' z2 s2=>?_⟩;have I1:Inv X pins σ (upd H s.heap.objs.size (.tup [x,y])) { s with heap:=h2',toks:=s.toks }:=by
   refine I.turnedNew (ch:=[z,TI,TO,i1,i2]) hf (λb u hb e=>?_) (Qi _) ⟨by show 2<=sizeLine;decide,[u1,u2],.cons ru1 (.cons ru2 .nil),?_⟩
   ·simp only[Qt,Q5,or_false,not_or] at hb;exact s2.extBut _ _ hb.1 (kp b u hb.1 hb.2.2.1 hb.2.2.2.1 hb.2.2.2.2 e)
   ·exact⟨_,s2.extBut _ _ (hlt z (by simp)).symm tp,rfl,rfl,0,rfl⟩
  refine⟨.ref s.heap.objs.size,_,I1,rfl,⟨_,x,y,fr,λxs' e=>?_,λys' e=>?_,rfl,rfl⟩,?_,λb hb=>?_⟩
  ·rw[h1] at e;cases e;exact hx
  ·rw[h2] at e;cases e;exact hy
  ·obtain⟨a1,a2,⟨a,b,a3⟩,a4,a5⟩:=st';exact⟨z2,s2.extBut _ _ D.a1 a2,⟨a,b,s2.extBut _ _ D.a2 a3⟩,a4.extBut s2.extBut D.a3,a5.extBut s2.extBut D.a4⟩
  ·rw[Jq (hlt b hb)];exact(hf b hb).1
 done:=by
  intro X hP hw hK hc i pins s σ H E I hf st hg;subst hP hw hK;obtain⟨xs,ys,h1,h2,he⟩:=hg;obtain⟨its1,r1,p1,_⟩:=I.tuple (SqT.of h1);obtain⟨its2,r2,p2,_⟩:=I.tuple (SqT.of h2);have l1:=r1.length;have l2:=r2.length;refine Rz.Qoj (I.ok.hd hc) D st (show s.heap.IsTuple t1 its1.toArray from p1) (show s.heap.IsTuple t2 its2.toArray from p2) ?_ λh' kp=>⟨rfl,I.turnedAll (t':=s.toks) (ch:=[z,TI,TO,i1,i2]) hf λb u hb e=>?_⟩
  ·rcases he with q | q
   ·exact .inl (by simp;omega)
   ·exact .inr (by simp;omega)
  ·simp only[Qt,Q5,or_false,not_or] at hb;exact kp b u hb.1 hb.2.2.1 hb.2.2.2.1 hb.2.2.2.2 e
 self:=λ_ _ _ _ _ st h=>Qb7 st.zp h
section
variable{X:Cx}
theorem apart_new(n t1 t2:Nat)(h1:t1<n)(h2:t2<n):Rz.Apart (n+4) (n+2) (n+3) n (n+1) t1 t2 where
 a1:=by show ¬(n+2=n+4);omega
 a2:=by show ¬(n+3=n+4);omega
 a3:=by show ¬(n=n+4);omega
 a4:=by show ¬(n+1=n+4);omega
 a5:=by show ¬(n+2=n+3);omega
 a6:=by show ¬(n+2=n);omega
 a7:=by show ¬(n+2=n+1);omega
 a8:=by show ¬(n+3=n);omega
 a9:=by show ¬(n+3=n+1);omega
 b1:=by show ¬(n=n+1);omega
 b2:=⟨by show ¬(t1=n+4);omega,by show ¬(t1=n+3);omega,by show ¬(t1=n);omega,by show ¬(t1=n+1);omega⟩
 b3:=⟨by show ¬(t2=n+4);omega,by show ¬(t2=n+3);omega,by show ¬(t2=n);omega,by show ¬(t2=n+1);omega⟩
def QzD(ta:TA):TI:=λσ H R=>ta σ H λvs H1=>∃t1 t2 xs ys,vs=[.ref t1,.ref t2]/\H1 t1=some (.tup xs)/\H1 t2=some (.tup ys)/\R (Itz t1 t2) H1
theorem Qmm:bootBuiltins "zip" = some (.type "zip"):=by decide +kernel
theorem QuI{a b:QV}{elts:List QV}{x1}{tpos:Pos}{ta:TA}{p pos:Pos}(hg:Gl X "zip")(hm:X.mg "zip" = none)(ha:PA X [a,b] ta)(hs:starEach [a,b] X.env=[(false,eval a X.env),(false,eval b X.env)]:=by rfl)(hs2:starEach [b] X.env=[(false,eval b X.env)]:=by rfl) :
  PI X (.Tuple elts x1 tpos) (.Call (.Name "zip" p) [a,b] [] pos) (QzD ta):=by
 intro pins s σ H R I h;refine Call_ (Qb3 I hg hm Qmm (JO (thn (ha pos pins s σ H _ I h) λus s1 ⟨vs,H1,I1,r1,q1⟩=>?_) (by rw[hs,hs2]) (by rw[hs2];rfl)));obtain⟨t1,t2,xs,ys,e,h1,h2,q⟩:=q1;subst e;obtain⟨u,v,rfl,ru,rv⟩:=vals2 r1;cases(show u=Zl t1 from ru);cases(show v=Zl t2 from rv);obtain⟨its1,w1,p1,_⟩:=I1.tuple (SqT.of h1);obtain⟨its2,w2,p2,_⟩:=I1.tuple (SqT.of h2);have n1:t1<s1.heap.objs.size:=I1.hok.lt h1;have n2:t2<s1.heap.objs.size:=I1.hok.lt h2;refine Rz.QoM (show s1.heap.IsTuple t1 its1.toArray from p1) (show s1.heap.IsTuple t2 its2.toArray from p2) λh' st kp=>?_
 refine Qb7 (s:={ s1 with heap:=h' }) st.zp ?_
 have D:=apart_new s1.heap.objs.size t1 t2 n1 n2;refine⟨s1.heap.objs.size+4,_,_,_,H1,rfl,I1.kept (t':=s1.toks) kp,QmZ D,st,λb hb=>?_,q⟩;have hb':s1.heap.objs.size<=b:=by
  simp only[Qt,Q5,or_false] at hb;rcases hb with rfl | rfl | rfl | rfl | rfl<;>omega
 exact I1.fpOk hb' (I1.hok.fresh hb')
end
end L2
namespace Rk
open L2
def Qyr:Option HO->Option (List V)
 |some (.tup xs)=>some xs
 |_=>none
def QeS(H:Hp):V->Option (List V)
 |.ref a=>Qyr (H a)
 |_=>none
theorem QhM(H:Hp)(a:Addr):QeS H (.ref a)=Qyr (H a):=rfl
def isT(H:Hp)(x:V):Bool:=(QeS H x).isSome
def Kn(p:Addr)(H:Hp):V->Prop
 |.non=>True
 |.bl _=>True
 |.int _=>True
 |.str _=>True
 |.ref a=>a≠p/\((∃xs,H a=some (.tup xs))∨(∃xs,H a=some (.lst xs))∨∃kvs,H a=some (.dK kvs))
 |_=>False
def KnD(p:Addr):Nat->Hp->V->Prop
 |0,H,x=>Kn p H x
 |n+1,H,x=>Kn p H x/\∀xs,QeS H x=some xs->∀y∈xs,KnD p n H y
def KX(p:Addr)(H H':Hp):Prop:=∀b o,b≠p->H b=some o->H' b=some o
theorem KX.of{p:Addr}{H H':Hp}(h:Same H H'):KX p H H':=λb o _ e=>h b o e
theorem KX.new{p q:Addr}{H:Hp}{o:HO}(h:H q=none):KX p H (L2.upd H q o):=KX.of (JI h)
theorem KnD.low{p:Addr}{H:Hp}:∀{n:Nat}{x:V},KnD p (n+1) H x->KnD p n H x
 |0,x,h=>h.1
 |n+1,x,h=>⟨h.1,λxs e y hy=>KnD.low (h.2 xs e y hy)⟩
theorem KnD.tup{p:Addr}{H:Hp}{n:Nat}{a:Addr}{xs:List V}(hp:a≠p)(e:H a=some (.tup xs))(h:∀y∈xs,KnD p n H y):KnD p (n+1) H (.ref a):=
 ⟨⟨hp,.inl ⟨xs,e⟩⟩,λys z y hy=>h y (by
  have z':some xs=some ys:=by rw[<- z,QhM,e];rfl
  cases z';exact hy)⟩
theorem KnD.int{p:Addr}{H:Hp}(i:Int):∀(n:Nat),KnD p n H (.int i)
 |0=>trivial
 |n+1=>⟨trivial,λ_ e=>nomatch e⟩
theorem QfT{H:Hp}{a:Addr}{xs:List V}(e:H a=some (.tup xs)):QeS H (.ref a)=some xs:=by rw[QhM,e];rfl
def Qpq(H:Hp)(x:V):List Int:=((QeS H x).getD []).map λy=>match y with
 |.int i=>i
 |_=>0
def IntsT(H:Hp)(x:V)(ns:List Int):Prop:=∃a,x=.ref a/\H a=some (.tup (ns.map V.int))
theorem IntsT.eq{H:Hp}{x:V}{ns:List Int}(h:IntsT H x ns):Qpq H x=ns:=by
 obtain⟨a,rfl,e⟩:=h;unfold Qpq;rw[QfT e];show(ns.map V.int).map _=ns;rw[QY];exact QcH _
theorem Qfw:bootBuiltins "isinstance" = some (.builtin "isinstance"):=by decide +kernel
theorem Qmk:bootBuiltins "int" = some (.type "int"):=by decide +kernel
theorem Qts:bootBuiltins "bool" = some (.type "bool"):=by decide +kernel
theorem Qbl:bootBuiltins "tuple" = some (.type "tuple"):=by decide +kernel
theorem Qgv:bootBuiltins "all" = some (.builtin "all"):=by decide +kernel
theorem Yi:bootBuiltins "len" = some (.builtin "len"):=by decide +kernel
theorem QeC:bootBuiltins "max" = some (.builtin "max"):=by decide +kernel
theorem Qmj:bootBuiltins "min" = some (.builtin "min"):=by decide +kernel
end Rk
namespace L2
theorem Qfi{J:It}{body:V->Hp->(Hp->Prop)->Prop}{Qn:Hp->Prop}{H:Hp}(n:Nat)(Pv:Nat->Hp->Prop)(h0:Pv 0 H)
  (hs:∀i H2,i<n->Pv i H2->J.go i H2/\∀x H3,J.yld i H2 x H3->∀k:Hp->Prop,(∀H6,Pv (i+1) H6->k H6)->body x H3 k)(hd:∀H2,Pv n H2->J.stop n H2/\Qn H2):Qj9 J body Qn H:=by
 refine⟨λi m H=>m=n - i/\i<=n/\Pv i H,⟨n,by simp,Jm _,h0⟩,?_⟩;rintro i m H2 ⟨rfl,hi,p⟩;by_cases hlt:i<n
 ·obtain⟨go,st⟩:=hs i H2 hlt p;exact .inr ⟨go,λx H3 y=>st x H3 y _ λH6 p6=>⟨n - (i+1),by omega,rfl,hlt,p6⟩⟩
 ·have e:i=n:=by omega
  subst e;exact .inl (hd H2 p)
end L2
namespace Rk
open L2
def QbX(K:PySem.W.Frag):Sp:=λvs H Q _=>∃a ns k,vs=[.ref a,.int k]/\SqL K H a ((ns:List Int).map V.int)/\ns.length<2^20/\0<=k/\∀c,Q (.int c) H
def Qug:Sp:=λvs H Q _=>∃c,vs=[.int c]/\∀p n,H p=none->Q (.ref p) (upd H p (.lst [.int n]))
def Cs(p:Addr)(H:Hp):List V->List (Int×Int)->Prop:=Qac λx ij=>∃d,d≠p/\x=.ref d/\H d=some (.tup [.int ij.1,.int ij.2])
def Qwo(a b:Int×Int):Prop:=a.1<b.1∨(a.1=b.1/\a.2<b.2)
structure Good (h w:Int) (L:List (Int×Int)):Prop where
 asc:L.Pairwise Qwo
 ins:∀x∈L,0<=x.1/\x.1<h/\0<=x.2/\x.2<w
 len:L.length<=36
theorem Qiq(x:Int){m:Int}(h:0<m):0<=x % m/\x % m<m:=⟨Int.emod_nonneg _ (by omega),Int.emod_lt_of_pos _ h⟩
def JH:QV->Bool
 |.Starred _ _=>false
 |_=>true
theorem Z1{e:QV}{es:List QV}{env:Env}(h:JH e=true):starEach (e::es) env=(false,eval e env)::starEach es env:=by
 cases e<;>first | rfl | cases h
section
variable{X:Cx}
theorem QfL{e:QV}{es:List QV}{te:TE}{t:TA}(ha:PE X e te)(hr:PA X es t)(hs:JH e=true:=by rfl):PA X (e::es) (Qm5 te t):=QaX ha hr (Z1 hs)
end
def Sm(H:Hp)(x:V):Prop:=∀ps,QeS H x=some ps->ps.length<sizeLine
def Part(p:Addr)(H:Hp)(x:V):Prop:=KnD p 2 H x/\Sm H x
def Qwk(p:Addr)(H:Hp)(x:V):Prop:=KnD p 3 H x/\Sm H x/\∀xs,QeS H x=some xs->∀y∈xs,Sm H y
theorem Qt6{H:Hp}{a:Addr}{xs ys:List V}(e:H a=some (.tup xs))(z:QeS H (.ref a)=some ys):ys=xs:=by
 rw[QfT e] at z;cases z;rfl
theorem Part.tup{p:Addr}{H:Hp}{a:Addr}{xs:List V}(hp:a≠p)(e:H a=some (.tup xs))(hl:xs.length<sizeLine)(h:∀y∈xs,KnD p 1 H y):Part p H (.ref a):=
 ⟨KnD.tup hp e h,λps z=>by rw[Qt6 e z];exact hl⟩
theorem QyU{P:V->Prop}:∀y∈([]:List V),P y:=λ_ h=>nomatch h
theorem Qyd{P:V->Prop}{a:V}{l:List V}(h:P a)(k:∀y∈l,P y):∀y∈a::l,P y:=λy hy=>by
 rcases Qt.mp hy with e | e
 ·subst e;exact h
 ·exact k y e
theorem Qcv{n:Nat}(h:n<=1000):n<sizeLine:=YN h (by decide)
def Fine(p:Addr):Nat->Hp->V->Prop
 |0,H,x=>Kn p H x/\Sm H x
 |n+1,H,x=>Kn p H x/\Sm H x/\∀xs,QeS H x=some xs->∀y∈xs,Fine p n H y
theorem Fine.sm{p:Addr}{H:Hp}{x:V}:∀{n:Nat},Fine p n H x->Sm H x
 |0,h=>h.2
 |_+1,h=>h.2.1
theorem Fine.knd{p:Addr}{H:Hp}:∀{n:Nat}{x:V},Fine p n H x->KnD p n H x
 |0,_,h=>h.1
 |_+1,_,h=>⟨h.1,λxs e y hy=>(h.2.2 xs e y hy).knd⟩
theorem Fine.thing{p:Addr}{H:Hp}{x:V}(h:∀n,Fine p n H x):Qwk p H x:=⟨(h 3).knd,(h 0).2,λxs e y hy=>((h 1).2.2 xs e y hy).2⟩
section
variable{X:Cx}
end
def Qxo(t:TA):TE:=λσ H Q=>t σ H λxs H1=>xs.length<=1000/\∀a H2,Same H1 H2->H1 a=none->H2 a=some (.tup xs)->Q (.ref a) H2
def Qxs(t:TA):TE:=λσ H Q=>t σ H λxs H1=>xs.length<=1000/\∀a H2,Same H1 H2->H1 a=none->H2 a=some (.lst xs)->Q (.ref a) H2
section
variable{X:Cx}
theorem QrV{es:List QV}{t:TA}{x1}{pos:Pos}(h:PA X es t):PE X (.Tuple es x1 pos) (Qxo t):=by
 intro pins s σ H Q I hq;refine wpAny_Tuple_spliced (thn (h pos pins s σ H _ I hq) λus s1 ⟨xs,H1,I1,r,z,q⟩=>⟨by rw[<- r.length];exact ZC (Qcv z),?_⟩);have hf:H1 s1.heap.objs.size=none:=I1.hok.fresh (Qi _);refine⟨.ref s1.heap.objs.size,upd H1 s1.heap.objs.size (.tup xs),I1.laid (t':=s1.toks) (λb u e=>Qd _ e) (Qi _) ?_,rfl,q _ _ (JI hf) hf Ju⟩;exact⟨ZC (Qcv z),us,r,⟨_,Qv _ rfl,rfl,rfl,_,rfl⟩⟩
theorem QrW{es:List QV}{t:TA}{pos:Pos}(h:PA X es t):PE X (.List es pos) (Qxs t):=by
 intro pins s σ H Q I hq;refine Qwp (thn (h pos pins s σ H _ I hq) λus s1 ⟨xs,H1,I1,r,z,q⟩=>⟨by rw[<- r.length];exact ZC (Qcv z),?_⟩);have hf:H1 s1.heap.objs.size=none:=I1.hok.fresh (Qi _);refine⟨.ref s1.heap.objs.size,upd H1 s1.heap.objs.size (.lst xs),I1.laid (t':=s1.toks) (λb u e=>Qd _ e) (Qi _) ?_,rfl,q _ _ (JI hf) hf Ju⟩;exact⟨ZC (Qcv z),us,0,r,Qv _ rfl⟩
end
def FineA(p:Addr)(H:Hp)(x:V):Prop:=∀n,Fine p n H x
theorem FineA.thing{p:Addr}{H:Hp}{x:V}(h:FineA p H x):Qwk p H x:=Fine.thing h
end Rk
namespace Rx
open PySem.Calls L2 PySem.W Builtin Builtin.ObjectAttr Builtin.Getset_descriptor
def ExAt(a C:Addr)(h:J8):Prop:=∃o vs,h.get? a=some o/\o.cls=.ref C/\o.data=.fields vs
theorem ExAt.ty{M:Model}{h:J8}{a C:Addr}(x:ExAt a C h):Looks M h (typeOf (.ref a)) (.ref C):=by
 obtain⟨o,vs,e,c,_⟩:=x;exact c ▸ (Looks.ld e).andThen .now
section
variable{prog:QN}{w:Jj}{A:Jh}{E:Value->Shared->Prop}{s:Shared}{K:PySem.W.Frag}{a C:Addr}
end
end Rx
namespace Rx
open PySem.Calls L2
section
variable{X:Cx}{E:XK}{C:Addr}{x:Str}{e0:QV}{te:TE}{np cpos pos:Pos}
end
section
variable{X:Cx}{pins:List (Addr×Obj)}{σ:L2.St}{H:Hp}{s:Shared}
end
def XP(X:Cx)(pins:List (Addr×Obj))(Ex:L2.St->Addr->Hp->Prop)(e:Value)(s1:Shared):Prop:=
 ∃(σ:L2.St)(C:Addr)(H':Hp)(a t:Addr)(B:J8),e=.ref a/\Heap.FlyingW B X.stack a (.ref C) (.ref t) s1.heap/\H' a=none/\X.s₀.heap.get? a=none/\(∀p∈X.pn++pins,p.1≠a) /\
  (∀(h2:J8)(tk:Nat),B.StaysIn h2->s1.heap.UpToSlots h2->Inv X pins σ H' { s1 with heap:=h2,toks:=tk })/\Ex σ C H'
section
variable{X:Cx}{k:Nat}{f:Addr}{fd:QK}{ps:List Str}{sp:Sp}{x:Str}{p pos:Pos}{e:QV}{es:List QV}{t:TA}
end
section
variable{X:Cx}{R:Addr}{i:Nat}{n r:Str}{call hx:QV}{tc:TX}{th:TE}{rp np hp hpos pos:Pos}
end
section
variable{P:QN}{w:Jj}{K:PySem.W.Frag}{mg:Str->Option Value}{base:J8}
end
section
variable{X:Cx}{k:Nat}{f:Addr}{fd:QK}{ps:List Str}{sp:Sp}{x:Str}{p pos:Pos}{e:QV}{es:List QV}{t:TA}
end
section
variable{X:Cx}
theorem bools_eq{bs:List Bool}{us:List Value}(r:Vals (bs.map V.bl) us):us=bs.map Ye:=by
 induction bs generalizing us with
 |nil=>cases r;rfl
 |cons b bs ih=>
  cases r with
  |cons r t=>
   cases(show _=Ye b from r);rw[ih t];rfl
end
end Rx
namespace Rd
open L2
mutual
inductive Dat (H:Hp):V->PyData->Prop
 |non:Dat H .non .none
 |bl (b:Bool):Dat H (.bl b) (.bool b)
 |int (i:Int):Dat H (.int i) (.int i)
 |str (x:Str):QfB (.str x)=true->Dat H (.str x) (.str x)
 |tup {a:Addr} {xs:List V} {ds:List PyData}:H a=some (.tup xs)->Dats H xs ds->Dat H (.ref a) (.tuple ds)
 |lst {a:Addr} {xs:List V} {ds:List PyData}:H a=some (.lst xs)->Dats H xs ds->Dat H (.ref a) (.list ds)
inductive Dats (H:Hp):List V->List PyData->Prop
 |nil:Dats H [] []
 |cons {x:V} {xs:List V} {d:PyData} {ds:List PyData}:Dat H x d->Dats H xs ds->Dats H (x::xs) (d::ds)
end
mutual
theorem Z4{P:QN}{w:Jj}{H:Hp}{h:J8}(ok:HOk P w H h):∀(d:PyData)(x:V)(v:Value),Dat H x d->RelV x v->(∃as,QjN h v d as)/\d.canLay0=true
 |.none,_,v,.non,r=>by cases r;exact⟨⟨_,.none⟩,rfl⟩
 |.bool b,_,v,.bl _,r=>by cases r;exact⟨⟨_,.bool b⟩,rfl⟩
 |.int i,_,v,.int _,r=>by obtain⟨t,rfl⟩:=r;exact⟨⟨_,.int i t⟩,rfl⟩
 |.str z,_,v,.str _ c,r=>by obtain⟨t,rfl⟩:=r;exact⟨⟨_,.str z t⟩,c⟩
 |.tuple ds,_,v,.tup (a:=a) (xs:=xs) e q,r=>by
  cases r;obtain⟨_,its,rv,o,ho,hc,_,n,hd⟩:=ok a _ e;obtain⟨⟨as,ra⟩,cl⟩:=YJ ok ds xs its q rv;exact⟨⟨as,.tuple ho hc hd ra⟩,cl⟩
 |.list ds,_,v,.lst (a:=a) (xs:=xs) e q,r=>by
  cases r;obtain⟨_,its,n,rv,ho⟩:=ok a _ e;obtain⟨⟨as,ra⟩,cl⟩:=YJ ok ds xs its q rv;exact⟨⟨a::as,.list ho rfl rfl ra⟩,cl⟩
 |.dict _,_,_,q,_=>nomatch q
theorem YJ{P:QN}{w:Jj}{H:Hp}{h:J8}(ok:HOk P w H h):∀(ds:List PyData)(xs:List V)(vs:List Value),Dats H xs ds->Vals xs vs->(∃as,Qc1 h vs ds as)/\JG ds=true
 |[],_,vs,.nil,r=>by cases r;exact⟨⟨_,.nil⟩,rfl⟩
 |d::ds,_,vs,.cons (x:=x) (xs:=xs) q qs,r=>by
  cases r with
  |cons r rs=>
   obtain⟨⟨a1,r1⟩,c1⟩:=Z4 ok d x _ q r;obtain⟨⟨a2,r2⟩,c2⟩:=YJ ok ds xs _ qs rs;exact⟨⟨_,.cons r1 r2⟩,by simp[JG,c1,c2]⟩
end
section
variable{X:Cx}
def Qzu(X:Cx):R2:=λx y H Q=>∃dx dy,Dat H x dx/\Dat H y dy/\X.A.units+min dx.depth dy.depth<cLine/\Q (.bl (Jf dx dy)) H
theorem Qvh:OpR X (compareOp .Eq) (Qzu X):=by
 intro pins s σ H x y v u Q I rx ry h;obtain⟨dx,dy,qx,qy,hu,q⟩:=h;obtain⟨⟨as,ra⟩,ca⟩:=Z4 I.hok dx x v qx rx;obtain⟨⟨bs,rb⟩,cb⟩:=Z4 I.hok dy y u qy ry;exact SeqAt.compareEq_reads ra rb ca cb hu ⟨.bl _,H,I,rfl,q⟩
open Classical in
noncomputable def eqH (h:J8) (d:PyData) (y:Value):Bool:=decide (∃e as,QjN h y e as/\e.canLay0=true/\Jf e d=true)
open Classical in
theorem Qye{h:J8}{d:PyData}{y:Value}(q:∃e as,QjN h y e as/\e.canLay0=true/\Jf e d=true):eqH h d y=true:=by
 unfold eqH;exact decide_eq_true q
open Classical in
theorem Qyf{h:J8}{d:PyData}{y:Value}(q:¬ ∃e as,QjN h y e as/\e.canLay0=true/\Jf e d=true):eqH h d y=false:=by
 unfold eqH;exact decide_eq_false q
theorem QpA{h:J8}{d e:PyData}{y:Value}{as:List Addr}(r:QjN h y e as)(c:e.canLay0=true):eqH h d y=Jf e d:=by
 cases q:Jf e d with
 |true=>exact Qye ⟨e,as,r,c,q⟩
 |false=>
  refine Qyf λ⟨e',as',r',c',q'⟩=>?_
  rw[<- SeqAt.Reads.unique e e' y as as' c r r',q] at q';cases q'
theorem QdQ{h:J8}{d:PyData}:∀{vs:List Value}{ds:List PyData}{as:List Addr},Qc1 h vs ds as->JG ds=true->vs.any (eqH h d)=ds.any λe=>Jf e d
 |_,_,_,.nil,_=>rfl
 |_,_,_,.cons r rs,c=>by
  simp only[JG,JN] at c;rw[Qwx,Qwx,QpA r c.1,QdQ rs c.2]
theorem Qdv{A:Jh}{s:Shared}{d:PyData}{v:Value}{bs:List Addr}(rv:QjN s.heap v d bs)(cv:d.canLay0=true):∀{vs:List Value}{ds:List PyData}{as:List Addr},Qc1 s.heap vs ds as->JG ds=true->A.units+d.depth<cLine ->
  ∀u∈vs,SeqAt.EqAt A s u v (eqH s.heap d u)
 |_,_,_,.nil,_,_=>λu hu=>nomatch hu
 |_,_,_,.cons (d:=e) r rs,c,hu=>λu hm=>by
  simp only[JG,JN] at c;rcases Qt.mp hm with z | z
  ·subst z;rw[QpA r c.1];exact QoS e d A s _ v _ bs r rv c.1 cv (YN (Nat.add_le_add_left (QeM _ _) _) hu)
  ·exact Qdv rv cv rs c.2 hu u z
def QyH(X:Cx)(neg:Bool):R2:=λx y H Q=>∃c ps ds d,y=.ref c/\H c=some (.tup ps)/\Dats H ps ds/\Dat H x d/\X.A.in1.units+d.depth<cLine/\Q (.bl (if neg then !(ds.any λe=>Jf e d) else ds.any λe=>Jf e d)) H
theorem Qve:OpR X (compareOp .In) (QyH X false):=by
 intro pins s σ H x y v u Q I rx ry h;obtain⟨c,ps,ds,d,rfl,hc,qs,qx,hu,q⟩:=h;cases ry;obtain⟨⟨as,ra⟩,ca⟩:=Z4 I.hok d x v qx rx;obtain⟨_,its,rv,tp⟩:=I.hok c _ hc;have tp:=TupN.tup tp;obtain⟨⟨bs,rb⟩,cb⟩:=YJ I.hok ds ps its qs rv;refine SeqAt.in_tupleAt (eqH s.heap d) tp (λw hw=>Qdv ra ca rb cb hu w (Qbn.mp hw)) ⟨.bl _,H,I,rfl,?_⟩;rw[show its.toArray.any (eqH s.heap d)=its.any (eqH s.heap d) by simp,QdQ rb cb];exact q
theorem Qk0:OpR X (compareOp .NotIn) (QyH X true):=by
 intro pins s σ H x y v u Q I rx ry h;obtain⟨c,ps,ds,d,rfl,hc,qs,qx,hu,q⟩:=h;cases ry;obtain⟨⟨as,ra⟩,ca⟩:=Z4 I.hok d x v qx rx;obtain⟨_,its,rv,tp⟩:=I.hok c _ hc;have tp:=TupN.tup tp;obtain⟨⟨bs,rb⟩,cb⟩:=YJ I.hok ds ps its qs rv;refine SeqAt.notIn_tupleAt (eqH s.heap d) tp (λw hw=>Qdv ra ca rb cb hu w (Qbn.mp hw)) ⟨.bl _,H,I,rfl,?_⟩;rw[show its.toArray.any (eqH s.heap d)=its.any (eqH s.heap d) by simp,QdQ rb cb];exact q
end
section
variable{X:Cx}
end
end Rd
namespace L2
def Ite(l:Addr):It:=
 ⟨λi H=>∃xs x,H l=some (.lst xs)/\xs[i]? = some x,
  λi H v H'=>∃p x,H p=none/\(∀xs,H l=some (.lst xs)->xs[i]? = some x)/\v=.ref p/\H'=upd H p (.tup [.int (i:Nat),x]),
  λi H=>∃xs,H l=some (.lst xs)/\xs.length<=i⟩
theorem Qj4{P:QN}{w:Jj}{K:PySem.W.Frag}{elts:List QV}{x1}{tpos:Pos}{e it l:Addr}(hne:e≠it) :
  Turn P w K (.Tuple elts x1 tpos) (Ite l) [e,it] e (λi h=>(∃old,IsEnum h e it (i:Nat) old)/\h.IsListIter it l i) where
 mem:=by simp
 obj:=λi h st b hb=>by
  obtain⟨⟨old,a1⟩,⟨o2,a2,_,d2⟩⟩:=st;simp only[Qt,Q5,or_false] at hb;rcases hb with rfl | rfl
  ·exact⟨_,a1,λv q=>nomatch q⟩
  ·exact⟨_,a2,λv q=>by rw[d2] at q;cases q⟩
 keep:=λi h h' st k=>by
  obtain⟨⟨old,a1⟩,⟨o2,a2,c2⟩⟩:=st;exact⟨⟨old,k e (by simp) _ a1⟩,o2,k it (by simp) _ a2,c2⟩
 item:=by
  intro X hP hw hK hc i pins s σ H E I hf st hg;subst hP hw hK;obtain⟨xs,x,h1,hx⟩:=hg;obtain⟨⟨old,a1⟩,a2⟩:=st;obtain⟨its,r1,p1,_⟩:=I.list (SqL.of h1);obtain⟨u,hu,ru⟩:=r1.get hx;refine wpAny_pyNext_enum_item a1 a2 p1.isList (x:=u) (by simpa using hu) hne λh' o' l' tp sz kp=>?_
  have fr:H s.heap.objs.size=none:=I.hok.fresh (Qi _);have n1:e≠s.heap.objs.size:=QF (Qj a1);have n2:it≠s.heap.objs.size:=by
   obtain⟨o2,a2,_⟩:=a2;exact QF (Qj a2)
  refine⟨_,rfl,Qju o' λh2 e2 s2=>?_⟩;have I1:Inv X pins σ (upd H s.heap.objs.size (.tup [.int (i:Nat),x])) { s with heap:=h2,toks:=s.toks+1 }:=by
   refine I.turnedNew (ch:=[e,it]) hf (λb v hb q=>?_) (Qi _) ⟨by show 2<=sizeLine;decide,[.int (i:Nat) s.toks,u],.cons ⟨_,rfl⟩ (.cons ru .nil),?_⟩
   ·simp only[Qt,Q5,or_false,not_or] at hb;exact s2.extBut _ _ hb.1 (kp b v hb.1 hb.2 q)
   ·exact⟨_,s2.extBut _ _ n1.symm tp,rfl,rfl,0,rfl⟩
  refine⟨.ref s.heap.objs.size,_,I1,rfl,⟨_,x,fr,λxs' q=>?_,rfl,rfl⟩,⟨⟨u,e2⟩,?_⟩,λb hb=>?_⟩
  ·rw[h1] at q;cases q;exact hx
  ·exact l'.extBut s2.extBut hne.symm
  ·simp only[Qt,Q5,or_false] at hb;rcases hb with rfl | rfl
   ·rw[Jq n1];exact(hf _ (by simp)).1
   ·rw[Jq n2];exact(hf _ (by simp)).1
 done:=by
  intro X hP hw hK hc i pins s σ H E I hf st hg;subst hP hw hK;obtain⟨xs,h1,he⟩:=hg;obtain⟨⟨old,a1⟩,a2⟩:=st;obtain⟨its,r1,p1,_⟩:=I.list (SqL.of h1);have l1:=r1.length;refine wpAny_pyNext_enum_end (I.ok.hd hc) a1 a2 p1.isList (by simp;omega) λh' kp=>⟨rfl,I.turnedAll (t':=s.toks) (ch:=[e,it]) hf λb v hb q=>?_⟩
  simp only[Qt,Q5,or_false,not_or] at hb;exact kp b v hb.2 q
 self:=λ_ _ _ _ _ st h=>by
  obtain⟨⟨old,a1⟩,_⟩:=st;exact QbB a1 h
def Qx9(ta:TA):TI:=λσ H R=>ta σ H λvs H1=>∃l xs,vs=[.ref l]/\H1 l=some (.lst xs)/\R (Ite l) H1
theorem Qgw:bootBuiltins "enumerate" = some (.type "enumerate"):=by decide +kernel
section
variable{X:Cx}
theorem QrT{a:QV}{elts:List QV}{x1}{tpos:Pos}{ta:TA}{p pos:Pos}(hg:Gl X "enumerate")(hm:X.mg "enumerate" = none)(ha:PA X [a] ta)(hs:starEach [a] X.env=[(false,eval a X.env)]:=by rfl) :
  PI X (.Tuple elts x1 tpos) (.Call (.Name "enumerate" p) [a] [] pos) (Qx9 ta):=by
 intro pins s σ H R I h;refine Call_ (Qb3 I hg hm Qgw (JO (thn (ha pos pins s σ H _ I h) λus s1 ⟨vs,H1,I1,r1,q1⟩=>?_) hs rfl));obtain⟨l,xs,e,h1,q⟩:=q1;subst e;obtain⟨u,rfl,ru⟩:=vals1 r1;cases(show u=Zl l from ru);obtain⟨its,w1,p1,_⟩:=I1.list (SqL.of h1);refine call_enumerate_list p1.isList λh' e1 i1 sz kp=>?_
 refine QbB (s:={ s1 with heap:=h' }) e1 ?_
 refine⟨s1.heap.objs.size+1,_,_,_,H1,rfl,I1.kept (t':=s1.toks) kp,Qj4 (by show ¬(s1.heap.objs.size+1=s1.heap.objs.size);omega),⟨⟨_,e1⟩,i1⟩,λb hb=>?_,q⟩;have hb':s1.heap.objs.size<=b:=by
  simp only[Qt,Q5,or_false] at hb;rcases hb with rfl | rfl<;>omega
 exact I1.fpOk hb' (I1.hok.fresh hb')
end
section
variable{prog:QN}{w:Jj}{A:Jh}{R:QpX->Shared->Prop}{s:Shared}
theorem QfZ{elt tg iter:QV}{ifs:List QV}{g0:QeN}{scope:Yl}{pos:Pos}{it acc:Value}{env:Env}
  (h0:codeAny (model prog w) A (.compLoop (.ListComp elt [g0,⟨tg,iter,ifs,0⟩] scope pos) 1 it acc env) R s)
  (h:wpAny (model prog w) A (pyIter it) (λit' s'=>codeAny (model prog w) A (.compLoop (.ListComp elt [g0,⟨tg,iter,ifs,0⟩] scope pos) 1 it' acc env) R s') (notedBy (model prog w) A env λx s'=>R (.error x) s') s) :
  codeAny (model prog w) A (.compStart (.ListComp elt [g0,⟨tg,iter,ifs,0⟩] scope pos) 1 it acc env) R s:=by
 refine codeAny_of_tree ?_
 show wpAny _ _ ((compStart (.ListComp elt [g0,⟨tg,iter,ifs,0⟩] scope pos) 1 it acc env).onRaise (λx=>do noteFrame x env;standAt theWindowsPlace)) _ _ s;refine wpAny_notedAt ?_
 unfold compStart;show wpAny _ _ (ask >>= _) _ _ s;refine wpAny_bind (wpAny_askSetting (wpAny_ite ?_));split
 ·first
   |exact wpAny_bind (Qp (Qp ⟨rfl,h0⟩))
   |exact Qp ⟨rfl,h0⟩
 ·first
   |exact wpAny_bind (wpAny_rule (wpAny_bind (wpAny_standAt (wpAny_bind (wpAny_mono h (λit' s' h'=>Qp ⟨rfl,h'⟩) λ_ _ x=>x)))))
   |exact wpAny_bind (wpAny_rule (wpAny_bind (wpAny_standAt (wpAny_bind (wpAny_mono h (λit' s' h'=>Qp (Qp ⟨rfl,h'⟩)) λ_ _ x=>x)))))
end
theorem Qj2{Y:Cx}{elt tg iter:QV}{ifs:List QV}{g0:QeN}{scope:Yl}{cpos:Pos}{it D:Addr}(Q:PySem.Fin->Shared->Prop)(E:Value->Shared->Prop)(s:Shared)
  (h:wpAny (model Y.prog Y.w) Y.A (pyNext (.ref it)) (λr s1=>match r with
   |none=>Q (.done .next) s1
   |some v=>wpAny (model Y.prog Y.w) Y.A (letOwnedTupleGo tg (.ref it) v) (λ_ s2=>QoP Y tg ifs (Qmw Y elt D) v (λs3=>Q (.again (.compLoop (.ListComp elt [g0,⟨tg,iter,ifs,0⟩] scope cpos) 1 (.ref it) (.ref D) Y.env)) s3) s2) E s1) E s) :
  wpAny (model Y.prog Y.w) Y.A (compTurn (.ListComp elt [g0,⟨tg,iter,ifs,0⟩] scope cpos) 1 (.ref it) (.ref D) Y.env) Q E s:=by
 have e:compTurn (.ListComp elt [g0,⟨tg,iter,ifs,0⟩] scope cpos) 1 (.ref it) (.ref D) Y.env=(do
   standAt iter.pos
   match <- pyNext (.ref it) with
   |none=>pure (.done .next)
   |some v=>
    letOwnedTupleGo tg (.ref it) v
    assign tg Y.env v
    let mut ok:=true
    for c in ifs do
     if ok then ok <- isTrue c Y.env (eval c Y.env)
    if ok then
     (do let _ <- call (.builtin "list.append") [.ref D,<- eval elt Y.env])
    again (.compLoop (.ListComp elt [g0,⟨tg,iter,ifs,0⟩] scope cpos) 1 (.ref it) (.ref D) Y.env)):=by rfl
 rw[e];refine wpAny_bind (wpAny_standAt (wpAny_bind (thn h λr s1 h1=>?_)));cases r with
 |none=>exact Qp h1
 |some v=>
  refine wpAny_bind (thn h1 λ_ s2 h2=>?_);refine wpAny_bind (wpAny_mono h2 (λ_ s4 h4=>wpAny_bind (wpAny_mono h4 (λok s5 h5=>?_) λ_ _ f=>f.elim)) λ_ _ f=>f.elim);cases ok with
  |false=>exact Qp h5
  |true=>exact wpAny_bind (wpAny_bind (wpAny_mono h5 (λx s6 h6=>wpAny_bind (wpAny_mono h6 (λ_ s7 h7=>Qp (Qp h7)) λ_ _ f=>f.elim)) λ_ _ f=>f.elim))
def Qmv(Y:Cx)(e:QV)(iter:QV)(D:Addr):Act:=λQ s=>wpAny (model Y.prog Y.w) Y.A (eval iter Y.env) (λx s1=>wpAny (model Y.prog Y.w) Y.A (pyIter x)
 (λitv s2=>codeAny (model Y.prog Y.w) Y.A (.compStart e 1 itv (.ref D) Y.env) (λr s3=>match r with | .ok _=>Q s3 | .error _=>False) s2) (λ_ _=>False) s1) (λ_ _=>False) s
def Qwd(wi:TI)(g:TG)(tc:TT)(p:Addr)(te:TE):St->Hp->(Hp->Prop)->Prop:=λσ H k=>wi σ H λJ H1=>Qj9 J (bOf σ g tc (Qwe p te)) k H1
theorem Qmn{Y:Cx}{σ:St}{elt tg iter:QV}{ifs:List QV}{g0:QeN}{scope:Yl}{cpos:Pos}{D:Addr}{wi:TI}{g:TG}{tc:TT}{te:TE}(hx:Y.xe=λ_ _=>False)(hc:Y.calm=true)
  (hi:PI Y tg iter wi)(hg:PG Y tg g)(ht:PTs Y ifs tc)(he:PE Y elt te):BodyOk Y σ (Qmv Y (.ListComp elt [g0,⟨tg,iter,ifs,0⟩] scope cpos) iter D) (Qwd wi g tc D te σ):=by
 intro pins s H k Q I h hQ;have hx':∀(v:Value)(s':Shared),Y.xe v s'->False:=λv s' z=>by rw[hx] at z;exact z
 refine wpAny_mono (hi pins s σ H _ I h) (λv s1 h1=>wpAny_mono h1 (λitv s2 h2=>?_) hx') hx';obtain⟨it,fp,tn,J,H2,e,I2,T,st2,f2,hW⟩:=h2;subst e;have loop:codeAny (model Y.prog Y.w) Y.A (.compLoop (.ListComp elt [g0,⟨tg,iter,ifs,0⟩] scope cpos) 1 (.ref it) (.ref D) Y.env) (λr s3=>match r with | .ok _=>Q s3 | .error _=>False) s2:=
  Qb4 (Y:=Y) (gens:=[g0,⟨tg,iter,ifs,0⟩]) (d:=1) hc T st2 f2 (λQ E s h=>Qj2 Q E s h) (λx u r=>Qfx hx hg ht (λσ4=>Qfy hx he) x u r) I2 hW λs' H' I' q=>hQ s' H' I' q
 exact QfZ loop (T.self _ 0 _ _ _ st2 loop)
theorem QiQ{Y:Cx}{elt tg iter tg2 iter2:QV}{ifs ifs2:List QV}{scope:Yl}{cpos:Pos}{it D:Addr}(hs:∀x,foldedSetIterable iter2 Y.env x=pure x)(Q:PySem.Fin->Shared->Prop)(E:Value->Shared->Prop)(s:Shared)
  (h:wpAny (model Y.prog Y.w) Y.A (pyNext (.ref it)) (λr s1=>match r with
   |none=>Q (.done .next) s1
   |some v=>wpAny (model Y.prog Y.w) Y.A (letOwnedTupleGo tg (.ref it) v) (λ_ s2=>QoP Y tg ifs (Qmv Y (.ListComp elt [⟨tg,iter,ifs,0⟩,⟨tg2,iter2,ifs2,0⟩] scope cpos) iter2 D) v (λs3=>Q (.again (.compLoop (.ListComp elt [⟨tg,iter,ifs,0⟩,⟨tg2,iter2,ifs2,0⟩] scope cpos) 0 (.ref it) (.ref D) Y.env)) s3) s2) E s1) E s) :
  wpAny (model Y.prog Y.w) Y.A (compTurn (.ListComp elt [⟨tg,iter,ifs,0⟩,⟨tg2,iter2,ifs2,0⟩] scope cpos) 0 (.ref it) (.ref D) Y.env) Q E s:=by
 have e:compTurn (.ListComp elt [⟨tg,iter,ifs,0⟩,⟨tg2,iter2,ifs2,0⟩] scope cpos) 0 (.ref it) (.ref D) Y.env=(do
   standAt iter.pos
   match <- pyNext (.ref it) with
   |none=>pure (.done .next)
   |some v=>
    letOwnedTupleGo tg (.ref it) v
    assign tg Y.env v
    let mut ok:=true
    for c in ifs do
     if ok then ok <- isTrue c Y.env (eval c Y.env)
    if ok then
     let x <- eval iter2 Y.env
     standAt iter2.pos
     let x <- foldedSetIterable iter2 Y.env x
     let _ <- runOwn (.compStart (.ListComp elt [⟨tg,iter,ifs,0⟩,⟨tg2,iter2,ifs2,0⟩] scope cpos) 1 (<- holding [x] (pyIter x)) (.ref D) Y.env) Y.env
    again (.compLoop (.ListComp elt [⟨tg,iter,ifs,0⟩,⟨tg2,iter2,ifs2,0⟩] scope cpos) 0 (.ref it) (.ref D) Y.env)):=by rfl
 rw[e];refine wpAny_bind (wpAny_standAt (wpAny_bind (thn h λr s1 h1=>?_)));cases r with
 |none=>exact Qp h1
 |some v=>
  refine wpAny_bind (thn h1 λ_ s2 h2=>?_);refine wpAny_bind (wpAny_mono h2 (λ_ s4 h4=>wpAny_bind (wpAny_mono h4 (λok s5 h5=>?_) λ_ _ f=>f.elim)) λ_ _ f=>f.elim);cases ok with
  |false=>exact Qp h5
  |true=>
   refine wpAny_bind (wpAny_mono h5 (λx s6 h6=>wpAny_bind (wpAny_standAt ?_)) λ_ _ f=>f.elim);rw[hs x];refine wpAny_bind (Qp (wpAny_bind (Zx (wpAny_mono h6 (λitv s7 h7=>?_) λ_ _ f=>f.elim))));refine wpAny_bind (wpAny_runOwn (h:=none) (QcV h7 λr s8 h8=>?_));cases r with
   |error z=>exact h8.elim
   |ok fl=>exact Qp h8
def Qo3(cap:List (Option Nat))(wi:TI)(g:TG)(tc:TT)(wi2:TI)(g2:TG)(tc2:TT)(te:TE):TE:=λσ H Q=>wi σ H λJ H1=>∀p,H1 p=none->Qj9 J (bOf (QcD cap σ) g tc (Qwd wi2 g2 tc2 p te)) (Q (.ref p)) (upd H1 p (.lst []))
end L2
namespace Rk
open L2 Rd
def pairD(ij:Int×Int):PyData:=.tuple [.int ij.1,.int ij.2]
theorem Qjj(b:Int×Int):Yx (pairD b)=1:=by
 unfold pairD;simp[Yx,Jx]
end Rk
namespace Rr
section
variable{prog:QN}{w:Jj}{A:Jh}{E:Value->Shared->Prop}{s:Shared}
end
end Rr
namespace L2
section
variable{X:Cx}
end
end L2
namespace Rs
open PySem.W
def sp{α:Type}(n:Nat)(c:Nat->Nat->Bool):KasT α->(α->Prop)->Prop
 |.ret a,Q=>Q a
 |.ask i j f,Q=>i<n/\j<n/\sp n c (f (c i j)) Q
section
variable{n:Nat}{K:Nat->Int}
structure Good (n:Nat) (p:Array Nat):Prop where
 perm:p.toList.Perm (Qm n)
theorem Good.size{p:Array Nat}(g:Good n p):p.size=n:=by
 have:=g.perm.length_eq;rw[QD,ZR] at this;exact this
def at_(p:Array Nat)(i:Nat):Nat:=p.getD i 0
theorem Qmq{p:Array Nat}{i:Nat}(h:i<p.size):p[i]? = some (at_ p i):=by
 unfold at_;rw[QeP,Qax h];rfl
theorem Good.lt{p:Array Nat}(g:Good n p)(h0:0<n)(i:Nat):at_ p i<n:=by
 by_cases h:i<p.size
 ·have e:=Qmq h;have m:at_ p i∈p.toList:=by
   have:=Array.mem_of_getElem? e;exact QjI.mpr this
  exact Q9.mp (g.perm.mem_iff.mp m)
 ·unfold at_;rw[QeP,Array.getElem?_eq_none (by omega)];exact h0
theorem Good.inj{p:Array Nat}(g:Good n p){i j:Nat}(hi:i<n)(hj:j<n)(e:at_ p i=at_ p j):i=j:=by
 have nd:p.toList.Nodup:=g.perm.nodup_iff.mpr Yy;have hs:=g.size;have hi':i<p.toList.length:=by rw[ZR];omega
 have hj':j<p.toList.length:=by rw[ZR];omega
 have ei:p.toList[i]=at_ p i:=by
  have:=Qmq (p:=p) (i:=i) (by omega);rw[Qax (by omega)] at this;rw[QjJ];exact Qr this
 have ej:p.toList[j]=at_ p j:=by
  have:=Qmq (p:=p) (i:=j) (by omega);rw[Qax (by omega)] at this;rw[QjJ];exact Qr this
 have pw:=List.pairwise_iff_getElem.mp nd;rcases Nat.lt_trichotomy i j with h | h | h
 ·exact absurd (ei.trans (e.trans ej.symm)) (pw i j hi' hj' h)
 ·exact h
 ·exact absurd (ej.trans (e.symm.trans ei.symm)) (pw j i hj' hi' h)
def kk(K:Nat->Int)(p:Array Nat)(i:Nat):Int:=K (at_ p i)
def Adj(K:Nat->Int)(p:Array Nat)(m:Nat):Prop:=∀i,i+1<m->kk K p i<=kk K p (i+1)
end
end Rs
namespace Rs
open PySem.W PySem.Calls
section
variable{prog:QN}{w:Jj}{A:Jh}{E:Value->Shared->Prop}{s:Shared}
theorem QcO{Q:Value->Shared->Prop}{l:Addr}{T:String}{o:Obj}{vs:List Value}{n:Nat}(hT:T = "list" ∨ T = "tuple")(ho:s.heap.get? l=some o)(hc:o.cls=.type T)(hd:o.data=.seq vs.toArray n)(h64:vs.length<64)
  (h:∀h':J8,(∀b x,s.heap.get? b=some x->h'.get? b=some x)->∀(P:PySem.Fin->Shared->Prop)(E':Value->Shared->Prop),(∀s2,Q (.ref h'.objs.size) s2->P (.done (.ret .none)) s2) ->
   wpAny (model prog w) A.in1.in1 (QmT.«list.sort» ⟨[.ref h'.objs.size],[]⟩) P E' { s with heap:=h'.push (seqObj "list" vs.toArray 0) }) :
  wpAny (model prog w) A (call (.builtin "sorted") [.ref l]) Q E s:=by
 refine Calls.call_function_entry kind_sorted plain_sorted entry_sorted (args_sorted1 _) ?_
 unfold QmT.«sorted»;refine wpAny_bind (m:=checkCount "sorted" 1 1 _) (Qp ?_);refine wpAny_bind (wpAny_collect_seq (items:=vs.toArray) l hT ho hc hd (λh' kp=>?_) (by rw[Qq,QiF];omega));refine wpAny_bind (wpAny_newList ?_ (by rw[List.toList_toArray,QiF];omega));have hoL:(h'.push (seqObj "list" vs.toArray 0)).get? h'.objs.size=some (seqObj "list" vs.toArray 0):=Qv _ rfl;show wpAny _ _ _ _ _ { s with heap:=h'.push (seqObj "list" vs.toArray 0) };refine wpAny_bind (Zx (Z9 slot_list_sort ⟨_,hoL,rfl⟩ entry_list_sort ?body (args_list_sort _)));exact h h' kp _ _ λs2 hq=>⟨_,rfl,Qp ⟨_,rfl,hq⟩⟩
end
structure Qwn (h:J8) (v:Value) (ij:Int×Int):Prop where
 it:∃(a:Addr)(o:Obj)(n:Nat)(t u:Tok),v=.ref a/\h.get? a=some o/\o.cls=.type "tuple" /\ o.data=.seq #[.int ij.1 t,.int ij.2 u] n
inductive PairsV (h:J8):List Value->List (Int×Int)->Prop
 |nil:PairsV h [] []
 |cons {v:Value} {vs:List Value} {ij:Int×Int} {L:List (Int×Int)}:Qwn h v ij->PairsV h vs L->PairsV h (v::vs) (ij::L)
theorem PairsV.at_{h:J8}:∀{vs:List Value}{L:List (Int×Int)},PairsV h vs L->∀i,i<vs.length->Qwn h (vs.getD i YR) (L.getD i (0,0))
 |_,_,.nil,i,hi=>by simp at hi
 |_,_,.cons q r,0,hi=>q
 |_,_,.cons q r,i+1,hi=>by
  have:=r.at_ i (by simpa using hi)
  simpa using this
section
variable{prog:QN}{w:Jj}{A:Jh}{E:Value->Shared->Prop}{s:Shared}
end
end Rs
namespace L2
open _root_.Rd _root_.Rk _root_.Rs
section
variable{X:Cx}
theorem Qfl:∀{ns:List Int}{vs:List Value},Vals (ns.map V.int) vs->Qbp vs ns
 |[],_,.nil=>.nil
 |i::ns,_,.cons ⟨t,e⟩ r=>by subst e;exact .cons _ _ (Qfl r)
theorem Qfz:∀{ns:List Int}{vs:List Value},Qbp vs ns->Vals (ns.map V.int) vs
 |_,_,.nil=>.nil
 |_,_,.cons n t r=>.cons ⟨t,rfl⟩ (Qfz r)
def Qpb(K:PySem.W.Frag):List V->Hp->VK->Prop:=λxs H Q=>∃l ns,xs=[.ref l]/\SqT K H l ((ns:List Int).map V.int)/\ns.length<64 /\
 ∀t ms H2,Same H H2->H t=none->H2 t=some (.lst ((ms:List Int).map V.int))->ms.Perm ns->ms.Pairwise (·<=·)->Q (.ref t) H2
theorem Qjn:CallR X (.builtin "sorted") (Qpb X.K):=by
 intro pins s σ H xs us Q I r h;obtain⟨l,ns,rfl,hl,h64,q⟩:=h;obtain⟨u,rfl,ru⟩:=vals1 r;cases ru;obtain⟨its,rv,tp,hz⟩:=I.tuple hl;obtain⟨o,ho,hc,n,hd⟩:=tp;have li:=rv.length;rw[Qe] at li;refine QcO (.inr rfl) ho hc hd (by omega) λh' kp P E' hP=>?_
 have hn:(h'.push (seqObj "list" its.toArray 0)).get? h'.objs.size=some (seqObj "list" its.toArray 0):=Qv _ rfl;refine list_sort_tree (s:={ s with heap:=h'.push (seqObj "list" its.toArray 0) }) hn (Qfl rv) (by omega) λout ns' ia pm pw=>hP _ ?_
 have I1:Inv X pins σ H { s with heap:=h' }:=I.kept (t':=s.toks) kp;have hf:H h'.objs.size=none:=I1.hok.fresh (Qi _);obtain⟨e,he⟩:∃e,(sortedHeap (h'.push (seqObj "list" its.toArray 0)) h'.objs.size its out).get? h'.objs.size=some (seqObj "list" out e):=sortedHeap_at hn
 have rv':=Qfz ia;have lp:=pm.length_eq;have I2:Inv X pins σ (upd H h'.objs.size (.lst (ns'.map V.int))) { s with heap:=sortedHeap (h'.push (seqObj "list" its.toArray 0)) h'.objs.size its out }:=
  I1.laid (t':=s.toks) (λb x e'=>(sortedHeap_old (QF (Qj e')) (QU (Qj e') (by rw[size_push'];exact Nat.le_succ _))).trans (Qd _ e')) (Qi _) (show ObjOk X.prog X.w _ _ _ (.lst _) from⟨by rw[Qe];exact ZC (Rk.Qcv (by omega)),out.toList,e,rv',by rw[he]⟩)
 exact⟨.ref h'.objs.size,_,I2,rfl,q _ ns' _ (JI hf) hf Ju pm pw⟩
end
end L2
namespace Re
open AutoSeq1 (wpAny_loadPart')
theorem QpC{prog:QN}{w:Jj}{A:Jh}{it t:Addr}{items:Array Value}(hh:A.handled=none)(hti:t≠it) :
  Draws prog w A it [it,t] items.size (λi x=>items[i]? = some x) (λi h=>h.IsTupleIter it t i/\h.IsTuple t items) where
 live:=λi h st=>by
  obtain⟨⟨o,ho,_⟩,_⟩:=st;exact⟨o,ho⟩
 frame:=λi h h' st k=>by
  obtain⟨⟨o,ho,c⟩,⟨o2,h2,c2⟩⟩:=st;exact⟨⟨o,k it (by simp) _ ho,c⟩,⟨o2,k t (by simp) _ h2,c2⟩⟩
 item:=λi s Q E hi st hQ=>by
  refine Rz.Qdc st.1 st.2 (x:=items[i]) (by simp[hi]) λh' hit' hs'=>?_
  refine hQ _ h' s.toks (by simp[hi]) ⟨hit',?_⟩ hs';obtain⟨o2,h2,c2⟩:=st.2;exact⟨o2,(hs'.2 t hti).trans h2,c2⟩
 done:=λs Q E st hE=>Rz.Qhd hh st.1 st.2 (by simp) hE
theorem Qjb(l:Addr)(items:Array Value)(n:Nat)(dct:Option Addr)(sl:Array (Option Value)) :
  Meets (QmT.«enumerate.__new__» ⟨[.type "enumerate",.ref l],[]⟩) (λ_ R s=>s.heap.get? l=some { cls:=.type "tuple",dict:=dct,data:=.seq items n,slots:=sl } /\
   R (.ok (.ret (.ref (s.heap.push { cls:=.type "tuple_iterator",data:=.fields #[.ref l,.int 0 0] }).objs.size)))
    { s with heap:=(s.heap.push { cls:=.type "tuple_iterator",data:=.fields #[.ref l,.int 0 0] }).push { cls:=.type "enumerate",data:=.fields #[.none,.bool false,.ref s.heap.objs.size,rawInt 0,.none,.none] } }):=
 .of_wp λprog w A R s h=>by
  obtain⟨hp,g,d,tk,os⟩:=s;obtain⟨hl,h⟩:=h;have hsub:=sub_enumerate;have hL:QjH (Qjv ⟨hp,g,d,tk,os⟩) l items:=⟨_,hl,rfl,n,rfl⟩
  wp_walk using YW hl
  refine wpAny_stack_any λst=>Qp ?_
  split
  ·rename_i c _ _ _ _ _
   cases(c == QmJ "enumerate")
   ·wp_walk using YW hl,ZJ hL
    exact⟨_,rfl,h⟩
   ·wp_walk using YW hl,ZJ hL
    exact⟨_,rfl,h⟩
  ·wp_walk using YW hl,ZJ hL
   exact⟨_,rfl,h⟩
theorem Qjp{prog:QN}{w:Jj}{A:Jh}{E:Value->Shared->Prop}{s:Shared}{l:Addr}{items:Array Value}{Q:Value->Shared->Prop}(hL:s.heap.IsTuple l items)
  (h:∀h',IsEnum h' (s.heap.objs.size+1) s.heap.objs.size 0 .none->h'.IsTupleIter s.heap.objs.size l 0->(∀b o,s.heap.get? b=some o->h'.get? b=some o)->Q (.ref (s.heap.objs.size+1)) { s with heap:=h' }) :
  wpAny (model prog w) A (call (.type "enumerate") [.ref l]) Q E s:=by
 obtain⟨⟨c,dct,dt,sl⟩,hl,hc,n,hd⟩:=hL
 replace hc:c=.type "tuple" := hc
 replace hd:dt=.seq items n:=hd
 subst hc hd;refine callType_new F.called_enumerate (by decide) (F.typeCall_enumerate_1 _) (F.newCall_enumerate_1 _) (λobj=>F.args_object_init_2 obj _) F.entry_enumerate_new (Qjb l items n dct sl) ⟨hl,?_⟩;have hz:(s.heap.push { cls:=.type "tuple_iterator",data:=.fields #[.ref l,.int 0 0] }).objs.size=s.heap.objs.size+1:=ZH ..;show _/\_;rw[hz];have he:=Qv (s.heap.push { cls:=.type "tuple_iterator",data:=.fields #[.ref l,.int 0 0] }) (o:={ cls:=.type "enumerate",data:=.fields #[.none,.bool false,.ref s.heap.objs.size,rawInt 0,.none,.none] }) rfl;rw[hz] at he;exact⟨⟨_,he,rfl⟩,h _ he ⟨_,Qd _ (Qv _ rfl),rfl,rfl⟩ λb o x=>Qd _ (Qd _ x)⟩
end Re
namespace L2
def Iet(l:Addr):It:=
 ⟨λi H=>∃xs x,H l=some (.tup xs)/\xs[i]? = some x,
  λi H v H'=>∃p x,H p=none/\(∀xs,H l=some (.tup xs)->xs[i]? = some x)/\v=.ref p/\H'=upd H p (.tup [.int (i:Nat),x]),
  λi H=>∃xs,H l=some (.tup xs)/\xs.length=i⟩
theorem QiR{P:QN}{w:Jj}{K:PySem.W.Frag}{elts:List QV}{x1}{tpos:Pos}{e it l:Addr}(hne:e≠it) :
  Turn P w K (.Tuple elts x1 tpos) (Iet l) [e,it] e (λi h=>(∃old,IsEnum h e it (i:Nat) old)/\h.IsTupleIter it l i) where
 mem:=by simp
 obj:=λi h st b hb=>by
  obtain⟨⟨old,a1⟩,⟨o2,a2,_,d2⟩⟩:=st;simp only[Qt,Q5,or_false] at hb;rcases hb with rfl | rfl
  ·exact⟨_,a1,λv q=>nomatch q⟩
  ·exact⟨_,a2,λv q=>by rw[d2] at q;cases q⟩
 keep:=λi h h' st k=>by
  obtain⟨⟨old,a1⟩,⟨o2,a2,c2⟩⟩:=st;exact⟨⟨old,k e (by simp) _ a1⟩,o2,k it (by simp) _ a2,c2⟩
 item:=by
  intro X hP hw hK hc i pins s σ H E I hf st hg;subst hP hw hK;obtain⟨xs,x,h1,hx⟩:=hg;obtain⟨⟨old,a1⟩,a2⟩:=st;obtain⟨its,r1,p1,_⟩:=I.tuple (SqT.of h1);obtain⟨u,hu,ru⟩:=r1.get hx;have nel:e≠l:=λz=>by have q:=(hf e (by simp)).1;rw[z,h1] at q;cases q
  have nil:l≠it:=λz=>by have q:=(hf it (by simp)).1;rw[<- z,h1] at q;cases q
  have hi:i<its.toArray.size:=by
   have:=(Qs.mp hu).1
   simpa using this
  refine wpAny_pyNext_enum_itemD (Re.QpC (A:=X.A.in1) (t:=l) (I.ok.hd hc) nil) a1 ⟨a2,p1⟩ hi hne (by simp[hne,nel]) λy h' tk hy o' l' tp sz kp=>?_
  have ey:y=u:=by
   have e1:its.toArray[i]? = some u:=by simpa using hu
   rw[e1] at hy;exact(Qr hy).symm
  subst ey;obtain⟨l',tq⟩:=l';have fr:H s.heap.objs.size=none:=I.hok.fresh (Qi _);have n1:e≠s.heap.objs.size:=QF (Qj a1);have n2:it≠s.heap.objs.size:=by
   obtain⟨o2,a2,_⟩:=a2;exact QF (Qj a2)
  refine⟨_,rfl,Qju o' λh2 e2 s2=>?_⟩;have I1:Inv X pins σ (upd H s.heap.objs.size (.tup [.int (i:Nat),x])) { s with heap:=h2,toks:=tk+1 }:=by
   refine I.turnedNew (ch:=[e,it]) hf (λb v hb q=>?_) (Qi _) ⟨by show 2<=sizeLine;decide,[.int (i:Nat) tk,y],.cons ⟨_,rfl⟩ (.cons ru .nil),?_⟩
   ·simp only[Qt,Q5,or_false,not_or] at hb;exact s2.extBut _ _ hb.1 (kp b v hb.1 hb.2 q)
   ·exact⟨_,s2.extBut _ _ n1.symm tp,rfl,rfl,0,rfl⟩
  refine⟨.ref s.heap.objs.size,_,I1,rfl,⟨_,x,fr,λxs' q=>?_,rfl,rfl⟩,⟨⟨y,e2⟩,?_⟩,λb hb=>?_⟩
  ·rw[h1] at q;cases q;exact hx
  ·exact l'.extBut s2.extBut hne.symm
  ·simp only[Qt,Q5,or_false] at hb;rcases hb with rfl | rfl
   ·rw[Jq n1];exact(hf _ (by simp)).1
   ·rw[Jq n2];exact(hf _ (by simp)).1
 done:=by
  intro X hP hw hK hc i pins s σ H E I hf st hg;subst hP hw hK;obtain⟨xs,h1,he⟩:=hg;obtain⟨⟨old,a1⟩,a2⟩:=st;obtain⟨its,r1,p1,_⟩:=I.tuple (SqT.of h1);have l1:=r1.length;have nel:e≠l:=λz=>by have q:=(hf e (by simp)).1;rw[z,h1] at q;cases q
  have nil:l≠it:=λz=>by have q:=(hf it (by simp)).1;rw[<- z,h1] at q;cases q
  have e0:its.toArray.size=i:=by rw[Qq];omega
  have D:=Re.QpC (prog:=X.prog) (w:=X.w) (A:=X.A.in1) (t:=l) (items:=its.toArray) (I.ok.hd hc) nil;rw[e0] at D;refine wpAny_pyNext_enum_endD D a1 ⟨a2,p1⟩ λh' kp=>⟨rfl,I.turnedAll (t':=s.toks) (ch:=[e,it]) hf λb v hb q=>?_⟩
  simp only[Qt,Q5,or_false,not_or] at hb;exact kp b v hb.2 q
 self:=λ_ _ _ _ _ st h=>by
  obtain⟨⟨old,a1⟩,_⟩:=st;exact QbB a1 h
def QvL(ta:TA):TI:=λσ H R=>ta σ H λvs H1=>∃l xs,vs=[.ref l]/\H1 l=some (.tup xs)/\R (Iet l) H1
section
variable{X:Cx}
theorem Qnx{a:QV}{elts:List QV}{x1}{tpos:Pos}{ta:TA}{p pos:Pos}(hg:Gl X "enumerate")(hm:X.mg "enumerate" = none)(ha:PA X [a] ta)(hs:starEach [a] X.env=[(false,eval a X.env)]:=by rfl) :
  PI X (.Tuple elts x1 tpos) (.Call (.Name "enumerate" p) [a] [] pos) (QvL ta):=by
 intro pins s σ H R I h;refine Call_ (Qb3 I hg hm Qgw (JO (thn (ha pos pins s σ H _ I h) λus s1 ⟨vs,H1,I1,r1,q1⟩=>?_) hs rfl));obtain⟨l,xs,e,h1,q⟩:=q1;subst e;obtain⟨u,rfl,ru⟩:=vals1 r1;cases(show u=Zl l from ru);obtain⟨its,w1,p1,_⟩:=I1.tuple (SqT.of h1);refine Re.Qjp p1 λh' e1 i1 kp=>?_
 refine QbB (s:={ s1 with heap:=h' }) e1 ?_
 refine⟨s1.heap.objs.size+1,_,_,_,H1,rfl,I1.kept (t':=s1.toks) kp,QiR (by show ¬(s1.heap.objs.size+1=s1.heap.objs.size);omega),⟨⟨_,e1⟩,i1⟩,λb hb=>?_,q⟩;have hb':s1.heap.objs.size<=b:=by
  simp only[Qt,Q5,or_false] at hb;rcases hb with rfl | rfl<;>omega
 exact I1.fpOk hb' (I1.hok.fresh hb')
end
end L2
namespace Rk
open L2
end Rk
namespace L2
section
variable{X:Cx}{pins:List (Addr×Obj)}{σ:St}{H:Hp}
theorem Qbw{M:List Str}{scope:Yl}{fp:List Addr}{σ':St}{H3:Hp}{s3 s':Shared}{D:Addr}{i:Nat}{y:Str}{py:Pos}{Mo:Model}{A:Jh}{E:Value->Shared->Prop}{Q:Value->Shared->Prop}
  (I3:Inv X pins σ H3 s3)(f3:∀b∈fp,FpOk X pins H3 b)(J:Inv (blk X M scope (Qbj X.env scope.names []) fp s3 H3 s3.heap.objs.size) [] σ' H s')
  (hN:X.N.Nodup)(hi:X.N[i]? = some y)(hl:X.env.scope.names.lookup y=some .local)(hq:∀s2,Inv X pins (σ.set i (some (.ref D))) H s2->Q .none s2) :
  wpAny Mo A (assign (.Name y py) X.env (.ref D)) (λ_ s2=>∃m,s2.heap.Ns s3.heap.objs.size m/\∀h',QbP s3.heap.objs.size s2.heap h'->Q .none { s2 with heap:=h' }) E s':=by
 have J0:Inv X pins σ H s':=Qmo I3 f3 J (Heap.SameBut.refl ..);obtain⟨m,hn,_⟩:=J.loc;have hC:H s3.heap.objs.size=none:=J.free;have lt:X.env.locals<s3.heap.objs.size:=I3.lt;refine QwT (QfY J0 hN hi (Q4 hl) (show RelV (.ref D) (.ref D) from rfl) (λs2 J2 ⟨a,sb,ha⟩=>?_) (.inr hl));have ea:a=X.env.locals∨X.env.cells.lookup y=some a:=ha;have na:s3.heap.objs.size≠a:=by
  rcases ea with z | z
  ·rw[z];exact QbU lt
  ·obtain⟨v,o,ho,_⟩:=I3.cell y a z;exact QbU (Qj ho)
 refine⟨m,hn.sameBut sb na,λh' hs=>hq _ ?_⟩;refine J2.turned (t':=s2.toks) (it:=s3.heap.objs.size) (λb o hb e=>hs.extBut b o hb e) hC (QbU lt) (.inr I3.sz) (λx c e z=>?_) λp hp z=>?_
 ·obtain⟨v,o,ho,_⟩:=I3.cell x c e;exact absurd (z ▸ Qj ho) (Ym _)
 ·have e:=(I3.pin p hp).1;exact absurd (z ▸ Qj e) (Ym _)
end
theorem Qnu{X:Cx}{M:List Str}{cap:List (Option Nat)}{elt tg iter:QV}{ifs:List QV}{scope:Yl}{pos:Pos}{wi:TI}{g:TG}{tc:TT}{te:TE}{i:Nat}{y:Str}{py spos:Pos}(hN:X.N.Nodup)(hiy:X.N[i]? = some y)(hly:X.env.scope.names.lookup y=some .local)(hc:X.calm=true)(ok:Qd0 X.N X.env.scope M scope cap=true)
  (hi:PI X tg iter wi)(hb:∀cl ex s3 H3 C,PG (blk X M scope cl ex s3 H3 C) tg g/\PTs (blk X M scope cl ex s3 H3 C) ifs tc/\PE (blk X M scope cl ex s3 H3 C) elt te)
  (hs:∀x,foldedSetIterable iter X.env x=pure x:=by intro _;rfl)(hsw:swapsWith (.ListComp elt [⟨tg,iter,ifs,0⟩] scope pos) (some (.Name y py)) spos.line X.env=pure true:=by rfl):PS X (.Assign [.Name y py] (.ListComp elt [⟨tg,iter,ifs,0⟩] scope pos) spos) (Qm7 (tComp cap wi g tc te) (Qfm i)):=by
 intro pins s σ H D I h;have c:=CapOk.of ok;rw[QpT _ _ _ _ hsw];refine wpAny_bind (wpAny_standAt (wpAny_bind ?_));show wpAny _ X.A (do let _ <- comprehension (.ListComp elt [⟨tg,iter,ifs,0⟩] scope pos) scope X.env _ (newList []) false (eval iter X.env) (some (assign (.Name y py) X.env))) _ _ s;refine wpAny_bind (wpAny_mono (QbC (use:=some (assign (.Name y py) X.env)) (Q:=λ_ s'=>SP X pins D .next s') rfl hs (Qhq (I.ok.cells c)) c.kind c.loc ?_) (λ_ s' hq=>Qp (Qp hq)) λ_ _ e=>e);refine thn (hi pins s σ H _ I h) λv s1 h1=>thn h1 λitv s2 h2=>?_
 obtain⟨it,fp,tn,J,H2,e,I2,T,st2,f2,hW⟩:=h2;subst e;refine JW (Qau c.cell (by intro y hy;simp at hy) (λh₁ hns₁ hsb₁=>?_) c.kind);have I3:Inv X pins σ (upd H2 s2.heap.objs.size (.lst [])) { s2 with heap:=s2.heap.push { cls:=.type "list",data:=.seq ([]:List Value).toArray } }:=I2.lnew (t':=s2.toks) (ys:=[]) .nil (Jm _);have lt2:∀b∈fp,b<s2.heap.objs.size:=λb hb=>by obtain⟨o,e,_⟩:=T.obj _ _ st2 b hb;exact Qj e
 have f3:∀b∈fp,FpOk X pins (upd H2 s2.heap.objs.size (.lst [])) b:=λb hb=>(f2 b hb).upd (QF (lt2 b hb))
 generalize hs3:({ s2 with heap:=s2.heap.push { cls:=.type "list",data:=.seq ([]:List Value).toArray } }:Shared)=s3 at I3;have e3:s3.heap=s2.heap.push { cls:=.type "list",data:=.seq ([]:List Value).toArray }:=by rw[<- hs3]
 have z3:s3.heap.objs.size=s2.heap.objs.size+1:=by rw[e3,ZH]
 have hk:∀b o,s3.heap.get? b=some o->h₁.get? b=some o:=λb o e=>hsb₁.extBut b o (by
  have:=Qj e;rw[e3] at this;exact QF this) (Qd _ (e3 ▸ e))
 have hn₁:h₁.Ns s3.heap.objs.size λ_=>none:=by rw[e3];exact hns₁
 have B:=QdO (t4:=s3.toks+([]:List (Str×Value)).length) (fp:=fp) I3 c f3 (λb hb=>by rw[z3];exact QaO (lt2 b hb)) hn₁ hk;have st4:tn 0 h₁:=T.keep _ _ _ st2 λb hb o e=>hk b o (by rw[e3];exact Qd _ e)
 have fp4:∀b∈fp,FpOk (blk X M scope (Qbj X.env scope.names []) fp s3 (upd H2 s2.heap.objs.size (.lst [])) s3.heap.objs.size) [] (upd H2 s2.heap.objs.size (.lst [])) b:=λb hb=>by
  refine⟨(f3 b hb).1,(B.ok.exf b hb).1,B.ok.exfs b hb,.inl hb,(B.ok.exf b hb).2,λp hp=>(nomatch hp)⟩
 obtain⟨hg,ht,he⟩:=hb (Qbj X.env scope.names []) fp s3 (upd H2 s2.heap.objs.size (.lst [])) s3.heap.objs.size;have loop:codeAny (model X.prog X.w) X.A (.compLoop (.ListComp elt [⟨tg,iter,ifs,0⟩] scope pos) 0 (.ref it) (.ref s2.heap.objs.size) (compEnvC scope (Qbj X.env scope.names []) s3.heap.objs.size X.env))
   (compPost (model X.prog X.w) X.A X.xe (some (assign (.Name y py) X.env)) (λ_ s'=>SP X pins D .next s') (.ref s2.heap.objs.size) s3.heap.objs.size) { s3 with heap:=h₁,toks:=s3.toks+([]:List (Str×Value)).length }:=by
  refine Qb4 (Y:=blk X M scope (Qbj X.env scope.names []) fp s3 (upd H2 s2.heap.objs.size (.lst [])) s3.heap.objs.size) (gens:=[⟨tg,iter,ifs,0⟩]) (d:=0) hc T st4 fp4
   (λQ E s h=>QhL Q E s h) (λx u r=>Qfx rfl hg ht (λσ4=>Qfy rfl he) x u r) B (hW _ (I2.hok.fresh (Qi _))) λs' H' I' q=>?_
  exact Qbw (Q:=λ_ s'=>SP X pins D .next s') I3 f3 I' hN hiy hly λs2' J2=>⟨_,H',J2,q⟩
 exact Qce loop (T.self _ 0 _ _ _ st4 loop)
theorem Qf9{X:Cx}{M:List Str}{cap:List (Option Nat)}{elt tg iter tg2 iter2:QV}{ifs ifs2:List QV}{scope:Yl}{pos:Pos}{wi wi2:TI}{g g2:TG}{tc tc2:TT}{te:TE}{i:Nat}{y:Str}{py spos:Pos}(hN:X.N.Nodup)(hiy:X.N[i]? = some y)(hly:X.env.scope.names.lookup y=some .local)(hc:X.calm=true)(ok:Qd0 X.N X.env.scope M scope cap=true)
  (hi:PI X tg iter wi)(hb:∀cl ex s3 H3 C,PG (blk X M scope cl ex s3 H3 C) tg g/\PTs (blk X M scope cl ex s3 H3 C) ifs tc/\PI (blk X M scope cl ex s3 H3 C) tg2 iter2 wi2/\PG (blk X M scope cl ex s3 H3 C) tg2 g2/\PTs (blk X M scope cl ex s3 H3 C) ifs2 tc2/\PE (blk X M scope cl ex s3 H3 C) elt te)
  (hs:∀x,foldedSetIterable iter X.env x=pure x:=by intro _;rfl)(hs2:∀env x,foldedSetIterable iter2 env x=pure x:=by intro _ _;rfl)(hsw:swapsWith (.ListComp elt [⟨tg,iter,ifs,0⟩,⟨tg2,iter2,ifs2,0⟩] scope pos) (some (.Name y py)) spos.line X.env=pure true:=by rfl):PS X (.Assign [.Name y py] (.ListComp elt [⟨tg,iter,ifs,0⟩,⟨tg2,iter2,ifs2,0⟩] scope pos) spos) (Qm7 (Qo3 cap wi g tc wi2 g2 tc2 te) (Qfm i)):=by
 intro pins s σ H D I h;have c:=CapOk.of ok;rw[QpT _ _ _ _ hsw];refine wpAny_bind (wpAny_standAt (wpAny_bind ?_));show wpAny _ X.A (do let _ <- comprehension (.ListComp elt [⟨tg,iter,ifs,0⟩,⟨tg2,iter2,ifs2,0⟩] scope pos) scope X.env _ (newList []) false (eval iter X.env) (some (assign (.Name y py) X.env))) _ _ s;refine wpAny_bind (wpAny_mono (QbC (use:=some (assign (.Name y py) X.env)) (Q:=λ_ s'=>SP X pins D .next s') rfl hs (Qhq (I.ok.cells c)) c.kind c.loc ?_) (λ_ s' hq=>Qp (Qp hq)) λ_ _ e=>e);refine thn (hi pins s σ H _ I h) λv s1 h1=>thn h1 λitv s2 h2=>?_
 obtain⟨it,fp,tn,J,H2,e,I2,T,st2,f2,hW⟩:=h2;subst e;refine JW (Qau c.cell (by intro y hy;simp at hy) (λh₁ hns₁ hsb₁=>?_) c.kind);have I3:Inv X pins σ (upd H2 s2.heap.objs.size (.lst [])) { s2 with heap:=s2.heap.push { cls:=.type "list",data:=.seq ([]:List Value).toArray } }:=I2.lnew (t':=s2.toks) (ys:=[]) .nil (Jm _);have lt2:∀b∈fp,b<s2.heap.objs.size:=λb hb=>by obtain⟨o,e,_⟩:=T.obj _ _ st2 b hb;exact Qj e
 have f3:∀b∈fp,FpOk X pins (upd H2 s2.heap.objs.size (.lst [])) b:=λb hb=>(f2 b hb).upd (QF (lt2 b hb))
 generalize hs3:({ s2 with heap:=s2.heap.push { cls:=.type "list",data:=.seq ([]:List Value).toArray } }:Shared)=s3 at I3;have e3:s3.heap=s2.heap.push { cls:=.type "list",data:=.seq ([]:List Value).toArray }:=by rw[<- hs3]
 have z3:s3.heap.objs.size=s2.heap.objs.size+1:=by rw[e3,ZH]
 have hk:∀b o,s3.heap.get? b=some o->h₁.get? b=some o:=λb o e=>hsb₁.extBut b o (by
  have:=Qj e;rw[e3] at this;exact QF this) (Qd _ (e3 ▸ e))
 have hn₁:h₁.Ns s3.heap.objs.size λ_=>none:=by rw[e3];exact hns₁
 have B:=QdO (t4:=s3.toks+([]:List (Str×Value)).length) (fp:=fp) I3 c f3 (λb hb=>by rw[z3];exact QaO (lt2 b hb)) hn₁ hk;have st4:tn 0 h₁:=T.keep _ _ _ st2 λb hb o e=>hk b o (by rw[e3];exact Qd _ e)
 have fp4:∀b∈fp,FpOk (blk X M scope (Qbj X.env scope.names []) fp s3 (upd H2 s2.heap.objs.size (.lst [])) s3.heap.objs.size) [] (upd H2 s2.heap.objs.size (.lst [])) b:=λb hb=>by
  refine⟨(f3 b hb).1,(B.ok.exf b hb).1,B.ok.exfs b hb,.inl hb,(B.ok.exf b hb).2,λp hp=>(nomatch hp)⟩
 obtain⟨hg,ht,hi2,hg2,ht2,he⟩:=hb (Qbj X.env scope.names []) fp s3 (upd H2 s2.heap.objs.size (.lst [])) s3.heap.objs.size;have loop:codeAny (model X.prog X.w) X.A (.compLoop (.ListComp elt [⟨tg,iter,ifs,0⟩,⟨tg2,iter2,ifs2,0⟩] scope pos) 0 (.ref it) (.ref s2.heap.objs.size) (compEnvC scope (Qbj X.env scope.names []) s3.heap.objs.size X.env))
   (compPost (model X.prog X.w) X.A X.xe (some (assign (.Name y py) X.env)) (λ_ s'=>SP X pins D .next s') (.ref s2.heap.objs.size) s3.heap.objs.size) { s3 with heap:=h₁,toks:=s3.toks+([]:List (Str×Value)).length }:=by
  refine Qb4 (Y:=blk X M scope (Qbj X.env scope.names []) fp s3 (upd H2 s2.heap.objs.size (.lst [])) s3.heap.objs.size) (gens:=[⟨tg,iter,ifs,0⟩,⟨tg2,iter2,ifs2,0⟩]) (d:=0) hc T st4 fp4
   (λQ E s h=>QiQ (hs2 _) Q E s h) (λx u r=>Qfx rfl hg ht (λσ4=>Qmn rfl hc hi2 hg2 ht2 he) x u r) B (hW _ (I2.hok.fresh (Qi _))) λs' H' I' q=>?_
  exact Qbw (Q:=λ_ s'=>SP X pins D .next s') I3 f3 I' hN hiy hly λs2' J2=>⟨_,H',J2,q⟩
 exact Qce loop (T.self _ 0 _ _ _ st4 loop)
end L2
namespace Rk
open L2 _root_.Rd
section
variable{X:Cx}
def Qzt(X:Cx):R2:=λx y H Q=>∃dx dy,Dat H x dx/\Dat H y dy/\X.A.units+min dx.depth dy.depth<cLine/\Q (.bl (!Jf dx dy)) H
theorem Qu9:OpR X (compareOp .NotEq) (Qzt X):=by
 intro pins s σ H x y v u Q I rx ry h;obtain⟨dx,dy,qx,qy,hu,q⟩:=h;obtain⟨⟨as,ra⟩,ca⟩:=Z4 I.hok dx x v qx rx;obtain⟨⟨bs,rb⟩,cb⟩:=Z4 I.hok dy y u qy ry;exact SeqAt.compareNe_reads ra rb ca cb hu ⟨.bl _,H,I,rfl,q⟩
end
end Rk
namespace Rk
open L2
end Rk
namespace Rx
open PySem.Calls L2
section
variable{X:Cx}{E:XK}
end
section
variable{X:Cx}{tf:TE}{fe:QV}{pos:Pos}{e:QV}{es:List QV}{t:TA}{M:Addr->Sp->Prop}
end
end Rx
namespace Rk
open L2 _root_.Rd
structure GlbA (mg:Str->Option Value):Prop where
 isinstance:mg "isinstance" = none
 int:mg "int" = none
 bool:mg "bool" = none
 str:mg "str" = none
 tuple:mg "tuple" = none
 list:mg "list" = none
 all:mg "all" = none
 len:mg "len" = none
 zip:mg "zip" = none
 enumerate:mg "enumerate" = none
 range:mg "range" = none
 max:mg "max" = none
 min:mg "min" = none
 sorted:mg "sorted" = none
 sum:mg "sum" = none
 set:mg "set" = none
 any:mg "any" = none
 reversed:mg "reversed" = none
 divmod:mg "divmod" = none
def QxA(u:Nat)(neg:Bool):R2:=λx y H Q=>∃c ps ds d,y=.ref c/\H c=some (.tup ps)/\Dats H ps ds/\Dat H x d/\u+d.depth<cLine/\Q (.bl (if neg then !(ds.any λe=>Jf e d) else ds.any λe=>Jf e d)) H
theorem Qvd{X:Cx}:OpR X (compareOp .In) (QxA X.A.in1.units false):=Qve
end Rk
namespace Rx
open PySem.Calls L2
section
variable{P:QN}{w:Jj}{K:PySem.W.Frag}{mg:Str->Option Value}{base:J8}
end
end Rx
namespace Rk
open L2 _root_.Rd
section
variable{X:Cx}{is js:List Nat}
end
end Rk
namespace L2
theorem Yq{h:J8}{a:Addr}{its:Array Value}(p:PlainL h a its):h.IsList a its:=by
 obtain⟨o,n,h1,h2,_,h3⟩:=p;exact⟨o,h1,h2,n,h3⟩
structure QgC (h:J8) (z TI TO i1 i2 t1 t2:Addr) (f:Value) (k:Nat):Prop where
 zp:Qp6 h z TI TO f
 ti:IsPair h TI (.ref i1) (.ref i2)
 to:∃a b,IsPair h TO a b
 i1:h.IsListIter i1 t1 k
 i2:h.IsListIter i2 t2 k
section
variable{prog:QN}{w:Jj}{A:Jh}{E:Value->Shared->Prop}{s:Shared}
theorem QjT{z TI TO i1 i2 t1 t2:Addr}{k:Nat}{xs ys:Array Value}{x y:Value}{Q:Option Value->Shared->Prop}(D:Qwr z TI TO i1 i2 t1 t2)(Z:QgC s.heap z TI TO i1 i2 t1 t2 .none k)
  (hl1:s.heap.IsList t1 xs)(hl2:s.heap.IsList t2 ys)(hx:xs[k]? = some x)(hy:ys[k]? = some y)
  (hQ:∀h',QgC h' z TI TO i1 i2 t1 t2 (rawInt s.heap.objs.size) (k+1)->IsPair h' s.heap.objs.size x y->(∀c o,c≠z->c≠TO->c≠i1->c≠i2->s.heap.get? c=some o->h'.get? c=some o)->Q (some (.ref s.heap.objs.size)) { s with heap:=h' }) :
  wpAny (model prog w) A (pyNext (.ref z)) Q E s:=by
 obtain⟨hz,hTI,⟨a,b,hTO⟩,h1,h2⟩:=Z;exact wpAny_pyNext_zip_item D hz hTI hTO h1 h2 hl1 hl2 hx hy λh' a1 a2 a3 a4 a5 a6 a7=>hQ h' ⟨a1,a7 _ _ D.TIz D.TITO D.TIi1 D.TIi2 hTI,⟨x,y,a2⟩,a3,a4⟩ a5 a7
theorem QmV{z TI TO i1 i2 t1 t2:Addr}{k:Nat}{xs ys:Array Value}{Q:Option Value->Shared->Prop}(hh:A.handled=none)(D:Qwr z TI TO i1 i2 t1 t2)(Z:QgC s.heap z TI TO i1 i2 t1 t2 .none k)
  (hl1:s.heap.IsList t1 xs)(hl2:s.heap.IsList t2 ys)(hend:xs[k]? = none∨ys[k]? = none)
  (hQ:∀h',(∀c o,c≠z->c≠TO->c≠i1->c≠i2->s.heap.get? c=some o->h'.get? c=some o)->Q none { s with heap:=h' }):wpAny (model prog w) A (pyNext (.ref z)) Q E s:=by
 obtain⟨hz,hTI,⟨a,b,hTO⟩,h1,h2⟩:=Z;exact wpAny_pyNext_zip_end hh D hz hTI hTO h1 h2 hl1 hl2 hend hQ
theorem QjU{t1 t2:Addr}{xs ys:Array Value}{Q:Value->Shared->Prop}(hl1:s.heap.IsList t1 xs)(hl2:s.heap.IsList t2 ys)
  (h:∀h',QgC h' (s.heap.objs.size+4) (s.heap.objs.size+2) (s.heap.objs.size+3) s.heap.objs.size (s.heap.objs.size+1) t1 t2 .none 0->(∀c o,s.heap.get? c=some o->h'.get? c=some o)->Q (.ref (s.heap.objs.size+4)) { s with heap:=h' }) :
  wpAny (model prog w) A (call (.type "zip") [.ref t1,.ref t2]) Q E s:=
 call_zip_2 hl1 hl2 λh' a1 a2 a3 a4 a5 a6 a7=>h h' ⟨a1,a2,⟨_,_,a3⟩,a4,a5⟩ a7
end
def Qzh(t1 t2:Addr):It:=
 ⟨λi H=>∃xs ys x y,H t1=some (.lst xs)/\H t2=some (.lst ys)/\xs[i]? = some x/\ys[i]? = some y,
  λi H v H'=>∃p x y,H p=none/\(∀xs,H t1=some (.lst xs)->xs[i]? = some x)/\(∀ys,H t2=some (.lst ys)->ys[i]? = some y)/\v=.ref p/\H'=upd H p (.tup [x,y]),
  λi H=>∃xs ys,H t1=some (.lst xs)/\H t2=some (.lst ys)/\(xs.length<=i∨ys.length<=i)⟩
theorem Qj0{P:QN}{w:Jj}{K:PySem.W.Frag}{elts:List QV}{x1}{tpos:Pos}{z TI TO i1 i2 t1 t2:Addr}(D:Qwr z TI TO i1 i2 t1 t2) :
  Turn P w K (.Tuple elts x1 tpos) (Qzh t1 t2) [z,TI,TO,i1,i2] z (λi h=>QgC h z TI TO i1 i2 t1 t2 .none i) where
 mem:=by simp
 obj:=λi h st b hb=>by
  obtain⟨a1,a2,⟨_,_,a3⟩,⟨o4,a4,_,d4⟩,⟨o5,a5,_,d5⟩⟩:=st;simp only[Qt,Q5,or_false] at hb;rcases hb with rfl | rfl | rfl | rfl | rfl
  ·exact⟨_,a1,λv q=>nomatch q⟩
  ·exact⟨_,a2,λv q=>nomatch q⟩
  ·exact⟨_,a3,λv q=>nomatch q⟩
  ·exact⟨_,a4,λv q=>by rw[d4] at q;cases q⟩
  ·exact⟨_,a5,λv q=>by rw[d5] at q;cases q⟩
 keep:=λi h h' st k=>by
  obtain⟨a1,a2,⟨a,b,a3⟩,a4,a5⟩:=st;exact⟨k z (by simp) _ a1,k TI (by simp) _ a2,⟨a,b,k TO (by simp) _ a3⟩,a4.at λo e=>k i1 (by simp) o e,a5.at λo e=>k i2 (by simp) o e⟩
 item:=by
  intro X hP hw hK hc i pins s σ H E I hf st hg;subst hP hw hK;obtain⟨xs,ys,x,y,h1,h2,hx,hy⟩:=hg;obtain⟨its1,r1,p1,_⟩:=I.list (SqL.of h1);obtain⟨its2,r2,p2,_⟩:=I.list (SqL.of h2);obtain⟨u1,hu1,ru1⟩:=r1.get hx;obtain⟨u2,hu2,ru2⟩:=r2.get hy;refine QjT D st (Yq p1) (Yq p2) (by simpa using hu1) (by simpa using hu2) λh' st' tp kp=>?_
  have hlt:∀b∈[z,TI,TO,i1,i2],b≠s.heap.objs.size:=λb hb=>by
   obtain⟨a1,a2,⟨_,_,a3⟩,⟨o4,a4,_,d4⟩,⟨o5,a5,_,d5⟩⟩:=st;simp only[Qt,Q5,or_false] at hb;rcases hb with rfl | rfl | rfl | rfl | rfl
   ·exact QF (Qj a1)
   ·exact QF (Qj a2)
   ·exact QF (Qj a3)
   ·exact QF (Qj a4)
   ·exact QF (Qj a5)
  have fr:H s.heap.objs.size=none:=I.hok.fresh (Qi _);refine⟨_,rfl,QjM st'.zp λh2' z2 s2=>?_⟩;have I1:Inv X pins σ (upd H s.heap.objs.size (.tup [x,y])) { s with heap:=h2',toks:=s.toks }:=by
   refine I.turnedNew (ch:=[z,TI,TO,i1,i2]) hf (λb u hb e=>?_) (Qi _) ⟨by show 2<=sizeLine;decide,[u1,u2],.cons ru1 (.cons ru2 .nil),?_⟩
   ·simp only[Qt,Q5,or_false,not_or] at hb;exact s2.extBut _ _ hb.1 (kp b u hb.1 hb.2.2.1 hb.2.2.2.1 hb.2.2.2.2 e)
   ·exact⟨_,s2.extBut _ _ (hlt z (by simp)).symm tp,rfl,rfl,0,rfl⟩
  refine⟨.ref s.heap.objs.size,_,I1,rfl,⟨_,x,y,fr,λxs' e=>?_,λys' e=>?_,rfl,rfl⟩,?_,λb hb=>?_⟩
  ·rw[h1] at e;cases e;exact hx
  ·rw[h2] at e;cases e;exact hy
  ·obtain⟨a1,a2,⟨a,b,a3⟩,a4,a5⟩:=st';exact⟨z2,s2.extBut _ _ D.TIz a2,⟨a,b,s2.extBut _ _ D.TOz a3⟩,a4.extBut s2.extBut D.i1z,a5.extBut s2.extBut D.i2z⟩
  ·rw[Jq (hlt b hb)];exact(hf b hb).1
 done:=by
  intro X hP hw hK hc i pins s σ H E I hf st hg;subst hP hw hK;obtain⟨xs,ys,h1,h2,he⟩:=hg;obtain⟨its1,r1,p1,_⟩:=I.list (SqL.of h1);obtain⟨its2,r2,p2,_⟩:=I.list (SqL.of h2);have l1:=r1.length;have l2:=r2.length;refine QmV (I.ok.hd hc) D st (Yq p1) (Yq p2) ?_ λh' kp=>⟨rfl,I.turnedAll (t':=s.toks) (ch:=[z,TI,TO,i1,i2]) hf λb u hb e=>?_⟩
  ·rcases he with q | q
   ·exact .inl (by simp;omega)
   ·exact .inr (by simp;omega)
  ·simp only[Qt,Q5,or_false,not_or] at hb;exact kp b u hb.1 hb.2.2.1 hb.2.2.2.1 hb.2.2.2.2 e
 self:=λ_ _ _ _ _ st h=>Qb7 st.zp h
section
variable{X:Cx}
theorem Qjs(n t1 t2:Nat)(h1:t1<n)(h2:t2<n):Qwr (n+4) (n+2) (n+3) n (n+1) t1 t2 where
 TIz:=by show ¬(n+2=n+4);omega
 TOz:=by show ¬(n+3=n+4);omega
 i1z:=by show ¬(n=n+4);omega
 i2z:=by show ¬(n+1=n+4);omega
 TITO:=by show ¬(n+2=n+3);omega
 TIi1:=by show ¬(n+2=n);omega
 TIi2:=by show ¬(n+2=n+1);omega
 TOi1:=by show ¬(n+3=n);omega
 TOi2:=by show ¬(n+3=n+1);omega
 i12:=by show ¬(n=n+1);omega
 l1z:=by show ¬(t1=n+4);omega
 l1TO:=by show ¬(t1=n+3);omega
 l1i1:=by show ¬(t1=n);omega
 l1i2:=by show ¬(t1=n+1);omega
 l2z:=by show ¬(t2=n+4);omega
 l2TO:=by show ¬(t2=n+3);omega
 l2i1:=by show ¬(t2=n);omega
 l2i2:=by show ¬(t2=n+1);omega
def Qx6(ta:TA):TI:=λσ H R=>ta σ H λvs H1=>∃t1 t2 xs ys,vs=[.ref t1,.ref t2]/\H1 t1=some (.lst xs)/\H1 t2=some (.lst ys)/\R (Qzh t1 t2) H1
theorem Qml:bootBuiltins "zip" = some (.type "zip"):=by decide +kernel
theorem QrR{a b:QV}{elts:List QV}{x1}{tpos:Pos}{ta:TA}{p pos:Pos}(hg:Gl X "zip")(hm:X.mg "zip" = none)(ha:PA X [a,b] ta)(hs:starEach [a,b] X.env=[(false,eval a X.env),(false,eval b X.env)]:=by rfl)(hs2:starEach [b] X.env=[(false,eval b X.env)]:=by rfl) :
  PI X (.Tuple elts x1 tpos) (.Call (.Name "zip" p) [a,b] [] pos) (Qx6 ta):=by
 intro pins s σ H R I h;refine Call_ (Qb3 I hg hm Qml (JO (thn (ha pos pins s σ H _ I h) λus s1 ⟨vs,H1,I1,r1,q1⟩=>?_) (by rw[hs,hs2]) (by rw[hs2];rfl)));obtain⟨t1,t2,xs,ys,e,h1,h2,q⟩:=q1;subst e;obtain⟨u,v,rfl,ru,rv⟩:=vals2 r1;cases(show u=Zl t1 from ru);cases(show v=Zl t2 from rv);obtain⟨its1,w1,p1,_⟩:=I1.list (SqL.of h1);obtain⟨its2,w2,p2,_⟩:=I1.list (SqL.of h2);have n1:t1<s1.heap.objs.size:=I1.hok.lt h1;have n2:t2<s1.heap.objs.size:=I1.hok.lt h2;refine QjU (Yq p1) (Yq p2) λh' st kp=>?_
 refine Qb7 (s:={ s1 with heap:=h' }) st.zp ?_
 have D:=Qjs s1.heap.objs.size t1 t2 n1 n2;refine⟨s1.heap.objs.size+4,_,_,_,H1,rfl,I1.kept (t':=s1.toks) kp,Qj0 D,st,λb hb=>?_,q⟩;have hb':s1.heap.objs.size<=b:=by
  simp only[Qt,Q5,or_false] at hb;rcases hb with rfl | rfl | rfl | rfl | rfl<;>omega
 exact I1.fpOk hb' (I1.hok.fresh hb')
end
def Qur(K:PySem.W.Frag):List V->Hp->VK->Prop:=λxs H Q=>∃p ys,xs=[.ref p]/\(SqL K H p ys∨SqT K H p ys)/\Q (.int ys.length) H
def Qxz:List V->Hp->VK->Prop:=λxs H Q=>(∃i,xs=[.int i]/\Q (.int i) H)∨∃k,xs=[.bl k]/\Q (.int (if k then 1 else 0)) H
theorem QeB:bootBuiltins "sum" = some (.builtin "sum"):=by decide +kernel
theorem bt_set:bootBuiltins "set" = some (.type "set"):=by decide +kernel
theorem bt_any:bootBuiltins "any" = some (.builtin "any"):=by decide +kernel
theorem Qmi:bootBuiltins "sorted" = some (.builtin "sorted"):=by decide +kernel
def Qum(K:PySem.W.Frag):List V->Hp->VK->Prop:=λxs H Q=>∃(p:Addr)(ns:List Int),xs=[.ref p]/\SqL K H p (ns.map V.int)/\Q (.int ns.sum) H
def CMulB(i j:Int):Prop:=∃k:Nat,k<=1000000/\i.natAbs<2^k/\j.natAbs<2^k
theorem Qmp{i:Int}{k:Nat}(h:i.natAbs<2^k):JX i<=k:=by
 unfold JX;split
 ·exact Jm _
 ·rename_i z
  have hz:i.natAbs≠0:=by
   intro q;apply z
   have:i=0:=by omega
   subst this;rfl
  have:=(Nat.log2_lt hz).mpr h;omega
theorem CMulB.ok{i j:Int}(h:CMulB i j):IntMulOk i j:=by
 obtain⟨k,hk,h1,h2⟩:=h;have a:=Qmp h1;have b:=Qmp h2;unfold IntMulOk;have c:QeO (JX i+JX j:Nat)=false:=by
  unfold QeO;rw[decide_eq_false];have:bitsLine=134217728:=by decide +kernel
  rw[this];omega
 intro z;rw[JN] at z;have z2:=z.2;have e:((JX i+JX j:Nat):Int)=(JX i:Int)+(JX j:Int):=by omega
 rw[e] at c;rw[c] at z2;cases z2
section
variable{X:Cx}
theorem Qsn:OpR X (binaryOp .Mult) (rI CMulB λi j=>.int (i*j)):=opI λ_ _ _ _ _ _ _ hc q=>mul_int q hc.ok
theorem QoC:Qze X (QwF X.K):=by
 intro pins s σ H o i ov iv Q I ro ri h;obtain⟨p,xs,k,z,rfl,rfl,hq,he,q⟩:=h;cases ro;obtain⟨t,rfl⟩:=ri;obtain⟨its,r,pl,hz⟩:=I.list hq;obtain⟨j,h1,h2,h3,h4,h5⟩:=Qhx he;obtain⟨w,ew,rw'⟩:=r.get h2;have hl:=r.length;have hn:=Qer;have fin:EP X pins σ Q w s:=⟨z,H,I,rw',q⟩;by_cases h0:0<=k
 ·have hj:k.toNat=j:=by
   rw[QiG h0 h5] at h1;exact Qr h1
  exact wpAny_getItem_list pl.isList h0 (by omega) (by rw[hj];simpa using ew) fin
 ·have hj:(k+(its.toArray.size:Int)).toNat=j:=by
   rw[QgD (by omega) h4] at h1;rw[Qq,<- hl];exact Qr h1
  exact QoQ pl.isList (by omega) (by rw[Qq]<;>omega) (by omega) (by rw[hj];simpa using ew) fin
theorem QdL(hc:X.calm=true):CallR X (.builtin "sum") (Qum X.K):=by
 intro pins s σ H xs us Q I r h;obtain⟨p,ns,rfl,hp,q⟩:=h;obtain⟨u,rfl,ru⟩:=vals1 r;cases ru;obtain⟨its,rv,pl,hz⟩:=I.list hp;have hi:Qbp its ns:=intsAre_of rv;obtain⟨ys,hx⟩:=hi.allInts.items;have hl':s.heap.IsList p (intItems ys):=hx ▸ pl.isList;refine sum_intListG (I.ok.hd hc) hl' λh' tk t' hk=>?_
 have e1:ns=ys.toList.map (·.1):=by
  rw[<- nums_intItems,<- hx];exact(show numsOf its.toArray.toList=ns from hi.numsOf).symm
 have e2:preSum (numAt ys) ys.size=ns.sum:=by
  rw[preSum_eq,Qbt (by simp),e1]
 rw[e2];exact⟨.int _,H,I.kept hk,⟨_,rfl⟩,q⟩
end
end L2
namespace Rk
open L2 _root_.Rd
def QyB(u:Nat):R2:=λx y H Q=>∃dx dy,Dat H x dx/\Dat H y dy/\u+min dx.depth dy.depth<cLine/\Q (.bl (!Jf dx dy)) H
theorem Qu8{X:Cx}:OpR X (compareOp .NotEq) (QyB X.A.units):=Qu9
def QyI(u:Nat):R2:=λx y H Q=>∃dx dy,Dat H x dx/\Dat H y dy/\u+min dx.depth dy.depth<cLine/\Q (.bl (Jf dx dy)) H
theorem Qvg{X:Cx}:OpR X (compareOp .Eq) (QyI X.A.units):=Qvh
theorem QkZ{X:Cx}:OpR X (compareOp .NotIn) (QxA X.A.in1.units true):=Qk0
end Rk
namespace Rx
open PySem.Calls L2
end Rx
namespace Rk
open L2 _root_.Rd
theorem Qdx{n k:Nat}(h:k<n):ixN n (k:Nat)=some k:=by
 unfold ixN;rw[if_pos (by omega),if_pos (by omega)];simp
end Rk
namespace HT
section
open PySem.SeqAt
open PySem.AutoSeq1 (wpAny_loadPart')
open PySem.MeetsSeq PySem.MeetsSeq2 PySem.MeetsSeq3
end
section
variable{prog:QN}{w:Jj}{A:Jh}{E:Value->Shared->Prop}{s:Shared}
end
end HT
namespace L2
def Qun(K:PySem.W.Frag):V->Option Int->Option Int->Hp->VK->Prop:=λx lo hi H Q=>∃a xs,x=.ref a/\SqL K H a xs/\∀p H',Same H H'->H p=none->H' p=some (.lst (QjL xs lo hi))->Q (.ref p) H'
theorem Qna{X:Cx}:SlR X (Qun X.K):=by
 intro pins s σ H x v vl vu lo hi sl Q I rx hs pl pu h;obtain⟨a,xs,e,hx,q⟩:=h;exact Qrq pins s σ H x v vl vu lo hi sl Q I rx hs pl pu ⟨a,xs,e,hx,λp hp=>q p _ (JI hp) hp Ju⟩
end L2
namespace Rk
open L2 _root_.Rd
end Rk
namespace L2
section
variable{X:Cx}
def QkA(K:PySem.W.Frag):List V->Hp->VK->Prop:=λxs H Q=>∃p ys,xs=[.ref p]/\((SqL K H p ys/\∀l H',Same H H'->H l=none->H' l=some (.tup ys)->Q (.ref l) H')∨(SqT K H p ys/\Q (.ref p) H))
theorem Qam:CallR X (.type "tuple") (QkA X.K):=by
 intro pins s σ H xs us Q I r h;obtain⟨p,ys,e,h⟩:=h;refine Qfv pins s σ H xs us Q I r ⟨p,ys,e,?_⟩;rcases h with⟨h1,h2⟩ | h
 ·exact .inl ⟨h1,λl hl=>h2 l _ (JI hl) hl Ju⟩
 ·exact .inr h
end
end L2
namespace Rk
open L2 _root_.Rd
def Yw:Nat->(Nat->Int)->Int
 |0,_=>0
 |n+1,f=>Yw n f+f n
theorem YI{n:Nat}{f g:Nat->Int}(h:∀i,i<n->f i=g i):Yw n f=Yw n g:=by
 induction n with
 |zero=>rfl
 |succ n ih=>rw[Yw,Yw,ih λi hi=>h i (by omega),h n (by omega)]
end Rk
namespace L2
section
variable{X:Cx}
theorem Qx5{op:Qa7}{r:R2}(h:OpR X (inplaceOp op) r):PIp X op r:=λpins s σ H x y v u Q I rx ry q=>h pins s σ H x y v u Q I rx ry q
end
section
variable{X:Cx}
end
end L2
namespace Rk
open L2 _root_.Rd
end Rk
namespace Rx
open PySem.Calls L2
section
variable{X:Cx}{e:QV}{st:ZK}{pos:Pos}{te:TX}{t u:TSX}{tc:TT}{c:QV}{a b:List ZK}
end
section
variable{X:Cx}{R:Addr}{i:Nat}{n r:Str}{body:List ZK}{hx:QV}{tb:TSX}{th:TE}{np hp hpos pos:Pos}
end
end Rx
namespace L2
section
variable{X:Cx}
def Quq(K:PySem.W.Frag):List V->Hp->VK->Prop:=λxs H Q=>∃(p:Addr)(ns:List Int),xs=[.ref p]/\SqL K H p (ns.map V.int)/\0<ns.length/\∀m,m∈ns->(∀y∈ns,m<=y)->Q (.int m) H
theorem Qmh(hc:X.calm=true):CallR X (.builtin "min") (Quq X.K):=by
 intro pins s σ H xs us Q I r h;obtain⟨p,ns,rfl,hp,hn,q⟩:=h;obtain⟨u,rfl,ru⟩:=vals1 r;cases ru;obtain⟨its,rv,pl,hz⟩:=I.list hp;have hi:Qbp its ns:=intsAre_of rv;obtain⟨ys,hx⟩:=hi.allInts.items;have hl':s.heap.IsList p (intItems ys):=hx ▸ pl.isList;have hsz:ys.size=ns.length:=by
  have h1:its.toArray.size=(intItems ys).size:=by rw[hx]
  rw[Qq,hi.length] at h1;simp[intItems] at h1;omega
 have num:∀j m,ns[j]? = some m->numAt ys j=m:=λj m e=>by
  obtain⟨w,hw,rw'⟩:=rv.get (i:=j) (x:=V.int m) (by rw[Qh,e];rfl);have h2:(intItems ys)[j]? = some w:=by rw[<- hx,QjA];exact hw
  unfold intItems at h2;rw[Array.getElem?_map] at h2;obtain⟨y,hy,ey⟩:=J6.mp h2;unfold numAt;rw[hy];subst ey;obtain⟨t,et⟩:=rw';cases et;rfl
 refine min_intList (I.ok.hd hc) hl' (by omega) λv h' tk hv hk=>?_
 rw[<- hx] at hv;rw[QjA] at hv;have ab:=argBest_lt (numAt ys) (ys.size - 1);generalize argBest (λi j=>decide (numAt ys i<numAt ys j)) (ys.size - 1)=b at *;obtain⟨x,hx2,rx⟩:∃x,(ns.map V.int)[b]? = some x/\RelV x v:=by
  have hlen:=rv.length;have hlt:=(Qs.mp hv).1;cases e:(ns.map V.int)[b]? with
  |none=>
   have:=QgH.mp e;omega
  |some x=>
   obtain⟨w,hw,rw'⟩:=rv.get e;rw[hw] at hv;cases hv;exact⟨x,rfl,rw'⟩
 rw[Qh] at hx2;obtain⟨m,hm,rfl⟩:=J6.mp hx2;refine⟨.int m,H,I.kept hk,rx,q m (Qz hm) λy hy=>?_⟩;obtain⟨j,hj⟩:=Jw.mp hy;have hjl:=(Qs.mp hj).1;have:=ab.2 j (by omega);rw[num b m hm,num j y hj] at this;exact this
end
end L2
namespace Rk
open L2 _root_.Rd
end Rk
namespace Dl
open L2 _root_.Rd Rk
def dkV(kvs:List (Int×Int)):List (Key×V):=kvs.map λp=>(QbT p.1,V.int p.2)
def dkD(kvs:List (Int×Int)):List (PyData×PyData):=kvs.map λp=>(Qb p.1,Qb p.2)
mutual
inductive DA (A:Addr->Prop) (H:Hp):V->PyData->Prop
 |non:DA A H .non .none
 |bl (b:Bool):DA A H (.bl b) (.bool b)
 |int (i:Int):DA A H (.int i) (.int i)
 |str (x:Str):QfB (.str x)=true->DA A H (.str x) (.str x)
 |tup {a:Addr} {xs:List V} {ds:List PyData}:¬A a->H a=some (.tup xs)->DAs A H xs ds->DA A H (.ref a) (.tuple ds)
 |lst {a:Addr} {xs:List V} {ds:List PyData}:¬A a->H a=some (.lst xs)->DAs A H xs ds->DA A H (.ref a) (.list ds)
 |dct {a:Addr} {kvs:List (Int×Int)} {ds:List (PyData×PyData)}:¬A a->H a=some (.dK (dkV kvs))->ds=dkD kvs->DA A H (.ref a) (.dict ds)
inductive DAs (A:Addr->Prop) (H:Hp):List V->List PyData->Prop
 |nil:DAs A H [] []
 |cons {x:V} {xs:List V} {d:PyData} {ds:List PyData}:DA A H x d->DAs A H xs ds->DAs A H (x::xs) (d::ds)
end
mutual
theorem Qv0{A A':Addr->Prop}{H H':Hp}(k:∀a o,¬A a->H a=some o->H' a=some o)(m:∀a,A' a->A a∨H a=none):∀(d:PyData)(x:V),DA A H x d->DA A' H' x d
 |.none,_,.non=>.non
 |.bool _,_,.bl _=>.bl _
 |.int _,_,.int _=>.int _
 |.str _,_,.str _ c=>.str _ c
 |.tuple ds,_,.tup (xs:=xs) n e q=>.tup (λz=>(m _ z).elim n λz=>by rw[z] at e;cases e) (k _ _ n e) (Qit k m ds xs q)
 |.list ds,_,.lst (xs:=xs) n e q=>.lst (λz=>(m _ z).elim n λz=>by rw[z] at e;cases e) (k _ _ n e) (Qit k m ds xs q)
 |.dict _,_,.dct n e q=>.dct (λz=>(m _ z).elim n λz=>by rw[z] at e;cases e) (k _ _ n e) q
theorem Qit{A A':Addr->Prop}{H H':Hp}(k:∀a o,¬A a->H a=some o->H' a=some o)(m:∀a,A' a->A a∨H a=none):∀(ds:List PyData)(xs:List V),DAs A H xs ds->DAs A' H' xs ds
 |[],_,.nil=>.nil
 |d::ds,_,.cons (x:=x) (xs:=xs) q qs=>.cons (Qv0 k m d x q) (Qit k m ds xs qs)
end
theorem DA.mv{A A':Addr->Prop}{H H':Hp}{x:V}{d:PyData}(q:DA A H x d)(k:∀a o,¬A a->H a=some o->H' a=some o)(m:∀a,A' a->A a∨H a=none):DA A' H' x d:=Qv0 k m d x q
theorem DAs.mv{A A':Addr->Prop}{H H':Hp}{x:List V}{d:List PyData}(q:DAs A H x d)(k:∀a o,¬A a->H a=some o->H' a=some o)(m:∀a,A' a->A a∨H a=none):DAs A' H' x d:=Qit k m d x q
theorem DA.same{A:Addr->Prop}{H H':Hp}{x:V}{d:PyData}(q:DA A H x d)(s:Same H H'):DA A H' x d:=q.mv (λa o _ e=>s a o e) λa z=>.inl z
theorem DAs.same{A:Addr->Prop}{H H':Hp}{x:List V}{d:List PyData}(q:DAs A H x d)(s:Same H H'):DAs A H' x d:=q.mv (λa o _ e=>s a o e) λa z=>.inl z
theorem DAs.length{A:Addr->Prop}{H:Hp}:∀{xs:List V}{ds:List PyData},DAs A H xs ds->xs.length=ds.length
 |_,_,.nil=>rfl
 |_,_,.cons _ q=>by rw[QM,QM,q.length]
theorem DAs.get{A:Addr->Prop}{H:Hp}:∀{xs:List V}{ds:List PyData},DAs A H xs ds->∀(i:Nat)(d:PyData),ds[i]? = some d->∃x,xs[i]? = some x/\DA A H x d
 |_,_,.nil,i,x,e=>by simp at e
 |_,_,.cons q qs,0,x,e=>by simp at e;subst e;exact⟨_,rfl,q⟩
 |_,_,.cons q qs,i+1,x,e=>qs.get i x (by simpa using e)
theorem DAs.app{A:Addr->Prop}{H:Hp}:∀{xs ys:List V}{ds es:List PyData},DAs A H xs ds->DAs A H ys es->DAs A H (xs++ys) (ds++es)
 |_,_,_,_,.nil,q=>q
 |_,_,_,_,.cons a b,q=>.cons a (b.app q)
theorem DAs.take{A:Addr->Prop}{H:Hp}:∀{xs:List V}{ds:List PyData},DAs A H xs ds->∀n:Nat,DAs A H (xs.take n) (ds.take n)
 |_,_,.nil,n=>by rw[Qwv,Qwv];exact .nil
 |_,_,.cons a b,0=>.nil
 |_,_,.cons a b,n+1=>.cons a (b.take n)
theorem DAs.drop{A:Addr->Prop}{H:Hp}:∀{xs:List V}{ds:List PyData},DAs A H xs ds->∀n:Nat,DAs A H (xs.drop n) (ds.drop n)
 |_,_,.nil,n=>by rw[Qww,Qww];exact .nil
 |_,_,.cons a b,0=>.cons a b
 |_,_,.cons a b,n+1=>b.drop n
theorem DAs.set{A:Addr->Prop}{H:Hp}{x:V}{d:PyData}(q:DA A H x d):∀{xs:List V}{ds:List PyData},DAs A H xs ds->∀n:Nat,DAs A H (xs.set n x) (ds.set n d)
 |_,_,.nil,n=>.nil
 |_,_,.cons a b,0=>.cons q b
 |_,_,.cons a b,n+1=>.cons a (b.set q n)
mutual
def nd:PyData->Bool
 |.dict _=>false
 |.tuple ds=>nds ds
 |.list ds=>nds ds
 |_=>true
def nds:List PyData->Bool
 |[]=>true
 |d::ds=>nd d&&nds ds
end
mutual
theorem QpF{A:Addr->Prop}{H:Hp}:∀(d:PyData)(x:V),nd d=true->DA A H x d->Dat H x d
 |.none,_,_,.non=>.non
 |.bool _,_,_,.bl _=>.bl _
 |.int _,_,_,.int _=>.int _
 |.str _,_,_,.str _ c=>.str _ c
 |.tuple ds,_,n,.tup (xs:=xs) _ e q=>.tup e (Qbi ds xs n q)
 |.list ds,_,n,.lst (xs:=xs) _ e q=>.lst e (Qbi ds xs n q)
theorem Qbi{A:Addr->Prop}{H:Hp}:∀(ds:List PyData)(xs:List V),nds ds=true->DAs A H xs ds->Dats H xs ds
 |[],_,_,.nil=>.nil
 |d::ds,_,n,.cons (x:=x) (xs:=xs) q qs=>by
  have n':=Q3.mp (show(nd d&&nds ds)=true from n);exact .cons (QpF d x n'.1 q) (Qbi ds xs n'.2 qs)
end
theorem Qlk{ds:List PyData}:nds ds=true↔∀d∈ds,nd d=true:=by
 induction ds with
 |nil=>exact⟨(λ_ _ h=>nomatch h),λ_=>rfl⟩
 |cons d ds ih=>
  rw[show nds (d::ds)=(nd d&&nds ds) from rfl,Q3,ih];constructor
  ·rintro⟨a,b⟩ e he;rcases Qt.mp he with z | z
   ·rw[z];exact a
   ·exact b e z
  ·intro h;exact⟨h d (by simp),λe he=>h e (by simp[he])⟩
def DP(A P:Addr->Prop)(H:Hp)(v:V)(d:PyData):Prop:=DA A H v d∨∃l xs ds,v=.ref l/\d=.list ds/\¬P l/\H l=some (.lst xs)/\DAs A H xs ds
theorem DP.dat{A P:Addr->Prop}{H:Hp}{v:V}{d:PyData}(h:DP A P H v d)(n:nd d=true):Dat H v d:=by
 rcases h with h | ⟨l,xs,ds,rfl,rfl,_,e,q⟩
 ·exact QpF d v n h
 ·exact .lst e (Qbi ds xs n q)
theorem DP.list{A P:Addr->Prop}{H:Hp}{v:V}{ds:List PyData}(h:DP A P H v (.list ds)):∃l xs,v=.ref l/\H l=some (.lst xs)/\DAs A H xs ds:=by
 rcases h with h | ⟨l,xs,ds',rfl,e,_,h2,q⟩
 ·cases h with | lst n e q=>exact⟨_,_,rfl,e,q⟩
 ·cases e;exact⟨l,xs,rfl,h2,q⟩
theorem DP.tuple{A P:Addr->Prop}{H:Hp}{v:V}{ds:List PyData}(h:DP A P H v (.tuple ds)):∃l xs,v=.ref l/\H l=some (.tup xs)/\DAs A H xs ds:=by
 rcases h with h | ⟨l,xs,ds',rfl,e,_⟩
 ·cases h with | tup n e q=>exact⟨_,_,rfl,e,q⟩
 ·cases e
theorem DP.int{A P:Addr->Prop}{H:Hp}{v:V}{i:Int}(h:DP A P H v (.int i)):v=.int i:=by
 rcases h with h | ⟨l,xs,ds',rfl,e,_⟩
 ·cases h;rfl
 ·cases e
theorem DP.bool{A P:Addr->Prop}{H:Hp}{v:V}{i:Bool}(h:DP A P H v (.bool i)):v=.bl i:=by
 rcases h with h | ⟨l,xs,ds',rfl,e,_⟩
 ·cases h;rfl
 ·cases e
theorem DP.none{A P:Addr->Prop}{H:Hp}{v:V}(h:DP A P H v .none):v=.non:=by
 rcases h with h | ⟨l,xs,ds',rfl,e,_⟩
 ·cases h;rfl
 ·cases e
theorem DP.str{A P:Addr->Prop}{H:Hp}{v:V}{x:Str}(h:DP A P H v (.str x)):v=.str x/\QfB (.str x)=true:=by
 rcases h with h | ⟨l,xs,ds',rfl,e,_⟩
 ·cases h with | str _ c=>exact⟨rfl,c⟩
 ·cases e
inductive Sl where
 |no | pot | scr
 |v (d:PyData)
 |own (ds:List PyData)
 |pk (ds:List PyData)
abbrev Sts:=List Sl
structure Fm where
 H0:Hp
 A0:Addr->Prop
 pt:Addr->Prop
def Qzf(σ:L2.St)(δ:Sts)(i:Nat)(a:Addr):Prop:=σ[i]? = some (some (.ref a))/\(δ[i]? = some .pot∨∃ds,δ[i]? = some (.own ds))
def Av(F:Fm)(σ:L2.St)(δ:Sts)(a:Addr):Prop:=F.A0 a∨∃i,Qzf σ δ i a
def ZY(σ:L2.St)(δ:Sts)(a:Addr):Prop:=∃i:Nat,σ[i]? = some (some (.ref a))/\δ[i]? = some .pot
def Qzd(K:PySem.W.Frag)(F:Fm)(H:Hp)(A:Addr->Prop)(o:Option V):Sl->Prop
 |.no=>True
 |.v d=>∃v,o=some v/\DA A H v d
 |.own ds=>∃l xs,o=some (.ref l)/\H l=some (.lst xs)/\DAs A H xs ds/\F.H0 l=none
 |.pk ds=>∃l xs,o=some (.ref l)/\H l=some (.lst xs)/\DAs A H xs ds/\∃ys,F.H0 l=some (.lst ys)/\¬F.pt l
 |.pot=>∃p n,o=some (.ref p)/\H p=some (.lst [.int n])/\(F.pt p∨F.H0 p=none)
 |.scr=>∃a ns,o=some (.ref a)/\SqL K F.H0 a ((ns:List Int).map V.int)/\¬F.pt a/\ns.length<=63
structure Rel (K:PySem.W.Frag) (F:Fm) (σ:L2.St) (H:Hp) (δ:Sts):Prop where
 len:σ.length=δ.length
 dom:∀a,F.A0 a->∃xs,H a=some (.lst xs)
 dom0:∀a,F.A0 a->∃xs,F.H0 a=some (.lst xs)
 pt0:∀p,F.pt p->F.A0 p/\∃n,H p=some (.lst [.int n])
 kx:∀b o,¬F.pt b->F.H0 b=some o->H b=some o
 sl:∀(i:Nat) o x,σ[i]? = some o->δ[i]? = some x->Qzd K F H (Av F σ δ) o x
 inj:∀(i j:Nat) a ds,δ[i]? = some (.own ds)->σ[i]? = some (some (.ref a))->Qzf σ δ j a->i=j
def Kp(σ:L2.St)(δ:Sts)(H H':Hp):Prop:=(∀b o,¬ZY σ δ b->H b=some o->H' b=some o)/\∀b,ZY σ δ b->∃n,H' b=some (.lst [.int n])
def Stp(F:Fm)(σ:L2.St)(H:Hp)(δ:Sts)(σ':L2.St)(H':Hp)(δ':Sts):Prop:=(∀b o,¬Av F σ δ b->H b=some o->H' b=some o)/\∀b,Av F σ' δ' b->Av F σ δ b∨H b=none
def Ke(F:Fm)(H':Hp):Prop:=(∀b o,¬F.pt b->F.H0 b=some o->H' b=some o)/\∀p,F.pt p->∃n,H' p=some (.lst [.int n])
theorem YE{F:Fm}{σ:L2.St}{δ:Sts}{a:Addr}(h:ZY σ δ a):Av F σ δ a:=let ⟨i,h1,h2⟩:=h;.inr ⟨i,h1,.inl h2⟩
theorem Rel.ke{K:PySem.W.Frag}{F:Fm}{σ:L2.St}{H:Hp}{δ:Sts}(r:Rel K F σ H δ):Ke F H:=⟨r.kx,λp hp=>(r.pt0 p hp).2⟩
theorem Rel.isl{K:PySem.W.Frag}{F:Fm}{σ:L2.St}{H:Hp}{δ:Sts}(r:Rel K F σ H δ){a:Addr}(h:Av F σ δ a):∃xs,H a=some (.lst xs):=by
 rcases h with h | ⟨i,h1,h2⟩
 ·exact r.dom a h
 ·rcases h2 with h2 | ⟨ds,h2⟩
  ·obtain⟨p,n,e,h,_⟩:=r.sl i _ _ h1 h2;cases e;exact⟨_,h⟩
  ·obtain⟨l,xs,e,h,_⟩:=r.sl i _ _ h1 h2;cases e;exact⟨_,h⟩
theorem Kp.refl{K:PySem.W.Frag}{F:Fm}{σ:L2.St}{H:Hp}{δ:Sts}(r:Rel K F σ H δ):Kp σ δ H H:=⟨λ_ _ _ e=>e,λb ⟨i,h1,h2⟩=>by
 obtain⟨p,n,e,h,_⟩:=r.sl i _ _ h1 h2;cases e;exact⟨n,h⟩⟩
theorem Kp.trans{σ:L2.St}{δ:Sts}{H H1 H2:Hp}(a:Kp σ δ H H1)(b:Kp σ δ H1 H2):Kp σ δ H H2:=⟨λc o n e=>b.1 c o n (a.1 c o n e),b.2⟩
theorem Kp.same{K:PySem.W.Frag}{F:Fm}{σ:L2.St}{H H':Hp}{δ:Sts}(r:Rel K F σ H δ)(s:Same H H'):Kp σ δ H H':=⟨λb o _ e=>s b o e,λb hb=>let ⟨n,h⟩:=(Kp.refl r).2 b hb;⟨n,s _ _ h⟩⟩
theorem Kp.da{F:Fm}{σ:L2.St}{H H':Hp}{δ:Sts}{v:V}{d:PyData}(k:Kp σ δ H H')(h:DA (Av F σ δ) H v d):DA (Av F σ δ) H' v d:=h.mv (λa o n e=>k.1 a o (λz=>n (YE z)) e) λa z=>.inl z
theorem Kp.das{F:Fm}{σ:L2.St}{H H':Hp}{δ:Sts}{v:List V}{d:List PyData}(k:Kp σ δ H H')(h:DAs (Av F σ δ) H v d):DAs (Av F σ δ) H' v d:=h.mv (λa o n e=>k.1 a o (λz=>n (YE z)) e) λa z=>.inl z
theorem Kp.dp{F:Fm}{σ:L2.St}{H H':Hp}{δ:Sts}{v:V}{d:PyData}(k:Kp σ δ H H')(h:DP (Av F σ δ) (ZY σ δ) H v d):DP (Av F σ δ) (ZY σ δ) H' v d:=by
 rcases h with h | ⟨l,xs,ds,e1,e2,n,e,q⟩
 ·exact .inl (k.da h)
 ·exact .inr ⟨l,xs,ds,e1,e2,n,k.1 _ _ n e,k.das q⟩
theorem Rel.own_pot{K:PySem.W.Frag}{F:Fm}{σ:L2.St}{H:Hp}{δ:Sts}(r:Rel K F σ H δ){i:Nat}{ds:List PyData}{l:Addr}(h:δ[i]? = some (.own ds))(e:σ[i]? = some (some (.ref l))):¬ZY σ δ l:=by
 rintro⟨j,h1,h2⟩;have:=r.inj i j l _ h e ⟨h1,.inl h2⟩;subst this;rw[h] at h2;cases h2
theorem Rel.pt_pot{K:PySem.W.Frag}{F:Fm}{σ:L2.St}{H H':Hp}{δ:Sts}(r:Rel K F σ H δ)(k:Kp σ δ H H'){p:Addr}(hp:F.pt p):∃n,H' p=some (.lst [.int n]):=by
 by_cases z:ZY σ δ p
 ·exact k.2 p z
 ·obtain⟨n,e⟩:=(r.pt0 p hp).2;exact⟨n,k.1 _ _ z e⟩
theorem Rel.kp{K:PySem.W.Frag}{F:Fm}{σ:L2.St}{H H':Hp}{δ:Sts}(r:Rel K F σ H δ)(k:Kp σ δ H H'):Rel K F σ H' δ where
 len:=r.len
 dom:=λa ha=>by
  by_cases z:ZY σ δ a
  ·exact⟨_,(k.2 a z).choose_spec⟩
  ·obtain⟨xs,e⟩:=r.dom a ha;exact⟨xs,k.1 _ _ z e⟩
 dom0:=r.dom0
 pt0:=λp hp=>⟨(r.pt0 p hp).1,r.pt_pot k hp⟩
 kx:=λb o n e=>by
  by_cases z:ZY σ δ b
  ·obtain⟨i,h1,h2⟩:=z;obtain⟨p,m,e1,h,q⟩:=r.sl i _ _ h1 h2;cases e1;rcases q with q | q
   ·exact absurd q n
   ·rw[q] at e;cases e
  ·exact k.1 _ _ z (r.kx b o n e)
 sl:=λi o x h1 h2=>by
  have h:=r.sl i o x h1 h2;cases x with
  |no=>trivial
  |v d=>obtain⟨v,e,q⟩:=h;exact⟨v,e,k.da q⟩
  |own ds=>obtain⟨l,xs,rfl,e,q,f⟩:=h;exact⟨l,xs,rfl,k.1 _ _ (r.own_pot h2 h1) e,k.das q,f⟩
  |pk ds=>
   obtain⟨l,xs,rfl,e,q,ys,f,f2⟩:=h;refine⟨l,xs,rfl,k.1 _ _ ?_ e,k.das q,ys,f,f2⟩;rintro⟨j,j1,j2⟩;obtain⟨p,m,e1,_,w⟩:=r.sl j _ _ j1 j2;cases e1;rcases w with w | w
   ·exact f2 w
   ·rw[w] at f;cases f
  |pot=>
   obtain⟨p,n,rfl,e,q⟩:=h;obtain⟨m,e'⟩:=k.2 p ⟨i,h1,h2⟩;exact⟨p,m,rfl,e',q⟩
  |scr=>exact h
 inj:=r.inj
theorem Rel.same{K:PySem.W.Frag}{F:Fm}{σ:L2.St}{H H':Hp}{δ:Sts}(r:Rel K F σ H δ)(s:Same H H'):Rel K F σ H' δ:=r.kp (Kp.same r s)
theorem Stp.refl{F:Fm}{σ:L2.St}{H:Hp}{δ:Sts}:Stp F σ H δ σ H δ:=⟨λ_ _ _ e=>e,λ_ z=>.inl z⟩
theorem Stp.trans{F:Fm}{σ σ1 σ2:L2.St}{H H1 H2:Hp}{δ δ1 δ2:Sts}(a:Stp F σ H δ σ1 H1 δ1)(b:Stp F σ1 H1 δ1 σ2 H2 δ2):Stp F σ H δ σ2 H2 δ2:=by
 refine⟨λc o n e=>?_,λc z=>?_⟩
 ·refine b.1 c o (λz=>?_) (a.1 c o n e);rcases a.2 c z with q | q
  ·exact n q
  ·rw[q] at e;cases e
 ·rcases b.2 c z with q | q
  ·exact a.2 c q
  ·by_cases y:Av F σ δ c
   ·exact .inl y
   ·right
    cases e:H c with
    |none=>rfl
    |some o=>rw[a.1 c o y e] at q;cases q
theorem Stp.kp{F:Fm}{σ:L2.St}{H H':Hp}{δ:Sts}(k:Kp σ δ H H'):Stp F σ H δ σ H' δ:=⟨λb o n e=>k.1 b o (λz=>n (YE z)) e,λ_ z=>.inl z⟩
theorem Stp.da{F:Fm}{σ σ':L2.St}{H H':Hp}{δ δ':Sts}{v:V}{d:PyData}(k:Stp F σ H δ σ' H' δ')(h:DA (Av F σ δ) H v d):DA (Av F σ' δ') H' v d:=h.mv k.1 k.2
abbrev XP:=Addr->Prop
abbrev DE:=Sts->(PyData->Prop)->XP->Prop
abbrev DT:=Sts->(Bool->Prop)->XP->Prop
abbrev DAr:=Sts->(List PyData->Prop)->XP->Prop
abbrev DSl:=Sts->(List Sl->Prop)->XP->Prop
inductive Md where | D | P | F
def FrV(H H':Hp)(v:V):Prop:=∀l,v=.ref l->(∃xs,H' l=some (.lst xs))->H l=none
def Vok(m:Md)(F:Fm)(σ:L2.St)(δ:Sts)(H H':Hp)(v:V)(d:PyData):Prop:=
 match m with
 |.D=>DA (Av F σ δ) H' v d
 |.P=>DP (Av F σ δ) (ZY σ δ) H' v d
 |.F=>DA (Av F σ δ) H' v d/\FrV H H' v
def Out(F:Fm)(E:XK)(EX:XP):Prop:=∀C,EX C->∀H',Ke F H'->E (.ref C) none H'
def tX(m:Md)(K:PySem.W.Frag)(E:XK)(w:DE):TE:=λσ H Q=>∃(F:Fm)(δ:Sts)(R:PyData->Prop)(EX:XP),Rel K F σ H δ/\w δ R EX/\(∀d,R d->∀v H',Rel K F σ H' δ->Kp σ δ H H'->Vok m F σ δ H H' v d->Q v H')/\Out F E EX
def tT(K:PySem.W.Frag)(E:XK)(w:DT):TT:=λσ H Q=>∃(F:Fm)(δ:Sts)(R:Bool->Prop)(EX:XP),Rel K F σ H δ/\w δ R EX/\(∀b,R b->∀H',Rel K F σ H' δ->Kp σ δ H H'->Q b H')/\Out F E EX
def VD(m:Md)(A P:Addr->Prop)(H:Hp)(v:V)(d:PyData):Prop:=
 match m with
 |.P=>DP A P H v d
 |_=>DA A H v d
def tAr(n:Nat)(m:Md)(K:PySem.W.Frag)(E:XK)(w:DAr):TA:=λσ H Q=>∃(F:Fm)(δ:Sts)(R:List PyData->Prop)(EX:XP),Rel K F σ H δ/\w δ R EX/\(∀ds,R ds->ds.length=n->∀vs H',Rel K F σ H' δ->Kp σ δ H H'->Qac (VD m (Av F σ δ) (ZY σ δ) H') vs ds->Q vs H')/\Out F E EX
def QhD(A pt:Addr->Prop)(H:Hp)(v:V):Sl->Prop
 |.v d=>DA A H v d
 |.pot=>∃p,v=.ref p/\pt p
 |_=>False
def tAs(K:PySem.W.Frag)(E:XK)(w:DSl):TA:=λσ H Q=>∃(F:Fm)(δ:Sts)(R:List Sl->Prop)(EX:XP),Rel K F σ H δ/\w δ R EX/\(∀ds,R ds->∀vs H',Rel K F σ H' δ->Kp σ δ H H'->Qac (QhD (Av F σ δ) (ZY σ δ) H') vs ds->Q vs H')/\Out F E EX
theorem Kp.vd{m:Md}{F:Fm}{σ:L2.St}{H H':Hp}{δ:Sts}{v:V}{d:PyData}(k:Kp σ δ H H')(h:VD m (Av F σ δ) (ZY σ δ) H v d):VD m (Av F σ δ) (ZY σ δ) H' v d:=by
 cases m
 ·exact k.da h
 ·exact k.dp h
 ·exact k.da h
theorem Kp.arg{F:Fm}{σ:L2.St}{H H':Hp}{δ:Sts}{v:V}{d:Sl}(k:Kp σ δ H H')(h:QhD (Av F σ δ) (ZY σ δ) H v d):QhD (Av F σ δ) (ZY σ δ) H' v d:=by
 cases d with
 |v d=>exact k.da h
 |pot=>exact h
 |_=>exact h.elim
def QbM(H:Hp):Prop:=∀a xs,H a=some (.lst xs)∨H a=some (.tup xs)->xs.length<=sizeLine
section
variable{X:Cx}{E:XK}
theorem Inv.lens{pins:List (Addr×Obj)}{σ:L2.St}{H:Hp}{s:Shared}(I:Inv X pins σ H s):QbM H:=λa xs h=>by
 rcases h with h | h
 ·exact(I.hok a _ h).1
 ·exact(I.hok a _ h).1
theorem PE.imp{e:QV}{t t':TE}(h:PE X e t)(i:∀σ H Q,t' σ H Q->t σ H Q):PE X e t':=λpins s σ H Q I q=>h pins s σ H Q I (i σ H Q q)
theorem PT.imp{e:QV}{t t':TT}(h:PT X e t)(i:∀σ H Q,t' σ H Q->t σ H Q):PT X e t':=λpins s σ H Q I q=>h pins s σ H Q I (i σ H Q q)
theorem PW.imp{e:QV}{t t':TT}(h:PW X e t)(i:∀σ H Q,t' σ H Q->t σ H Q):PW X e t':=λwh pins s σ H Q I q=>h wh pins s σ H Q I (i σ H Q q)
theorem PA.imp{e:List QV}{t t':TA}(h:PA X e t)(i:∀σ H Q,t' σ H Q->t σ H Q):PA X e t':=λpos pins s σ H Q I q=>h pos pins s σ H Q I (i σ H Q q)
theorem OpR.len{f:Value->Value->Sem Value}{r:R2}(h:OpR X f r):OpR X f (λx y H Q=>QbM H->r x y H Q):=λpins s σ H x y v u Q I rx ry q=>h pins s σ H x y v u Q I rx ry (q (Inv.lens I))
theorem CallR.len{f:Value}{r:List V->Hp->VK->Prop}(h:CallR X f r):CallR X f (λxs H Q=>QbM H->r xs H Q):=λpins s σ H xs us Q I rx q=>h pins s σ H xs us Q I rx (q (Inv.lens I))
theorem IxR.len{r:R2}(h:IxR X r):IxR X (λx y H Q=>QbM H->r x y H Q):=λa b pins s σ H x y v u Q I rx ry q hs=>h a b pins s σ H x y v u Q I rx ry (q (Inv.lens I)) hs
theorem OpR.or2{f:Value->Value->Sem Value}{r r':R2}(h:OpR X f r)(h':OpR X f r'):OpR X f (λx y H Q=>r x y H Q∨r' x y H Q):=OpR.or h h'
theorem IxR.or2{r r':R2}(h:IxR X r)(h':IxR X r'):IxR X (λx y H Q=>r x y H Q∨r' x y H Q):=λa b pins s σ H x y v u Q I rx ry q hs=>q.elim (λq=>h a b pins s σ H x y v u Q I rx ry q hs) λq=>h' a b pins s σ H x y v u Q I rx ry q hs
theorem SlR.or2{r r':V->Option Int->Option Int->Hp->VK->Prop}(h:SlR X r)(h':SlR X r'):SlR X (λx a b H Q=>r x a b H Q∨r' x a b H Q):=λpins s σ H x v vl vu lo hi sl Q I rx hs pl pu q=>q.elim (h pins s σ H x v vl vu lo hi sl Q I rx hs pl pu) (h' pins s σ H x v vl vu lo hi sl Q I rx hs pl pu)
theorem toD{e:QV}{w:DE}(h:PE X e (tX .F X.K E w)):PE X e (tX .D X.K E w):=PE.imp h λσ H Q ⟨F,δ,R,EX,r,hw,k,o⟩=>⟨F,δ,R,EX,r,hw,λd hd v H' r' kp vk=>k d hd v H' r' kp vk.1,o⟩
theorem toP{e:QV}{w:DE}(h:PE X e (tX .D X.K E w)):PE X e (tX .P X.K E w):=PE.imp h λσ H Q ⟨F,δ,R,EX,r,hw,k,o⟩=>⟨F,δ,R,EX,r,hw,λd hd v H' r' kp vk=>k d hd v H' r' kp (.inl vk),o⟩
theorem Qzj{e:QV}{w:DE}(h:PE X e (tX .F X.K E w)):PE X e (tX .P X.K E w):=toP (toD h)
def Qyi(i:Nat):DE:=λδ Q _=>match δ[i]? with
 |some (.v d)=>Q d
 |_=>False
def dPk(i:Nat):DE:=λδ Q _=>match δ[i]? with
 |some (.v d)=>Q d
 |some (.own ds)=>Q (.list ds)
 |some (.pk ds)=>Q (.list ds)
 |_=>False
def dC(d:PyData):DE:=λ_ Q _=>Q d
theorem Rel.lt{K:PySem.W.Frag}{F:Fm}{σ:L2.St}{H:Hp}{δ:Sts}(r:Rel K F σ H δ){i:Nat}{x:Sl}(h:δ[i]? = some x):∃o,σ[i]? = some o:=by
 have:=(Qs.mp h).1;exact⟨σ[i]'(by rw[r.len];exact this),Qg _⟩
theorem QuT{e:QV}{i:Nat}(h:PE X e (Qj8 i)):PE X e (tX .D X.K E (Qyi i)):=PE.imp h λσ H Q ⟨F,δ,R,EX,r,hw,k,o⟩=>by
 unfold Qyi at hw;split at hw
 ·rename_i d hd
  obtain⟨x,hx⟩:=r.lt hd;obtain⟨v,rfl,q⟩:=r.sl i _ _ hx hd;exact⟨v,hx,k d hw v H r (Kp.refl r) q⟩
 ·exact hw.elim
theorem QxN{e:QV}{i:Nat}(h:PE X e (Qj8 i)):PE X e (tX .P X.K E (dPk i)):=PE.imp h λσ H Q ⟨F,δ,R,EX,r,hw,k,o⟩=>by
 unfold dPk at hw;split at hw
 ·rename_i d hd
  obtain⟨x,hx⟩:=r.lt hd;obtain⟨v,rfl,q⟩:=r.sl i _ _ hx hd;exact⟨v,hx,k d hw v H r (Kp.refl r) (.inl q)⟩
 ·rename_i d hd
  obtain⟨x,hx⟩:=r.lt hd;obtain⟨l,xs,rfl,e,q,_⟩:=r.sl i _ _ hx hd;exact⟨_,hx,k _ hw _ H r (Kp.refl r) (.inr ⟨l,xs,d,rfl,rfl,r.own_pot hd hx,e,q⟩)⟩
 ·rename_i d hd
  obtain⟨x,hx⟩:=r.lt hd;obtain⟨l,xs,rfl,e,q,ys,f,f2⟩:=r.sl i _ _ hx hd;refine⟨_,hx,k _ hw _ H r (Kp.refl r) (.inr ⟨l,xs,d,rfl,rfl,?_,e,q⟩)⟩;rintro⟨j,j1,j2⟩;obtain⟨p,m,e1,_,w⟩:=r.sl j _ _ j1 j2;cases e1;rcases w with w | w
  ·exact f2 w
  ·rw[w] at f;cases f
 ·exact hw.elim
theorem QwG{e:QV}{v:V}{d:PyData}(h:PE X e (tC v))(q:∀(A:Addr->Prop)(H:Hp),DA A H v d):PE X e (tX .D X.K E (dC d)):=PE.imp h λσ H Q ⟨F,δ,R,EX,r,hw,k,o⟩=>k d hw v H r (Kp.refl r) (q _ _)
theorem Qu0{i:Int}{j pos}:PE X (.Constant (.int i) j pos) (tX .D X.K E (dC (.int i))):=QwG Yr λ_ _=>.int i
theorem QxR{b:Bool}{j pos}:PE X (.Constant (.bool b) j pos) (tX .D X.K E (dC (.bool b))):=QwG QxL λ_ _=>.bl b
theorem QuX{j pos}:PE X (.Constant .none j pos) (tX .D X.K E (dC .none)):=QwG QuN λ_ _=>.non
def OpD(r:R2)(rD:PyData->PyData->(PyData->Prop)->Prop):Prop:=∀(A P:Addr->Prop)(H:Hp)(x y:V)(d1 d2:PyData)(R:PyData->Prop)(Q:VK),QbM H->(∀a,A a->∃xs,H a=some (.lst xs))->DP A P H x d1->DP A P H y d2->rD d1 d2 R ->
 (∀d,R d->∀v H',Same H H'->DA A H' v d->FrV H H' v->Q v H')->r x y H Q
def QmH(r:R2)(rD:PyData->PyData->(PyData->Prop)->Prop):Prop:=∀(A P:Addr->Prop)(H:Hp)(x y:V)(d1 d2:PyData)(R:PyData->Prop)(Q:VK),QbM H->(∀a,A a->∃xs,H a=some (.lst xs))->DP A P H x d1->DP A P H y d2->rD d1 d2 R ->
 (∀d,R d->∀v H',Same H H'->DA A H' v d->Q v H')->r x y H Q
def dOp(rD:PyData->PyData->(PyData->Prop)->Prop)(wa wb:DE):DE:=λδ Q EX=>wa δ (λd1=>wb δ (λd2=>rD d1 d2 Q) EX) EX
theorem Qhb{K:PySem.W.Frag}{r:R2}{rD:PyData->PyData->(PyData->Prop)->Prop}{wa wb:DE}(hd:OpD r rD)(σ:L2.St)(H:Hp)(Q:VK)(h:tX .F K E (dOp rD wa wb) σ H Q) :
  tOp (λx y H Q=>QbM H->r x y H Q) (tX .P K E wa) (tX .P K E wb) σ H Q:=by
 obtain⟨F,δ,R,EX,rel,hw,k,o⟩:=h;refine⟨F,δ,_,EX,rel,hw,λd1 h1 x H1 rel1 kp1 x1=>⟨F,δ,_,EX,rel1,h1,λd2 h2 y H2 rel2 kp2 y2=>λln=>?_,o⟩,o⟩;refine hd (Av F σ δ) (ZY σ δ) H2 x y d1 d2 R Q ln (λa ha=>rel2.isl ha) (kp2.dp x1) y2 h2 λd hR v H' s q f=>?_
 refine k d hR v H' (rel2.same s) ((kp1.trans kp2).trans (Kp.same rel2 s)) ⟨q,λl e1 e2=>?_⟩;have f2:=f l e1 e2;cases e:H l with
 |none=>rfl
 |some ob=>
  by_cases z:ZY σ δ l
  ·obtain⟨n,en⟩:=kp2.2 l z;rw[en] at f2;cases f2
  ·rw[(kp1.trans kp2).1 _ _ z e] at f2;cases f2
theorem Qn1{K:PySem.W.Frag}{r:R2}{rD:PyData->PyData->(PyData->Prop)->Prop}{wa wb:DE}(hd:QmH r rD)(σ:L2.St)(H:Hp)(Q:VK)(h:tX .D K E (dOp rD wa wb) σ H Q) :
  tOp (λx y H Q=>QbM H->r x y H Q) (tX .P K E wa) (tX .P K E wb) σ H Q:=by
 obtain⟨F,δ,R,EX,rel,hw,k,o⟩:=h;refine⟨F,δ,_,EX,rel,hw,λd1 h1 x H1 rel1 kp1 x1=>⟨F,δ,_,EX,rel1,h1,λd2 h2 y H2 rel2 kp2 y2=>λln=>?_,o⟩,o⟩;refine hd (Av F σ δ) (ZY σ δ) H2 x y d1 d2 R Q ln (λa ha=>rel2.isl ha) (kp2.dp x1) y2 h2 λd hR v H' s q=>?_
 exact k d hR v H' (rel2.same s) ((kp1.trans kp2).trans (Kp.same rel2 s)) q
variable{a b:QV}{wa wb:DE}{pos:Pos}{r:R2}{rD:PyData->PyData->(PyData->Prop)->Prop}
theorem Qu3{op:Qa7}(ho:OpR X (binaryOp op) r)(hd:OpD r rD)(ha:PE X a (tX .P X.K E wa))(hb:PE X b (tX .P X.K E wb)):PE X (.BinOp a op b pos) (tX .F X.K E (dOp rD wa wb)):=PE.imp (Qaz (OpR.len ho) ha hb) (Qhb hd)
theorem Qu2{op:QiM}(ho:OpR X (compareOp op) r)(hd:OpD r rD)(ha:PE X a (tX .P X.K E wa))(hb:PE X b (tX .P X.K E wb))(hm:behindInMarks op b=false):PE X (.Compare a [op] [b] pos) (tX .F X.K E (dOp rD wa wb)):=PE.imp (QrY (OpR.len ho) ha hb hm) (Qhb hd)
theorem QxP{r:R2}{rD:PyData->PyData->(PyData->Prop)->Prop}(ho:IxR X r)(hd:QmH r rD)(ha:PE X a (tX .P X.K E wa))(hb:PE X b (tX .P X.K E wb))(hs:Qhz b):PE X (.Subscript a b pos) (tX .D X.K E (dOp rD wa wb)):=PE.imp (QnB (IxR.len ho) ha hb hs) (Qn1 hd)
def dTst(w:DE):DT:=λδ Q EX=>w δ (λd=>match d with
 |.bool k=>Q k
 |_=>False) EX
theorem Qr5{op:QiM}(ho:OpR X (compareOp op) r)(hd:OpD r rD)(ha:PE X a (tX .P X.K E wa))(hb:PE X b (tX .P X.K E wb))(hm:behindInMarks op b=false):PT X (.Compare a [op] [b] pos) (tT X.K E (dTst (dOp rD wa wb))):=by
 refine PT.imp (Qg4 (OpR.len ho) ha hb hm) λσ H Q ⟨F,δ,R,EX,rel,hw,k,o⟩=>?_
 refine Qhb hd σ H (λx H'=>∃k,x=.bl k/\Q k H') ⟨F,δ,_,EX,rel,hw,λd hd2 v H' rel' kp vk=>?_,o⟩;split at hd2
 ·rename_i b
  have:v=.bl b:=by cases vk.1;rfl
  exact⟨b,this,k b hd2 H' rel' kp⟩
 ·exact hd2.elim
def tru:PyData->Bool
 |.none=>false
 |.bool b=>b
 |.int i=>i != 0
 |.str y=>(y.length:Int) != 0
 |.list ds => !ds.isEmpty
 |.tuple ds => !ds.isEmpty
 |.dict ds => !ds.isEmpty
def strOk:PyData->Prop
 |.str y=>y.length<=sizeLine
 |_=>True
def dTru(w:DE):DT:=λδ Q EX=>w δ (λd=>strOk d/\Q (tru d)) EX
theorem Qt8{K:PySem.W.Frag}{A P:Addr->Prop}{H:Hp}{v:V}{d:PyData}(h:DP A P H v d)(hs:strOk d):Qyn K v H (tru d):=by
 have sq:∀{xs:List V}{ds:List PyData},DAs A H xs ds->(!ds.isEmpty) = !xs.isEmpty:=λq=>by cases q<;>rfl
 rcases h with h | ⟨l,xs,ds,rfl,rfl,_,e,q⟩
 ·cases h with
  |non=>rfl
  |bl b=>rfl
  |int i=>rfl
  |str x c=>exact⟨hs,rfl⟩
  |@tup a xs ds n e q=>exact .inr (.inl ⟨xs,SqT.of e,sq q⟩)
  |@lst a xs ds n e q=>exact .inl ⟨xs,SqL.of e,sq q⟩
  |@dct a kvs ds n e q=>subst q;exact .inr (.inr ⟨dkV kvs,e,by cases kvs<;>rfl⟩)
 ·exact .inl ⟨xs,SqL.of e,sq q⟩
theorem Qr3{e:QV}{w:DE}(h:PE X e (tX .P X.K E w))(he:∀whole,isTrue e X.env whole=(do let v <- whole;standAt e.pos;holding [v] (truthy v))):PT X e (tT X.K E (dTru w)):=by
 refine PT.imp (Qnr h he) λσ H Q ⟨F,δ,R,EX,rel,hw,k,o⟩=>?_
 exact⟨F,δ,_,EX,rel,hw,λd ⟨hs,hq⟩ v H' rel' kp vk=>⟨tru d,Qt8 vk hs,k _ hq H' rel' kp⟩,o⟩
theorem Qr2{e:QV}{w:DE}(h:PE X e (tX .P X.K E w))(he:∀whole,isTrue e X.env whole=(do let v <- whole;standAt e.pos;holding [v] (truthy v)):=by intro _;rfl):PT X e (tT X.K E (dTst w)):=by
 refine PT.imp (QuD h he) λσ H Q ⟨F,δ,R,EX,rel,hw,k,o⟩=>?_
 refine⟨F,δ,_,EX,rel,hw,λd hd v H' rel' kp vk=>?_,o⟩;split at hd
 ·exact⟨_,DP.bool vk,k _ hd H' rel' kp⟩
 ·exact hd.elim
def Qzc(wa wb:DT):DT:=λδ Q EX=>wa δ (λc=>if c=true then wb δ Q EX else Q false) EX
def dOr(wa wb:DT):DT:=λδ Q EX=>wa δ (λc=>if c=true then Q true else wb δ Q EX) EX
def Qy3(wa:DT):DT:=λδ Q EX=>wa δ (λc=>Q (!c)) EX
theorem Qby{c:Prop}[Decidable c]{p q p' q':Prop}(h:if c then p else q)(h1:p->p')(h2:q->q'):if c then p' else q':=by
 split at h
 ·rw[if_pos (by assumption)];exact h1 h
 ·rw[if_neg (by assumption)];exact h2 h
variable{rest:List QV}{ta tb:DT}
theorem QnF(ha:PT X a (tT X.K E ta)):PW X (.BoolOp .And [a] pos) (tT X.K E ta):=QrJ ha
theorem Qr0(ha:PT X a (tT X.K E ta)):PW X (.BoolOp .Or [a] pos) (tT X.K E ta):=QuB ha
theorem Qr1(ha:PT X a (tT X.K E ta))(hb:PW X (.BoolOp .And (b::rest) pos) (tT X.K E tb)):PW X (.BoolOp .And (a::b::rest) pos) (tT X.K E (Qzc ta tb)):=by
 refine PW.imp (QuC ha hb) λσ H Q ⟨F,δ,R,EX,rel,hw,k,o⟩=>?_
 refine⟨F,δ,_,EX,rel,hw,λc hc H' rel' kp=>?_,o⟩;exact Qby hc (λz=>⟨F,δ,R,EX,rel',z,λc hc H2 rel2 kp2=>k c hc H2 rel2 (kp.trans kp2),o⟩) λz=>k _ z H' rel' kp
theorem QuQ(ha:PT X a (tT X.K E ta))(hb:PW X (.BoolOp .Or (b::rest) pos) (tT X.K E tb)):PW X (.BoolOp .Or (a::b::rest) pos) (tT X.K E (dOr ta tb)):=by
 refine PW.imp (QxG ha hb) λσ H Q ⟨F,δ,R,EX,rel,hw,k,o⟩=>?_
 refine⟨F,δ,_,EX,rel,hw,λc hc H' rel' kp=>?_,o⟩;exact Qby hc (λz=>k _ z H' rel' kp) (λz=>⟨F,δ,R,EX,rel',z,λc hc H2 rel2 kp2=>k c hc H2 rel2 (kp.trans kp2),o⟩)
theorem Qr4(ha:PT X a (tT X.K E ta)):PT X (.UnaryOp .Not a pos) (tT X.K E (Qy3 ta)):=by
 refine PT.imp (QuE ha) λσ H Q ⟨F,δ,R,EX,rel,hw,k,o⟩=>?_
 exact⟨F,δ,_,EX,rel,hw,λc hc H' rel' kp=>k _ hc H' rel' kp,o⟩
def Qv8(wa wb:DE):DE:=λδ Q EX=>wa δ (λd=>match d with
 |.bool c=>if c=true then wb δ Q EX else Q (.bool false)
 |_=>False) EX
def Qy2(wa wb:DE):DE:=λδ Q EX=>wa δ (λd=>match d with
 |.bool c=>if c=true then Q (.bool true) else wb δ Q EX
 |_=>False) EX
def Qv5(wa:DE):DE:=λδ Q EX=>wa δ (λd=>match d with
 |.bool c=>Q (.bool (!c))
 |_=>False) EX
theorem QuV{op}{w:DE}(h:PE X a (tX .D X.K E w)):PE X (.BoolOp op [a] pos) (tX .D X.K E w):=QuL h
theorem Qu4(ha:PE X a (tX .P X.K E wa))(hb:PE X (.BoolOp .And (b::rest) pos) (tX .D X.K E wb)):PE X (.BoolOp .And (a::b::rest) pos) (tX .D X.K E (Qv8 wa wb)):=by
 refine PE.imp (QuP ha hb) λσ H Q ⟨F,δ,R,EX,rel,hw,k,o⟩=>?_
 refine⟨F,δ,_,EX,rel,hw,λd hd v H' rel' kp vk=>?_,o⟩;split at hd
 ·exact⟨_,DP.bool vk,Qby hd (λz=>⟨F,δ,R,EX,rel',z,λd hd v H2 rel2 kp2=>k d hd v H2 rel2 (kp.trans kp2),o⟩) λz=>k _ z _ H' rel' kp (.bl _)⟩
 ·exact hd.elim
theorem QxO(ha:PE X a (tX .P X.K E wa))(hb:PE X (.BoolOp .Or (b::rest) pos) (tX .D X.K E wb)):PE X (.BoolOp .Or (a::b::rest) pos) (tX .D X.K E (Qy2 wa wb)):=by
 refine PE.imp (QxK ha hb) λσ H Q ⟨F,δ,R,EX,rel,hw,k,o⟩=>?_
 refine⟨F,δ,_,EX,rel,hw,λd hd v H' rel' kp vk=>?_,o⟩;split at hd
 ·exact⟨_,DP.bool vk,Qby hd (λz=>k _ z _ H' rel' kp (.bl _)) (λz=>⟨F,δ,R,EX,rel',z,λd hd v H2 rel2 kp2=>k d hd v H2 rel2 (kp.trans kp2),o⟩)⟩
 ·exact hd.elim
theorem QuW(ha:PE X a (tX .P X.K E wa)):PE X (.UnaryOp .Not a pos) (tX .D X.K E (Qv5 wa)):=by
 refine PE.imp (QuM ha) λσ H Q ⟨F,δ,R,EX,rel,hw,k,o⟩=>?_
 refine⟨F,δ,_,EX,rel,hw,λd hd v H' rel' kp vk=>?_,o⟩;split at hd
 ·exact⟨_,DP.bool vk,k _ hd _ H' rel' kp (.bl _)⟩
 ·exact hd.elim
def Qy8(t:DT)(wa wb:DE):DE:=λδ Q EX=>t δ (λc=>if c=true then wa δ Q EX else wb δ Q EX) EX
theorem Qu1{c:QV}(hc:PT X c (tT X.K E ta))(ha:PE X a (tX .D X.K E wa))(hb:PE X b (tX .D X.K E wb)):PE X (.IfExp c a b pos) (tX .D X.K E (Qy8 ta wa wb)):=by
 refine PE.imp (QnC hc ha hb) λσ H Q ⟨F,δ,R,EX,rel,hw,k,o⟩=>?_
 refine⟨F,δ,_,EX,rel,hw,λd hd H' rel' kp=>?_,o⟩;exact Qby hd (λz=>⟨F,δ,R,EX,rel',z,λd hd v H2 rel2 kp2=>k d hd v H2 rel2 (kp.trans kp2),o⟩) (λz=>⟨F,δ,R,EX,rel',z,λd hd v H2 rel2 kp2=>k d hd v H2 rel2 (kp.trans kp2),o⟩)
end
theorem Qeo{A:Addr->Prop}{H H':Hp}{l:Addr}{xs:List V}{ds:List PyData}(dm:∀a,A a->∃xs,H a=some (.lst xs))(s:Same H H')(n:H l=none)(e:H' l=some (.lst xs))(q:DAs A H xs ds):DA A H' (.ref l) (.list ds):=
 .lst (λz=>by obtain⟨ys,e'⟩:=dm l z;rw[n] at e';cases e') e (q.same s)
theorem QfS{A:Addr->Prop}{H H':Hp}{l:Addr}{xs:List V}{ds:List PyData}(dm:∀a,A a->∃xs,H a=some (.lst xs))(s:Same H H')(e:H' l=some (.tup xs))(q:DAs A H xs ds):DA A H' (.ref l) (.tuple ds):=
 .tup (λz=>by obtain⟨ys,e'⟩:=dm l z;rw[s _ _ e'] at e;cases e) e (q.same s)
theorem QbK{H H':Hp}{l:Addr}(n:H l=none):FrV H H' (.ref l):=λl' e _=>by cases e;exact n
theorem QdB{H H':Hp}{l:Addr}{xs:List V}(e:H' l=some (.tup xs)):FrV H H' (.ref l):=λl' e1 ⟨ys,e2⟩=>by cases e1;rw[e] at e2;cases e2
theorem ZT{H H':Hp}{i:Int}:FrV H H' (.int i):=λl' e _=>by cases e
theorem Yh{H H':Hp}{i:Bool}:FrV H H' (.bl i):=λl' e _=>by cases e
theorem Qs2{H H':Hp}:FrV H H' .non:=λl' e _=>by cases e
theorem DAs.rep{A:Addr->Prop}{H:Hp}{xs:List V}{ds:List PyData}(q:DAs A H xs ds):∀k:Nat,DAs A H (QJ k xs).flatten (QJ k ds).flatten
 |0=>.nil
 |k+1=>by rw[Ja,Ja,JS,JS];exact q.app (DAs.rep q k)
def QzJ:PyData->PyData->(PyData->Prop)->Prop
 |.int i,.int j,Q=>Q (.int (i+j))
 |.tuple a,.tuple b,Q=>a.length+b.length<=1000000/\Q (.tuple (a++b))
 |.list a,.list b,Q=>a.length+b.length<=1000000/\Q (.list (a++b))
 |_,_,_=>False
def iiD(C:Int->Int->Prop)(f:Int->Int->PyData):PyData->PyData->(PyData->Prop)->Prop
 |.int i,.int j,Q=>C i j/\Q (f i j)
 |_,_,_=>False
def ii0(f:Int->Int->PyData):PyData->PyData->(PyData->Prop)->Prop
 |.int i,.int j,Q=>Q (f i j)
 |_,_,_=>False
def Qzy:PyData->PyData->(PyData->Prop)->Prop
 |.int i,.int j,Q=>(CMul i j∨CMulB i j)/\Q (.int (i*j))
 |.list a,.int k,Q=>(k<1000000 /\ -1000000<k/\a.length*k.toNat<=1000000)/\Q (.list (QJ k.toNat a).flatten)
 |_,_,_=>False
theorem Qlv:1000000<=sizeLine:=by show 1000000<=2^24;decide
section
variable{X:Cx}{E:XK}
theorem Qb2{g:Int->Int->Int}:OpD (rI0 λi j=>.int (g i j)) (ii0 λi j=>.int (g i j)):=λA P H x y d1 d2 R Q ln dm hx hy h k=>by
 cases d1<;>cases d2<;>first | exact h.elim | skip
 rw[hx.int,hy.int];exact⟨_,_,rfl,rfl,k _ h _ H (Same.refl H) (.int _) ZT⟩
theorem QaZ{g:Int->Int->Bool}:OpD (rI0 λi j=>.bl (g i j)) (ii0 λi j=>.bool (g i j)):=λA P H x y d1 d2 R Q ln dm hx hy h k=>by
 cases d1<;>cases d2<;>first | exact h.elim | skip
 rw[hx.int,hy.int];exact⟨_,_,rfl,rfl,k _ h _ H (Same.refl H) (.bl _) Yh⟩
def rAdd:R2:=λx y H Q=>(rI0 (λi j=>.int (i+j)) x y H Q∨Qut x y H Q)∨QyK x y H Q
theorem Zz:OpR X (binaryOp .Add) rAdd:=OpR.or2 (OpR.or2 Qen Qsr) Qvi
theorem Yg:OpD rAdd QzJ:=λA P H x y d1 d2 R Q ln dm hx hy h k=>by
 cases d1<;>cases d2<;>first | exact h.elim | skip
 ·rw[hx.int,hy.int];exact .inl (.inl ⟨_,_,rfl,rfl,k _ h _ H (Same.refl H) (.int _) ZT⟩)
 ·obtain⟨l1,xs,rfl,e1,q1⟩:=hx.list;obtain⟨l2,ys,rfl,e2,q2⟩:=hy.list;refine .inr ⟨l1,l2,xs,ys,rfl,rfl,e1,e2,Q1 (by rw[q1.length,q2.length];exact h.1) Qlv,λp hp=>?_⟩;exact k _ h.2 _ _ (JI hp) (Qeo dm (JI hp) hp Ju (q1.app q2)) (QbK hp)
 ·obtain⟨l1,xs,rfl,e1,q1⟩:=hx.tuple;obtain⟨l2,ys,rfl,e2,q2⟩:=hy.tuple;refine .inl (.inr ⟨l1,l2,xs,ys,rfl,rfl,e1,e2,Q1 (by rw[q1.length,q2.length];exact h.1) Qlv,λp H' s e=>?_⟩);exact k _ h.2 _ _ s (QfS dm s e (q1.app q2)) (QdB e)
def Qup:R2:=λx y H Q=>(rI CMul (λi j=>.int (i*j)) x y H Q∨rI CMulB (λi j=>.int (i*j)) x y H Q)∨Qyz x y H Q
theorem Qaa:OpR X (binaryOp .Mult) Qup:=OpR.or2 (OpR.or2 Qem Qsn) Qu6
theorem QaY:OpD Qup Qzy:=λA P H x y d1 d2 R Q ln dm hx hy h k=>by
 cases d1<;>cases d2<;>first | exact h.elim | skip
 ·rw[hx.int,hy.int];rcases h.1 with c | c
  ·exact .inl (.inl ⟨_,_,rfl,rfl,c,k _ h.2 _ H (Same.refl H) (.int _) ZT⟩)
  ·exact .inl (.inr ⟨_,_,rfl,rfl,c,k _ h.2 _ H (Same.refl H) (.int _) ZT⟩)
 ·obtain⟨l1,xs,rfl,e1,q1⟩:=hx.list;rw[hy.int];obtain⟨⟨h1,h2,h3⟩,h4⟩:=h;refine .inr ⟨l1,_,xs,rfl,rfl,e1,by omega,by omega,Q1 (by rw[q1.length];exact h3) Qlv,λp hp=>?_⟩;exact k _ h4 _ _ (JI hp) (Qeo dm (JI hp) hp Ju (q1.rep _)) (QbK hp)
def eqD:PyData->PyData->(PyData->Prop)->Prop
 |.int i,.int j,Q=>Q (.bool (decide (i=j)))
 |.bool i,.bool j,Q=>Q (.bool (decide (i=j)))
 |.str i,.str j,Q=>Q (.bool (decide (i=j)))
 |a,b,Q=>(nd a=true/\nd b=true/\(a.depth<=50∨b.depth<=50))/\Q (.bool (Jf a b))
def neD:PyData->PyData->(PyData->Prop)->Prop
 |.int i,.int j,Q=>Q (.bool (!decide (i=j)))
 |.bool i,.bool j,Q=>Q (.bool (!decide (i=j)))
 |.str i,.str j,Q=>Q (.bool (!decide (i=j)))
 |a,b,Q=>(nd a=true/\nd b=true/\(a.depth<=50∨b.depth<=50))/\Q (.bool (!Jf a b))
theorem Qvu{a b:PyData}(h:a.depth<=50∨b.depth<=50):min a.depth b.depth<=50:=by rcases h with h | h<;>omega
def QyJ(u:Nat):R2:=λx y H Q=>rEq x y H Q∨QyI u x y H Q
def QyC(u:Nat):R2:=λx y H Q=>rNe x y H Q∨QyB u x y H Q
theorem QcS:OpR X (compareOp .Eq) (QyJ X.A.units):=OpR.or2 QxU Qvg
theorem Qb1:OpR X (compareOp .NotEq) (QyC X.A.units):=OpR.or2 QxT Qu8
theorem QvX{i j:Int}:decide (V.int i=V.int j)=decide (i=j):=by
 by_cases h:i=j
 ·subst h;simp
 ·rw[decide_eq_false h,decide_eq_false (λz=>h (V.int.inj z))]
theorem QvY{i j:Bool}:decide (V.bl i=V.bl j)=decide (i=j):=by
 by_cases h:i=j
 ·subst h;simp
 ·rw[decide_eq_false h,decide_eq_false (λz=>h (V.bl.inj z))]
theorem QvW{i j:Str}:decide (V.str i=V.str j)=decide (i=j):=by
 by_cases h:i=j
 ·subst h;simp
 ·rw[decide_eq_false h,decide_eq_false (λz=>h (V.str.inj z))]
theorem Qgc{u:Nat}(hu:u+60<cLine):OpD (QyJ u) eqD:=λA P H x y d1 d2 R Q ln dm hx hy h k=>by
 unfold eqD at h;split at h
 ·rw[hx.int,hy.int];exact .inl ⟨rfl,k (.bool (decide (V.int _=V.int _))) (by rw[QvX];exact h) _ H (Same.refl H) (.bl _) Yh⟩
 ·rw[hx.bool,hy.bool];exact .inl ⟨rfl,k (.bool (decide (V.bl _=V.bl _))) (by rw[QvY];exact h) _ H (Same.refl H) (.bl _) Yh⟩
 ·rw[hx.str.1,hy.str.1];exact .inl ⟨rfl,k (.bool (decide (V.str _=V.str _))) (by rw[QvW];exact h) _ H (Same.refl H) (.bl _) Yh⟩
 ·obtain⟨⟨n1,n2,dp⟩,hR⟩:=h;have:=Qvu dp;exact .inr ⟨_,_,hx.dat n1,hy.dat n2,by omega,k _ hR _ H (Same.refl H) (.bl _) Yh⟩
theorem Qfc{u:Nat}(hu:u+60<cLine):OpD (QyC u) neD:=λA P H x y d1 d2 R Q ln dm hx hy h k=>by
 unfold neD at h;split at h
 ·rw[hx.int,hy.int];exact .inl ⟨rfl,k (.bool (!decide (V.int _=V.int _))) (by rw[QvX];exact h) _ H (Same.refl H) (.bl _) Yh⟩
 ·rw[hx.bool,hy.bool];exact .inl ⟨rfl,k (.bool (!decide (V.bl _=V.bl _))) (by rw[QvY];exact h) _ H (Same.refl H) (.bl _) Yh⟩
 ·rw[hx.str.1,hy.str.1];exact .inl ⟨rfl,k (.bool (!decide (V.str _=V.str _))) (by rw[QvW];exact h) _ H (Same.refl H) (.bl _) Yh⟩
 ·obtain⟨⟨n1,n2,dp⟩,hR⟩:=h;have:=Qvu dp;exact .inr ⟨_,_,hx.dat n1,hy.dat n2,by omega,k _ hR _ H (Same.refl H) (.bl _) Yh⟩
def QrC(u:Nat)(neg:Bool):R2:=λx y H Q=>∃c ps ds d,y=.ref c/\H c=some (.lst ps)/\Dats H ps ds/\Dat H x d/\u+d.depth<cLine/\Q (.bl (if neg then !(ds.any λe=>Jf e d) else ds.any λe=>Jf e d)) H
theorem Qso:OpR X (compareOp .In) (QrC X.A.in1.units false):=by
 intro pins s σ H x y v u Q I rx ry h;obtain⟨c,ps,ds,d,rfl,hc,qs,qx,hu,q⟩:=h;cases ry;obtain⟨⟨as,ra⟩,ca⟩:=Z4 I.hok d x v qx rx;obtain⟨its,rv,pl,hz⟩:=I.list (SqL.of hc);obtain⟨⟨bs,rb⟩,cb⟩:=YJ I.hok ds ps its qs rv;refine SeqAt.in_listAt (eqH s.heap d) pl.isList (λw hw=>Qdv ra ca rb cb hu w (Qbn.mp hw)) ⟨.bl _,H,I,rfl,?_⟩;rw[show its.toArray.any (eqH s.heap d)=its.any (eqH s.heap d) by simp,QdQ rb cb];exact q
theorem Qi7:OpR X (compareOp .NotIn) (QrC X.A.in1.units true):=by
 intro pins s σ H x y v u Q I rx ry h;obtain⟨c,ps,ds,d,rfl,hc,qs,qx,hu,q⟩:=h;cases ry;obtain⟨⟨as,ra⟩,ca⟩:=Z4 I.hok d x v qx rx;obtain⟨its,rv,pl,hz⟩:=I.list (SqL.of hc);obtain⟨⟨bs,rb⟩,cb⟩:=YJ I.hok ds ps its qs rv;refine SeqAt.notIn_listAt (eqH s.heap d) pl.isList (λw hw=>Qdv ra ca rb cb hu w (Qbn.mp hw)) ⟨.bl _,H,I,rfl,?_⟩;rw[show its.toArray.any (eqH s.heap d)=its.any (eqH s.heap d) by simp,QdQ rb cb];exact q
def inD(neg:Bool)(d:PyData):PyData->(PyData->Prop)->Prop
 |.list ds,Q=>(nds ds=true/\nd d=true/\d.depth<=50)/\Q (.bool (if neg then !(ds.any λe=>Jf e d) else ds.any λe=>Jf e d))
 |.tuple ds,Q=>(nds ds=true/\nd d=true/\d.depth<=50)/\Q (.bool (if neg then !(ds.any λe=>Jf e d) else ds.any λe=>Jf e d))
 |_,_=>False
def QxB(u:Nat)(neg:Bool):R2:=λx y H Q=>QxA u neg x y H Q∨QrC u neg x y H Q
theorem Qvf:OpR X (compareOp .In) (QxB X.A.in1.units false):=OpR.or2 Qvd Qso
theorem Qk1:OpR X (compareOp .NotIn) (QxB X.A.in1.units true):=OpR.or2 QkZ Qi7
theorem Qvr{u:Nat}{neg:Bool}(hu:u+60<cLine):OpD (QxB u neg) (inD neg):=λA P H x y d1 d2 R Q ln dm hx hy h k=>by
 cases d2<;>first | exact h.elim | skip
 ·obtain⟨l,xs,rfl,e,q⟩:=hy.list;obtain⟨⟨n1,n2,n3⟩,hR⟩:=h;exact .inr ⟨l,xs,_,d1,rfl,e,Qbi _ _ n1 q,hx.dat n2,by omega,k _ hR _ H (Same.refl H) (.bl _) Yh⟩
 ·obtain⟨l,xs,rfl,e,q⟩:=hy.tuple;obtain⟨⟨n1,n2,n3⟩,hR⟩:=h;exact .inl ⟨l,xs,_,d1,rfl,e,Qbi _ _ n1 q,hx.dat n2,by omega,k _ hR _ H (Same.refl H) (.bl _) Yh⟩
def Qx4:PyData->Bool
 |.none=>true
 |_=>false
def isD:PyData->PyData->(PyData->Prop)->Prop
 |.bool a,.bool b,Q=>Q (.bool (a == b))
 |a,.none,Q=>Q (.bool (Qx4 a))
 |_,_,_=>False
def QyR:PyData->PyData->(PyData->Prop)->Prop
 |.bool a,.bool b,Q=>Q (.bool (a != b))
 |a,.none,Q=>Q (.bool (!Qx4 a))
 |_,_,_=>False
theorem Qhc:OpR X (compareOp .IsNot) (λx y H Q=>∃a b,x=.bl a/\y=.bl b/\Q (.bl (a != b)) H):=by
 intro pins s σ H x y v u Q I rx ry h;obtain⟨a,b,rfl,rfl,q⟩:=h;cases(show v=Ye a from rx);cases(show u=Ye b from ry);refine isnot_bool ?_
 exact⟨.bl _,H,I,rfl,q⟩
def QyG:R2:=λx y H Q=>(∃a b,x=.bl a/\y=.bl b/\Q (.bl (a == b)) H)∨(y=.non/\Q (.bl (decide (x=.non))) H)
def Qus:R2:=λx y H Q=>(∃a b,x=.bl a/\y=.bl b/\Q (.bl (a != b)) H)∨(y=.non/\Q (.bl (!decide (x=.non))) H)
theorem Qvc:OpR X (compareOp .Is) QyG:=OpR.or2 Qn3 Qvb
theorem Qk2:OpR X (compareOp .IsNot) Qus:=OpR.or2 Qhc Qsm
theorem QpD{A P:Addr->Prop}{H:Hp}{v:V}{d:PyData}(h:DP A P H v d):decide (v=.non)=Qx4 d:=by
 rcases h with h | ⟨l,xs,ds',rfl,rfl,_⟩
 ·cases h<;>first | rfl | exact decide_eq_false (λz=>by cases z)
 ·exact decide_eq_false (λz=>by cases z)
theorem QxY:OpD QyG isD:=λA P H x y d1 d2 R Q ln dm hx hy h k=>by
 unfold isD at h;split at h
 ·rw[hx.bool,hy.bool];exact .inl ⟨_,_,rfl,rfl,k _ h _ H (Same.refl H) (.bl _) Yh⟩
 ·refine .inr ⟨hy.none,?_⟩;rw[QpD hx];exact k _ h _ H (Same.refl H) (.bl _) Yh
 ·exact h.elim
theorem Qpl:OpD Qus QyR:=λA P H x y d1 d2 R Q ln dm hx hy h k=>by
 unfold QyR at h;split at h
 ·rw[hx.bool,hy.bool];exact .inl ⟨_,_,rfl,rfl,k _ h _ H (Same.refl H) (.bl _) Yh⟩
 ·refine .inr ⟨hy.none,?_⟩;rw[QpD hx];exact k _ h _ H (Same.refl H) (.bl _) Yh
 ·exact h.elim
def ixD:PyData->PyData->(PyData->Prop)->Prop
 |.list ds,.int i,Q=>∃d,atI ds i=some d/\Q d
 |.tuple ds,.int i,Q=>∃d,atI ds i=some d/\Q d
 |_,_,_=>False
theorem QpP{A:Addr->Prop}{H:Hp}{xs:List V}{ds:List PyData}{i:Int}{d:PyData}(q:DAs A H xs ds)(h:atI ds i=some d):∃v,atI xs i=some v/\DA A H v d:=by
 unfold atI at h ⊢;rw[q.length];cases e:ixN ds.length i with
 |none=>rw[e] at h;cases h
 |some j=>
  rw[e] at h;exact q.get j d h
def QyF(K:PySem.W.Frag):R2:=λx y H Q=>QwF K x y H Q∨QyE K x y H Q
theorem Yt:IxR X (QyF X.K):=IxR.or2 Qfj QvG
theorem Qar{K:PySem.W.Frag}:QmH (QyF K) ixD:=λA P H x y d1 d2 R Q ln dm hx hy h k=>by
 cases d1<;>cases d2<;>first | exact h.elim | skip
 ·obtain⟨l,xs,rfl,e,q⟩:=hx.list;obtain⟨d,hd,hR⟩:=h;obtain⟨v,hv,dv⟩:=QpP q hd;rw[hy.int];exact .inl ⟨l,xs,_,v,rfl,rfl,SqL.of e,hv,k d hR v H (Same.refl H) dv⟩
 ·obtain⟨l,xs,rfl,e,q⟩:=hx.tuple;obtain⟨d,hd,hR⟩:=h;obtain⟨v,hv,dv⟩:=QpP q hd;rw[hy.int];exact .inr ⟨l,xs,_,v,rfl,rfl,SqT.of e,hv,k d hR v H (Same.refl H) dv⟩
def dUn(rD:PyData->(PyData->Prop)->Prop)(wa:DE):DE:=λδ Q EX=>wa δ (λd=>rD d Q) EX
def QyN:PyData->(PyData->Prop)->Prop
 |.int i,Q=>Q (.int (-i))
 |_,_=>False
variable{a b c:QV}{wa wb wc:DE}{pos:Pos}
theorem QuY(ha:PE X a (tX .P X.K E wa)):PE X (.UnaryOp .USub a pos) (tX .F X.K E (dUn QyN wa)):=by
 refine PE.imp (QxJ Qt4 ha) λσ H Q ⟨F,δ,R,EX,rel,hw,k,o⟩=>?_
 refine⟨F,δ,_,EX,rel,hw,λd hd v H' rel' kp vk=>?_,o⟩;cases d<;>first | exact(show False from hd).elim | skip
 exact⟨_,DP.int vk,k _ hd _ H' rel' kp ⟨.int _,ZT⟩⟩
def dCh(p q:Int->Int->Bool)(wa wb wc:DE):DE:=λδ Q EX=>wa δ (λx=>wb δ (λy=>match x,y with
 |.int i,.int j=>if p i j=true then wc δ (λz=>match z with
  |.int k=>Q (.bool (q j k))
  |_=>False) EX else Q (.bool false)
 |_,_=>False) EX) EX
theorem Qmc{K:PySem.W.Frag}{p q:Int->Int->Bool}(σ:L2.St)(H:Hp)(Q:VK)(h:tX .F K E (dCh p q wa wb wc) σ H Q) :
  Qka (rI0 λi j=>.bl (p i j)) (rI0 λi j=>.bl (q i j)) (tX .P K E wa) (tX .P K E wb) (tX .P K E wc) σ H Q:=by
 obtain⟨F,δ,R,EX,rel,hw,k,o⟩:=h;refine⟨F,δ,_,EX,rel,hw,λd1 h1 x H1 rel1 kp1 x1=>⟨F,δ,_,EX,rel1,h1,λd2 h2 y H2 rel2 kp2 y2=>?_,o⟩,o⟩;cases d1<;>cases d2<;>first | exact(show False from h2).elim | skip
 rw[DP.int x1,DP.int y2];refine⟨_,_,rfl,rfl,_,rfl,Qby h2 (λz=>⟨F,δ,_,EX,rel2,z,λd3 h3 v H3 rel3 kp3 v3=>?_,o⟩) λz=>k _ z _ H2 rel2 (kp1.trans kp2) ⟨.bl _,Yh⟩⟩;cases d3<;>first | exact(show False from h3).elim | skip
 rw[DP.int v3];exact⟨_,_,rfl,rfl,k _ h3 _ H3 rel3 ((kp1.trans kp2).trans kp3) ⟨.bl _,Yh⟩⟩
theorem QxQ{op op':QiM}{p q:Int->Int->Bool}(ho:OpR X (compareOp op) (rI0 λi j=>.bl (p i j)))(ho':OpR X (compareOp op') (rI0 λi j=>.bl (q i j)))(ha:PE X a (tX .P X.K E wa))(hb:PE X b (tX .P X.K E wb))(hc:PE X c (tX .P X.K E wc))(hm:lastMarks [op,op'] [b,c]=false:=by with_unfolding_all rfl) :
  PE X (.Compare a [op,op'] [b,c] pos) (tX .F X.K E (dCh p q wa wb wc)):=PE.imp (QnD ho ho' ha hb hc (hm:=hm)) Qmc
theorem QuR{op op':QiM}{p q:Int->Int->Bool}(ho:OpR X (compareOp op) (rI0 λi j=>.bl (p i j)))(ho':OpR X (compareOp op') (rI0 λi j=>.bl (q i j)))(ha:PE X a (tX .P X.K E wa))(hb:PE X b (tX .P X.K E wb))(hc:PE X c (tX .P X.K E wc))(hm:lastMarks [op,op'] [b,c]=false:=by with_unfolding_all rfl) :
  PT X (.Compare a [op,op'] [b,c] pos) (tT X.K E (dTst (dCh p q wa wb wc))):=by
 refine PT.imp (Qns ho ho' ha hb hc (hm:=hm)) λσ H Q ⟨F,δ,R,EX,rel,hw,k,o⟩=>?_
 refine Qmc σ H (λx H'=>∃k,x=.bl k/\Q k H') ⟨F,δ,_,EX,rel,hw,λd hd2 v H' rel' kp vk=>?_,o⟩;split at hd2
 ·rename_i b
  have:v=.bl b:=by cases vk.1;rfl
  exact⟨b,this,k b hd2 H' rel' kp⟩
 ·exact hd2.elim
def Qy4:DAr:=λ_ Q _=>Q []
def Ql2(we:DE)(wr:DAr):DAr:=λδ Q EX=>we δ (λd=>wr δ (λds=>Q (d::ds)) EX) EX
theorem Qsg{m:Md}:PA X [] (tAr 0 m X.K E Qy4):=PA.imp YF λσ H Q ⟨F,δ,R,EX,rel,hw,k,o⟩=>k [] hw rfl [] H rel (Kp.refl rel) .nil
theorem Qmr{n:Nat}{m:Md}{K:PySem.W.Frag}{we:DE}{wr:DAr}(hm:∀{F:Fm}{σ:L2.St}{δ:Sts}{H H':Hp}{v:V}{d:PyData},Vok m F σ δ H H' v d->VD m (Av F σ δ) (ZY σ δ) H' v d)(σ:L2.St)(H:Hp)(Q:List V->Hp->Prop)(h:tAr (n+1) m K E (Ql2 we wr) σ H Q):Qm5 (tX m K E we) (tAr n m K E wr) σ H Q:=by
 obtain⟨F,δ,R,EX,rel,hw,k,o⟩:=h;refine⟨F,δ,_,EX,rel,hw,λd hd v H' rel' kp vk=>⟨F,δ,_,EX,rel',hd,λds hds hl vs H2 rel2 kp2 vks=>?_,o⟩,o⟩;exact k _ hds (by rw[QM,hl]) (v::vs) H2 rel2 (kp.trans kp2) (.cons (kp2.vd (hm vk)) vks)
theorem QkW{n:Nat}{e:QV}{es:List QV}{we:DE}{wr:DAr}(he:PE X e (tX .D X.K E we))(hr:PA X es (tAr n .D X.K E wr))(hs:JH e=true:=by rfl):PA X (e::es) (tAr (n+1) .D X.K E (Ql2 we wr)):=PA.imp (QfL he hr hs) (Qmr λh=>h)
theorem QkV{n:Nat}{e:QV}{es:List QV}{we:DE}{wr:DAr}(he:PE X e (tX .P X.K E we))(hr:PA X es (tAr n .P X.K E wr))(hs:JH e=true:=by rfl):PA X (e::es) (tAr (n+1) .P X.K E (Ql2 we wr)):=PA.imp (QfL he hr hs) (Qmr λh=>h)
theorem Qcq{A P:Addr->Prop}{H:Hp}:∀{vs:List V}{ds:List PyData},Qac (VD .D A P H) vs ds->DAs A H vs ds
 |_,_,.nil=>.nil
 |_,_,.cons a b=>.cons a (Qcq b)
def QyY(w:DAr):DE:=λδ Q EX=>w δ (λds=>Q (.tuple ds)) EX
def Qy5(w:DAr):DE:=λδ Q EX=>w δ (λds=>Q (.list ds)) EX
theorem QuU{n:Nat}{es:List QV}{w:DAr}{x1}(h:PA X es (tAr n .D X.K E w))(hn:n<=1000:=by decide):PE X (.Tuple es x1 pos) (tX .F X.K E (QyY w)):=by
 refine PE.imp (QrV h) λσ H Q ⟨F,δ,R,EX,rel,hw,k,o⟩=>?_
 refine⟨F,δ,_,EX,rel,hw,λds hds hl vs H' rel' kp q=>?_,o⟩;have q':=Qcq q;refine⟨by rw[q'.length,hl];exact hn,λa H2 s n e=>k _ hds _ H2 (rel'.same s) (kp.trans (Kp.same rel' s)) ⟨QfS (λa ha=>rel'.isl ha) s e q',QdB e⟩⟩
theorem Qa0{σ:L2.St}{δ:Sts}{H H':Hp}{l:Addr}(k:Kp σ δ H H')(n:H' l=none):H l=none:=by
 cases e:H l with
 |none=>rfl
 |some ob=>
  by_cases z:ZY σ δ l
  ·obtain⟨m,em⟩:=k.2 l z;rw[em] at n;cases n
  ·rw[k.1 _ _ z e] at n;cases n
theorem QuZ{n:Nat}{es:List QV}{w:DAr}(h:PA X es (tAr n .D X.K E w))(hn:n<=1000:=by decide):PE X (.List es pos) (tX .F X.K E (Qy5 w)):=by
 refine PE.imp (QrW h) λσ H Q ⟨F,δ,R,EX,rel,hw,k,o⟩=>?_
 refine⟨F,δ,_,EX,rel,hw,λds hds hl vs H' rel' kp q=>?_,o⟩;have q':=Qcq q;refine⟨by rw[q'.length,hl];exact hn,λa H2 s n e=>k _ hds _ H2 (rel'.same s) (kp.trans (Kp.same rel' s)) ⟨Qeo (λa ha=>rel'.isl ha) s n e q',QbK (Qa0 kp n)⟩⟩
def QaK(r:List V->Hp->VK->Prop)(rD:List PyData->(PyData->Prop)->Prop):Prop:=∀(A P:Addr->Prop)(H:Hp)(vs:List V)(ds:List PyData)(R:PyData->Prop)(Q:VK),QbM H->(∀a,A a->∃xs,H a=some (.lst xs))->Qac (DP A P H) vs ds->rD ds R ->
 (∀d,R d->∀v H',Same H H'->DA A H' v d->FrV H H' v->Q v H')->r vs H Q
def dCB(rD:List PyData->(PyData->Prop)->Prop)(wa:DAr):DE:=λδ Q EX=>wa δ (λds=>rD ds Q) EX
theorem Qmf{n:Nat}{K:PySem.W.Frag}{r:List V->Hp->VK->Prop}{rD:List PyData->(PyData->Prop)->Prop}{wa:DAr}(hd:QaK r rD)(σ:L2.St)(H:Hp)(Q:VK)(h:tX .F K E (dCB rD wa) σ H Q) :
  tCB (λxs H Q=>QbM H->r xs H Q) (tAr n .P K E wa) σ H Q:=by
 obtain⟨F,δ,R,EX,rel,hw,k,o⟩:=h;refine⟨F,δ,_,EX,rel,hw,λds hds hl vs H' rel' kp q ln=>?_,o⟩;refine hd (Av F σ δ) (ZY σ δ) H' vs ds R Q ln (λa ha=>rel'.isl ha) q hds λd hR v H2 s dv fr=>?_
 exact k d hR v H2 (rel'.same s) (kp.trans (Kp.same rel' s)) ⟨dv,λl e1 e2=>Qa0 kp (fr l e1 e2)⟩
variable{x:Str}{bid T:String}{p:Pos}{e:QV}{es:List QV}{n:Nat}{wr:DAr}{r:List V->Hp->VK->Prop}{rD:List PyData->(PyData->Prop)->Prop}
theorem Qn0(hc:CallR X (.builtin bid) r)(hd:QaK r rD)(hg:Gl X x)(hm:X.mg x=none)(hv:bootBuiltins x=some (.builtin bid))(ha:PA X (e::es) (tAr n .P X.K E wr))(hn:x ≠ "__name__" := by decide)(hdb:(x == ("__debug__" : Str))=false:=by decide)
  (he:starEach (e::es) X.env=(false,eval e X.env)::starEach es X.env:=by rfl)(hpl:(backTo pos (starEach es X.env)).any (·.1)=false:=by rfl):PE X (.Call (.Name x p) (e::es) [] pos) (tX .F X.K E (dCB rD wr)):=
 PE.imp (Qb0 (CallR.len hc) hg hm hv ha hn hdb he hpl) (Qmf hd)
theorem QkY(hc:CallR X (.type T) r)(hd:QaK r rD)(hg:Gl X x)(hm:X.mg x=none)(hv:bootBuiltins x=some (.type T))(ha:PA X (e::es) (tAr n .P X.K E wr))(hn:x ≠ "__name__" := by decide)(hdb:(x == ("__debug__" : Str))=false:=by decide)
  (he:starEach (e::es) X.env=(false,eval e X.env)::starEach es X.env:=by rfl)(hpl:(backTo pos (starEach es X.env)).any (·.1)=false:=by rfl):PE X (.Call (.Name x p) (e::es) [] pos) (tX .F X.K E (dCB rD wr)):=
 PE.imp (Qgb (CallR.len hc) hg hm hv ha hn hdb he hpl) (Qmf hd)
theorem pd1{A P:Addr->Prop}{H:Hp}{vs:List V}{d:PyData}(q:Qac (DP A P H) vs [d]):∃v,vs=[v]/\DP A P H v d:=by
 cases q with
 |cons a b=>cases b;exact⟨_,rfl,a⟩
theorem pd2{A P:Addr->Prop}{H:Hp}{vs:List V}{d d':PyData}(q:Qac (DP A P H) vs [d,d']):∃v v',vs=[v,v']/\DP A P H v d/\DP A P H v' d':=by
 cases q with
 |cons a b=>cases b with | cons b c=>cases c;exact⟨_,_,rfl,a,b⟩
def QyO:List PyData->(PyData->Prop)->Prop
 |[.list ds],Q=>Q (.int ds.length)
 |[.tuple ds],Q=>Q (.int ds.length)
 |_,_=>False
theorem YG{K:PySem.W.Frag}:QaK (Qur K) QyO:=λA P H vs ds R Q ln dm q h k=>by
 unfold QyO at h;split at h
 ·obtain⟨v,rfl,hv⟩:=pd1 q;obtain⟨l,xs,rfl,e,qq⟩:=hv.list;exact⟨l,xs,rfl,.inl (SqL.of e),by rw[qq.length];exact k _ h _ H (Same.refl H) (.int _) ZT⟩
 ·obtain⟨v,rfl,hv⟩:=pd1 q;obtain⟨l,xs,rfl,e,qq⟩:=hv.tuple;exact⟨l,xs,rfl,.inr (SqT.of e),by rw[qq.length];exact k _ h _ H (Same.refl H) (.int _) ZT⟩
 ·exact h.elim
theorem J1:CallR X (.builtin "len") (Qur X.K):=Qa4
def QsK:List PyData->(PyData->Prop)->Prop
 |[.int i,.int j],Q=>Q (.int (if j<i then j else i))
 |_,_=>False
def QsM:List PyData->(PyData->Prop)->Prop
 |[.int i,.int j],Q=>Q (.int (if j > i then j else i))
 |_,_=>False
theorem Qtn:QaK (λxs H Q=>∃i j,xs=[.int i,.int j]/\Q (.int (if j<i then j else i)) H) QsK:=λA P H vs ds R Q ln dm q h k=>by
 unfold QsK at h;split at h
 ·obtain⟨v,v',rfl,h1,h2⟩:=pd2 q;rw[h1.int,h2.int];exact⟨_,_,rfl,k _ h _ H (Same.refl H) (.int _) ZT⟩
 ·exact h.elim
theorem Qto:QaK (λxs H Q=>∃i j,xs=[.int i,.int j]/\Q (.int (if j > i then j else i)) H) QsM:=λA P H vs ds R Q ln dm q h k=>by
 unfold QsM at h;split at h
 ·obtain⟨v,v',rfl,h1,h2⟩:=pd2 q;rw[h1.int,h2.int];exact⟨_,_,rfl,k _ h _ H (Same.refl H) (.int _) ZT⟩
 ·exact h.elim
def Qa5:List PyData->Option (List Bool)
 |[]=>some []
 |.bool b::ds=>(Qa5 ds).map (b::·)
 |_::_=>none
def Qaj:List PyData->Option (List Int)
 |[]=>some []
 |.int b::ds=>(Qaj ds).map (b::·)
 |_::_=>none
theorem Qgx(bs:List Bool):Qa5 (bs.map YQ)=some bs:=by
 induction bs with
 |nil=>rfl
 |cons b bs ih=>rw[Jl,Qa5,ih];rfl
theorem ints_map(bs:List Int):Qaj (bs.map Qb)=some bs:=by
 induction bs with
 |nil=>rfl
 |cons b bs ih=>rw[Jl,Qaj,ih];rfl
theorem bools_eq:∀{ds:List PyData}{bs:List Bool},Qa5 ds=some bs->ds=bs.map YQ
 |[],bs,h=>by cases h;rfl
 |d::ds,bs,h=>by
  cases d<;>first | (unfold Qa5 at h;cases h;done) | skip
  rw[Qa5] at h;obtain⟨cs,h1,rfl⟩:=J6.mp h;rw[bools_eq h1];rfl
theorem QbI:∀{ds:List PyData}{bs:List Int},Qaj ds=some bs->ds=bs.map Qb
 |[],bs,h=>by cases h;rfl
 |d::ds,bs,h=>by
  cases d<;>first | (unfold Qaj at h;cases h;done) | skip
  rw[Qaj] at h;obtain⟨cs,h1,rfl⟩:=J6.mp h;rw[QbI h1];rfl
theorem QdG{A:Addr->Prop}{H:Hp}:∀{bs:List Bool}{xs:List V},DAs A H xs (bs.map YQ)->xs=bs.map V.bl
 |[],_,.nil=>rfl
 |b::bs,_,.cons (.bl _) r=>by rw[QdG r];rfl
theorem QaB{A:Addr->Prop}{H:Hp}:∀{bs:List Int}{xs:List V},DAs A H xs (bs.map Qb)->xs=bs.map V.int
 |[],_,.nil=>rfl
 |b::bs,_,.cons (.int _) r=>by rw[QaB r];rfl
@[irreducible] def QwP:List PyData->(PyData->Prop)->Prop
 |[.list ds],Q=>∃bs,Qa5 ds=some bs/\Q (.bool (bs.all id))
 |_,_=>False
theorem Qgq{K:PySem.W.Frag}{cm:Bool}(hc:cm=true):QaK (λxs H Q=>∃(p:Addr)(bs:List Bool),xs=[.ref p]/\SqL K H p (bs.map V.bl)/\cm=true/\Q (.bl (bs.all id)) H) QwP:=λA P H vs ds R Q ln dm q h k=>by
 unfold QwP at h;split at h
 ·obtain⟨v,rfl,hv⟩:=pd1 q;obtain⟨bs,hb,hR⟩:=h;rw[bools_eq hb] at hv;obtain⟨l,xs,rfl,e,qq⟩:=hv.list;rw[QdG qq] at e;exact⟨l,bs,rfl,SqL.of e,hc,k _ hR _ H (Same.refl H) (.bl _) Yh⟩
 ·exact h.elim
@[irreducible] def QwC:List PyData->(PyData->Prop)->Prop
 |[.list ds],Q=>∃ns,Qaj ds=some ns/\Q (.int ns.sum)
 |_,_=>False
theorem Qme{K:PySem.W.Frag}:QaK (Qum K) QwC:=λA P H vs ds R Q ln dm q h k=>by
 unfold QwC at h;split at h
 ·obtain⟨v,rfl,hv⟩:=pd1 q;obtain⟨bs,hb,hR⟩:=h;rw[QbI hb] at hv;obtain⟨l,xs,rfl,e,qq⟩:=hv.list;rw[QaB qq] at e;exact⟨l,bs,rfl,SqL.of e,k _ hR _ H (Same.refl H) (.int _) ZT⟩
 ·exact h.elim
@[irreducible] def Qom:List PyData->(PyData->Prop)->Prop
 |[.list ds],Q=>∃ns,Qaj ds=some ns/\0<ns.length/\∀m,m∈ns->(∀y∈ns,m<=y)->Q (.int m)
 |_,_=>False
theorem Qtm{K:PySem.W.Frag}:QaK (Quq K) Qom:=λA P H vs ds R Q ln dm q h k=>by
 unfold Qom at h;split at h
 ·obtain⟨v,rfl,hv⟩:=pd1 q;obtain⟨bs,hb,h0,hR⟩:=h;rw[QbI hb] at hv;obtain⟨l,xs,rfl,e,qq⟩:=hv.list;rw[QaB qq] at e;exact⟨l,bs,rfl,SqL.of e,h0,λm h1 h2=>k _ (hR m h1 h2) _ H (Same.refl H) (.int _) ZT⟩
 ·exact h.elim
def Qo2:List PyData->(PyData->Prop)->Prop
 |[.list ds],Q=>Q (.tuple ds)
 |[.tuple ds],Q=>Q (.tuple ds)
 |_,_=>False
theorem Qfs{K:PySem.W.Frag}:QaK (QkA K) Qo2:=λA P H vs ds R Q ln dm q h k=>by
 unfold Qo2 at h;split at h
 ·obtain⟨v,rfl,hv⟩:=pd1 q;obtain⟨l,xs,rfl,e,qq⟩:=hv.list;exact⟨l,xs,rfl,.inl ⟨SqL.of e,λl' H' s n e'=>k _ h _ H' s (QfS dm s e' qq) (QdB e')⟩⟩
 ·obtain⟨v,rfl,hv⟩:=pd1 q;obtain⟨l,xs,rfl,e,qq⟩:=hv.tuple;exact⟨l,xs,rfl,.inr ⟨SqT.of e,k _ h _ H (Same.refl H) (QfS dm (Same.refl H) e qq) (QdB e)⟩⟩
 ·exact h.elim
def intD:List PyData->(PyData->Prop)->Prop
 |[.int i],Q=>Q (.int i)
 |[.bool k],Q=>Q (.int (if k then 1 else 0))
 |_,_=>False
theorem QpL:QaK Qxz intD:=λA P H vs ds R Q ln dm q h k=>by
 unfold intD at h;split at h
 ·obtain⟨v,rfl,hv⟩:=pd1 q;rw[hv.int];exact .inl ⟨_,rfl,k _ h _ H (Same.refl H) (.int _) ZT⟩
 ·obtain⟨v,rfl,hv⟩:=pd1 q;rw[hv.bool];exact .inr ⟨_,rfl,k _ h _ H (Same.refl H) (.int _) ZT⟩
 ·exact h.elim
end
section
variable{X:Cx}{E:XK}
inductive Tn where | int | bool | str | tuple | list
def Tn.s:Tn->String
 |.int => "int"
 |.bool => "bool"
 |.str => "str"
 |.tuple => "tuple"
 |.list => "list"
def isT:Tn->PyData->Bool
 |.int,.int _=>true
 |.int,.bool _=>true
 |.bool,.bool _=>true
 |.str,.str _=>true
 |.tuple,.tuple _=>true
 |.list,.list _=>true
 |_,_=>false
theorem QsW{K:PySem.W.Frag}{A P:Addr->Prop}{H:Hp}{v:V}{d:PyData}(tn:Tn)(h:DP A P H v d):∃t,TyOf K H v t/\PySem.W.kitOne K t (.type tn.s)=some (isT tn d):=by
 rcases h with h | ⟨l,xs,ds,rfl,rfl,_,e,q⟩
 ·cases h with
  |non=>exact⟨_,.non,by cases tn<;>rfl⟩
  |bl b=>exact⟨_,.bl _,by cases tn<;>rfl⟩
  |int i=>exact⟨_,.int _,by cases tn<;>rfl⟩
  |str x c=>exact⟨_,.str _,by cases tn<;>rfl⟩
  |tup n e q=>exact⟨_,.tup e,by cases tn<;>rfl⟩
  |lst n e q=>exact⟨_,.lst e,by cases tn<;>rfl⟩
  |dct n e q=>exact⟨_,.dK e,by cases tn<;>rfl⟩
 ·exact⟨_,.lst e,by cases tn<;>rfl⟩
def Qv6(tn:Tn)(we:DE):DE:=λδ Q EX=>we δ (λd=>Q (.bool (isT tn d))) EX
theorem Qsi{e f:QV}{we:DE}{p pos:Pos}(tn:Tn)(hg:Gl X "isinstance")(hm:X.mg "isinstance" = none)(he:PE X e (tX .P X.K E we))(hf:PE X f (tC (.ty tn.s)))(h1:JH e=true:=by rfl)(h2:JH f=true:=by rfl) :
  PE X (.Call (.Name "isinstance" p) [e,f] [] pos) (tX .F X.K E (Qv6 tn we)):=by
 refine PE.imp (Qb0 Qhv hg hm Qfw (QfL he (QfL hf YF h2) h1) (he:=Z1 h1) (hpl:=by rw[Z1 h2];rfl)) λσ H Q ⟨F,δ,R,EX,rel,hw,k,o⟩=>?_
 refine⟨F,δ,_,EX,rel,hw,λd hd v H' rel' kp vk=>?_,o⟩;obtain⟨t,ty,et⟩:=QsW (K:=X.K) tn vk;exact⟨v,t,tn.s,_,rfl,ty,et,k _ hd _ H' rel' kp ⟨.bl _,Yh⟩⟩
theorem QxS{x:Str}{pos:Pos}(tn:Tn)(hg:Gl X x)(hm:X.mg x=none)(hv:bootBuiltins x=some (.type tn.s))(hn:x ≠ "__name__" := by decide)(hd:(x == ("__debug__" : Str))=false:=by decide):PE X (.Name x pos) (tC (.ty tn.s)):=QrZ (v:=.ty tn.s) hg hm hv rfl hn hd
abbrev DO:=Sts->(Option Int->Prop)->XP->Prop
def tO(K:PySem.W.Frag)(E:XK)(w:DO):TO:=λσ H Q=>∃(F:Fm)(δ:Sts)(R:Option Int->Prop)(EX:XP),Rel K F σ H δ/\w δ R EX/\(∀d,R d->∀H',Rel K F σ H' δ->Kp σ δ H H'->Q d H')/\Out F E EX
def dNo:DO:=λ_ Q _=>Q none
def dSo(we:DE):DO:=λδ Q EX=>we δ (λd=>match d with
 |.int i=>Q (some i)
 |_=>False) EX
theorem PO.imp{e:Option QV}{t t':TO}(h:PO X e t)(i:∀σ H Q,t' σ H Q->t σ H Q):PO X e t':=λpins s σ H Q I q=>h pins s σ H Q I (i σ H Q q)
theorem QnR:PO X none (tO X.K E dNo):=PO.imp QrQ λσ H Q ⟨F,δ,R,EX,rel,hw,k,o⟩=>k _ hw H rel (Kp.refl rel)
theorem QnQ{e:QV}{we:DE}(he:PE X e (tX .P X.K E we)):PO X (some e) (tO X.K E (dSo we)):=by
 refine PO.imp (QrP he) λσ H Q ⟨F,δ,R,EX,rel,hw,k,o⟩=>?_
 refine⟨F,δ,_,EX,rel,hw,λd hd v H' rel' kp vk=>?_,o⟩;cases d<;>first | exact(show False from hd).elim | skip
 exact⟨_,DP.int vk,k _ hd H' rel' kp⟩
def cutD(xs:List PyData)(lo hi:Option Int):List PyData:=(xs.drop (HT.sIx xs.length 0 lo)).take (HT.sIx xs.length xs.length hi - HT.sIx xs.length 0 lo)
theorem Ql5{A:Addr->Prop}{H:Hp}{xs:List V}{ds:List PyData}(q:DAs A H xs ds)(lo hi:Option Int):DAs A H (QjL xs lo hi) (cutD ds lo hi):=by
 unfold QjL cutD;rw[q.length];exact(q.drop _).take _
def slD(d:PyData)(lo hi:Option Int)(Q:PyData->Prop):Prop:=
 match d with
 |.list ds=>Q (.list (cutD ds lo hi))
 |.tuple ds=>Q (.tuple (cutD ds lo hi))
 |_=>False
def dSl(we:DE)(wl wh:DO):DE:=λδ Q EX=>we δ (λd=>wl δ (λlo=>wh δ (λhi=>slD d lo hi Q) EX) EX) EX
def Quo(K:PySem.W.Frag):V->Option Int->Option Int->Hp->VK->Prop:=λx a b H Q=>Qyy x a b H Q∨Qun K x a b H Q
theorem QnX{e:QV}{lo hi:Option QV}{we:DE}{wl wh:DO}{p2 pos:Pos}(he:PE X e (tX .P X.K E we))(hl:PO X lo (tO X.K E wl))(hh:PO X hi (tO X.K E wh)):PE X (.Subscript e (.Slice lo hi none p2) pos) (tX .F X.K E (dSl we wl wh)):=by
 refine PE.imp (Qnz (r:=Quo X.K) (SlR.or2 Qui Qna) he hl hh) λσ H Q ⟨F,δ,R,EX,rel,hw,k,o⟩=>?_
 refine⟨F,δ,_,EX,rel,hw,λd hd v H1 rel1 kp1 vk=>⟨F,δ,_,EX,rel1,hd,λa ha H2 rel2 kp2=>⟨F,δ,_,EX,rel2,ha,λb hb H3 rel3 kp3=>?_,o⟩,o⟩,o⟩;have v3:=kp3.dp (kp2.dp vk);have K3:=(kp1.trans kp2).trans kp3;cases d<;>first | exact(show False from hb).elim | skip
 ·obtain⟨l,xs,rfl,e,q⟩:=DP.list v3;exact .inr ⟨l,xs,rfl,SqL.of e,λp H' s n e'=>k _ hb _ H' (rel3.same s) (K3.trans (Kp.same rel3 s)) ⟨Qeo (λa ha=>rel3.isl ha) s n e' (Ql5 q _ _),QbK (Qa0 K3 n)⟩⟩
 ·obtain⟨l,xs,rfl,e,q⟩:=DP.tuple v3;exact .inl ⟨l,xs,rfl,e,λp H' s e'=>k _ hb _ H' (rel3.same s) (K3.trans (Kp.same rel3 s)) ⟨QfS (λa ha=>rel3.isl ha) s e' (Ql5 q _ _),QdB e'⟩⟩
abbrev DF:=List Sl->(PyData->Prop)->XP->Prop
def Kq(pt:Addr->Prop)(H H':Hp):Prop:=(∀b o,¬pt b->H b=some o->H' b=some o)/\∀p,pt p->∃n,H' p=some (.lst [.int n])
def JE(fr:Bool)(f:DF):Sp:=λvs H Q Ex=>∃(A pt:Addr->Prop)(args:List Sl)(R:PyData->Prop)(EX:XP),(∀a,A a->∃xs,H a=some (.lst xs))/\(∀p,pt p->A p/\∃n,H p=some (.lst [.int n]))/\Qac (QhD A pt H) vs args/\f args R EX /\
 (∀d,R d->∀v H',Kq pt H H'->DA A H' v d->(fr=true->FrV H H' v)->Q v H')/\∀C,EX C->∀H',Kq pt H H'->Ex (.ref C) none H'
def Qyx:DSl:=λ_ Q _=>Q []
def sV(we:DE)(wr:DSl):DSl:=λδ Q EX=>we δ (λd=>wr δ (λds=>Q (.v d::ds)) EX) EX
def Qxu(i:Nat)(wr:DSl):DSl:=λδ Q EX=>match δ[i]? with
 |some .pot=>wr δ (λds=>Q (.pot::ds)) EX
 |_=>False
theorem Qsa:PA X [] (tAs X.K E Qyx):=PA.imp YF λσ H Q ⟨F,δ,R,EX,rel,hw,k,o⟩=>k [] hw [] H rel (Kp.refl rel) .nil
theorem QxM{e:QV}{es:List QV}{we:DE}{wr:DSl}(he:PE X e (tX .D X.K E we))(hr:PA X es (tAs X.K E wr))(hs:JH e=true:=by rfl):PA X (e::es) (tAs X.K E (sV we wr)):=by
 refine PA.imp (QfL he hr hs) λσ H Q ⟨F,δ,R,EX,rel,hw,k,o⟩=>?_
 refine⟨F,δ,_,EX,rel,hw,λd hd v H' rel' kp vk=>⟨F,δ,_,EX,rel',hd,λds hds vs H2 rel2 kp2 vks=>?_,o⟩,o⟩;exact k _ hds (v::vs) H2 rel2 (kp.trans kp2) (.cons (kp2.da vk) vks)
theorem Qr8{e:QV}{es:List QV}{i:Nat}{wr:DSl}(he:PE X e (Qj8 i))(hr:PA X es (tAs X.K E wr))(hs:JH e=true:=by rfl):PA X (e::es) (tAs X.K E (Qxu i wr)):=by
 refine PA.imp (QfL he hr hs) λσ H Q ⟨F,δ,R,EX,rel,hw,k,o⟩=>?_
 unfold Qxu at hw;split at hw
 ·rename_i hd
  obtain⟨x,hx⟩:=rel.lt hd;obtain⟨p,n,rfl,e,q⟩:=rel.sl i _ _ hx hd;refine⟨.ref p,hx,F,δ,_,EX,rel,hw,λds hds vs H2 rel2 kp2 vks=>?_,o⟩;exact k _ hds (.ref p::vs) H2 rel2 kp2 (.cons ⟨p,rfl,i,hx,hd⟩ vks)
 ·exact hw.elim
def Qjk(f:DF)(wa:DSl):DE:=λδ Q EX=>wa δ (λargs=>f args Q EX) EX
theorem Kq.kp{K:PySem.W.Frag}{F:Fm}{σ:L2.St}{δ:Sts}{H H':Hp}(k:Kq (ZY σ δ) H H'):Kp σ δ H H':=k
theorem QdM{m:Md}{fr:Bool}{K:PySem.W.Frag}{f:DF}{wa:DSl}(hm:∀{F:Fm}{σ:L2.St}{δ:Sts}{H H':Hp}{v:V}{d:PyData},DA (Av F σ δ) H' v d->(fr=true->FrV H H' v)->Vok m F σ δ H H' v d)(σ:L2.St)(H:Hp)(Q:VK)(h:tX m K E (Qjk f wa) σ H Q):Qm6 (JE fr f) [] E (tAs K E wa) σ H Q:=by
 obtain⟨F,δ,R,EX,rel,hw,k,o⟩:=h;refine⟨F,δ,_,EX,rel,hw,λargs ha vs H1 rel1 kp1 q=>?_,o⟩;show JE fr f (vs++[]) H1 Q E;rw[Yc];refine⟨Av F σ δ,ZY σ δ,args,R,EX,λa ha=>rel1.isl ha,λp hp=>⟨YE hp,(Kp.refl rel1).2 p hp⟩,q,ha,λd hd v H' kq dv fr=>?_,λC hC H' kq=>o C hC H' (rel1.kp kq).ke⟩;exact k d hd v H' (rel1.kp kq) (kp1.trans kq) (hm dv λz l e1 e2=>Qa0 kp1 (fr z l e1 e2))
variable{CX:CXT}{k:Nat}{f:Addr}{fd:QK}{ps:List Str}{x:Str}{p pos:Pos}{e:QV}{es:List QV}{fD:DF}{wa:DSl}
theorem Qsl(G:FnOk X.prog X.w X.K X.mg X.base CX k f fd ps (JE false fD))(hr:Room k X.A)(hg:Gl X x)(hm:X.mg x=some (.ref f))(hk:PySem.W.keepIn X.K (.ref f)=true)(hb:Binds X.K fd ps [])(hx:Qa6 CX X E)
  (ha:PA X (e::es) (tAs X.K E wa))(hdb:(x == ("__debug__" : Str))=false:=by decide)(he:starEach (e::es) X.env=(false,eval e X.env)::starEach es X.env:=by rfl)(hpl:(backTo pos (starEach es X.env)).any (·.1)=false:=by rfl) :
  PE X (.Call (.Name x p) (e::es) [] pos) (tX .D X.K E (Qjk fD wa)):=PE.imp (Qdr G hr hg hm hk hb .nil hx ha hdb he hpl) (QdM λh _=>h)
theorem QnZ(G:FnOk X.prog X.w X.K X.mg X.base CX k f fd ps (JE true fD))(hr:Room k X.A)(hg:Gl X x)(hm:X.mg x=some (.ref f))(hk:PySem.W.keepIn X.K (.ref f)=true)(hb:Binds X.K fd ps [])(hx:Qa6 CX X E)
  (ha:PA X (e::es) (tAs X.K E wa))(hdb:(x == ("__debug__" : Str))=false:=by decide)(he:starEach (e::es) X.env=(false,eval e X.env)::starEach es X.env:=by rfl)(hpl:(backTo pos (starEach es X.env)).any (·.1)=false:=by rfl) :
  PE X (.Call (.Name x p) (e::es) [] pos) (tX .F X.K E (Qjk fD wa)):=PE.imp (Qdr G hr hg hm hk hb .nil hx ha hdb he hpl) (QdM λh z=>⟨h,z rfl⟩)
def scal:PyData->Bool
 |.list _=>false
 |.tuple _=>false
 |.dict _=>false
 |_=>true
def QvQ:PyData->Bool
 |.list ds=>ds.all scal
 |d=>scal d
theorem Qrs{A A':Addr->Prop}{H:Hp}{v:V}{d:PyData}(h:DA A H v d)(s:scal d=true):DA A' H v d:=by
 cases h with
 |non=>exact .non
 |bl b=>exact .bl b
 |int i=>exact .int i
 |str x c=>exact .str x c
 |tup _ _ _=>cases s
 |lst _ _ _=>cases s
 |dct _ _ _=>cases s
theorem QhX{A A':Addr->Prop}{H:Hp}:∀{vs:List V}{ds:List PyData},DAs A H vs ds->ds.all scal=true->DAs A' H vs ds
 |_,_,.nil,_=>.nil
 |_,_,.cons a b,s=>by
  rw[Qwy,JN] at s;exact .cons (Qrs a s.1) (QhX b s.2)
def Ql4(f:DF)(wa:DAr):DE:=λδ Q EX=>wa δ (λds=>f (ds.map Sl.v) (λd=>QvQ d=true/\Q d) EX) EX
def Qzg(P:Addr->Prop)(H:Hp)(vs:List V)(a:Addr):Prop:=V.ref a∈vs/\¬P a
theorem Qgl{A P:Addr->Prop}{H:Hp}(ws:List V):∀{vs:List V}{ds:List PyData},(∀v∈vs,v∈ws)->Qac (VD .P A P H) vs ds->Qac (QhD (λa=>A a/\¬Qzg P H ws a) (λ_=>False) H) vs (ds.map Sl.v)
 |_,_,_,.nil=>.nil
 |v::vs,d::ds,m,.cons a b=>by
  refine .cons ?_ (Qgl ws (λv hv=>m v (Jr _ hv)) b)
  rcases a with a | ⟨l,xs,ds,rfl,rfl,n,e,q⟩
  ·exact a.mv (λ_ _ _ e=>e) λa z=>.inl z.1
  ·exact .lst (λz=>z.2 ⟨m _ Zh,n⟩) e (q.mv (λ_ _ _ e=>e) λa z=>.inl z.1)
theorem Qjq{n:Nat}{fr:Bool}{K:PySem.W.Frag}{f:DF}{wa:DAr}(hfr:fr=true)(σ:L2.St)(H:Hp)(Q:VK)(h:tX .F K E (Ql4 f wa) σ H Q):Qm6 (JE fr f) [] E (tAr n .P K E wa) σ H Q:=by
 obtain⟨F,δ,R,EX,rel,hw,k,o⟩:=h;refine⟨F,δ,_,EX,rel,hw,λargs ha _ vs H1 rel1 kp1 q=>?_,o⟩;show JE fr f (vs++[]) H1 Q E;rw[Yc];refine⟨λa=>Av F σ δ a/\¬Qzg (ZY σ δ) H1 vs a,λ_=>False,args.map Sl.v,_,EX,λa ha=>rel1.isl ha.1,λp hp=>hp.elim,Qgl vs (λ_ h=>h) q,ha,λd hd v H' kq dv fr=>?_,λC hC H' kq=>o C hC H' (rel1.same λb o e=>kq.1 b o (λz=>z) e).ke⟩;have s:Same H1 H':=λb o e=>kq.1 b o (λz=>z) e
 have fv:=fr hfr;refine k d hd.2 v H' (rel1.same s) (kp1.trans (Kp.same rel1 s)) ⟨?_,λl e1 e2=>Qa0 kp1 (fv l e1 e2)⟩;have hf:=hd.1;cases dv with
 |non=>exact .non
 |bl b=>exact .bl b
 |int i=>exact .int i
 |str x c=>exact .str x c
 |tup _ _ _=>cases hf
 |dct _ _ _=>cases hf
 |@lst a xs ds n' e q'=>
  refine .lst (λz=>?_) e (QhX q' hf);obtain⟨ys,e'⟩:=rel1.isl z;rw[fv a rfl ⟨xs,e⟩] at e';cases e'
theorem QnY{n:Nat}{wr:DAr}(G:FnOk X.prog X.w X.K X.mg X.base CX k f fd ps (JE true fD))(hr:Room k X.A)(hg:Gl X x)(hm:X.mg x=some (.ref f))(hk:PySem.W.keepIn X.K (.ref f)=true)(hb:Binds X.K fd ps [])(hx:Qa6 CX X E)
  (ha:PA X (e::es) (tAr n .P X.K E wr))(hdb:(x == ("__debug__" : Str))=false:=by decide)(he:starEach (e::es) X.env=(false,eval e X.env)::starEach es X.env:=by rfl)(hpl:(backTo pos (starEach es X.env)).any (·.1)=false:=by rfl) :
  PE X (.Call (.Name x p) (e::es) [] pos) (tX .F X.K E (Ql4 fD wr)):=PE.imp (Qdr G hr hg hm hk hb .nil hx ha hdb he hpl) (Qjq rfl)
end
abbrev DG:=PyData->Sts->(Sts->Prop)->Prop
def tG(ix:List Nat)(K:PySem.W.Frag)(w:DG):TG:=λv σ H Q=>∃(F:Fm)(δ:Sts)(d:PyData)(R:Sts->Prop),Rel K F σ H δ/\DA (Av F σ δ) H v d/\w d δ R /\
 ∀δ',R δ'->∀σ',Rel K F σ' H δ'->Stp F σ H δ σ' H δ'->σ'.length=σ.length->(∀j,j∉ix->σ'[j]? = σ[j]?)->Q σ' H
theorem YV{α:Type}{l:List α}{i j:Nat}{x:α}(h:j≠i):(l.set i x)[j]? = l[j]? := Qcc (Qca h)
theorem set_eq{α:Type}{l:List α}{i:Nat}{x y:α}(h:(l.set i x)[i]? = some y):y=x:=by
 rw[QaL] at h;simp only[if_true] at h;split at h
 ·exact(Qr h).symm
 ·cases h
theorem QdP{F:Fm}{σ:L2.St}{δ:Sts}{i:Nat}{o:Option V}{d:PyData}{a:Addr}(h:Av F (σ.set i o) (δ.set i (.v d)) a):Av F σ δ a:=by
 rcases h with h | ⟨j,h1,h2⟩
 ·exact .inl h
 ·by_cases z:j=i
  ·subst z;rcases h2 with h2 | ⟨ds,h2⟩<;>cases set_eq h2
  ·rw[YV z] at h1 h2;exact .inr ⟨j,h1,h2⟩
theorem Rel.setv{K:PySem.W.Frag}{F:Fm}{σ:L2.St}{H:Hp}{δ:Sts}(r:Rel K F σ H δ){i:Nat}{v:V}{d:PyData}(q:DA (Av F σ δ) H v d):Rel K F (σ.set i (some v)) H (δ.set i (.v d)) where
 len:=by rw[ZN,ZN];exact r.len
 dom:=r.dom
 dom0:=r.dom0
 pt0:=r.pt0
 kx:=r.kx
 sl:=λj o x h1 h2=>by
  have wk:∀{v:V}{d':PyData},DA (Av F σ δ) H v d'->DA (Av F (σ.set i (some v)) (δ.set i (.v d))) H v d':=λh=>h.mv (λ_ _ _ e=>e) λa z=>.inl (QdP z)
  by_cases z:j=i
  ·subst z;cases set_eq h1;cases set_eq h2;exact⟨v,rfl,q.mv (λ_ _ _ e=>e) λa z=>.inl (QdP z)⟩
  ·rw[YV z] at h1 h2;have h:=r.sl j o x h1 h2;cases x with
   |no=>trivial
   |v d=>obtain⟨v',e,q'⟩:=h;exact⟨v',e,q'.mv (λ_ _ _ e=>e) λa z=>.inl (QdP z)⟩
   |own ds=>obtain⟨l,xs,e,e2,q',f⟩:=h;exact⟨l,xs,e,e2,q'.mv (λ_ _ _ e=>e) λa z=>.inl (QdP z),f⟩
   |pk ds=>obtain⟨l,xs,e,e2,q',f⟩:=h;exact⟨l,xs,e,e2,q'.mv (λ_ _ _ e=>e) λa z=>.inl (QdP z),f⟩
   |pot=>exact h
   |scr=>exact h
 inj:=λj k a ds h1 h2 ⟨h3,h4⟩=>by
  by_cases z:j=i
  ·subst z;cases set_eq h1
  ·rw[YV z] at h1 h2;by_cases z2:k=i
   ·subst z2;rcases h4 with h4 | ⟨ds,h4⟩<;>cases set_eq h4
   ·rw[YV z2] at h3 h4;exact r.inj j k a ds h1 h2 ⟨h3,h4⟩
theorem Stp.setv{F:Fm}{σ:L2.St}{H:Hp}{δ:Sts}{i:Nat}{o:Option V}{d:PyData}:Stp F σ H δ (σ.set i o) H (δ.set i (.v d)):=⟨λ_ _ _ e=>e,λa z=>.inl (QdP z)⟩
def gN(i:Nat):DG:=λd δ Q=>Q (δ.set i (.v d))
def QhW:Sts->List Nat->List PyData->Sts
 |δ,i::is,d::ds=>QhW (δ.set i (.v d)) is ds
 |δ,_,_=>δ
def gTN(is:List Nat):DG:=λd δ Q=>match d with
 |.tuple ds=>ds.length=is.length/\Q (QhW δ is ds)
 |_=>False
section
variable{X:Cx}{E:XK}
theorem PG.imp{e:QV}{t t':TG}(h:PG X e t)(i:∀v σ H Q,t' v σ H Q->t v σ H Q):PG X e t':=λpins s σ H v u Q I r q=>h pins s σ H v u Q I r (i v σ H Q q)
theorem QnW{e:QV}{i:Nat}(h:PG X e (Qfm i)):PG X e (tG [i] X.K (gN i)):=PG.imp h λv σ H Q ⟨F,δ,d,R,rel,dv,hw,k⟩=>
 k _ hw _ (rel.setv dv) Stp.setv (ZN ..) λj hj=>YV λz=>hj (by rw[z];exact QB.mpr rfl)
def gNs:List Nat->TGs
 |[]=>QyT
 |i::is=>QvO (Qfm i) (gNs is)
theorem Qim{K:PySem.W.Frag}{F:Fm}{H:Hp}{Q:L2.St->Hp->Prop}:∀(is:List Nat)(vs:List V)(ds:List PyData)(σ:L2.St)(δ:Sts),ds.length=is.length->Rel K F σ H δ->DAs (Av F σ δ) H vs ds ->
  (∀σ',Rel K F σ' H (QhW δ is ds)->Stp F σ H δ σ' H (QhW δ is ds)->σ'.length=σ.length->(∀j,j∉is->σ'[j]? = σ[j]?)->Q σ' H)->gNs is vs σ H Q
 |[],vs,ds,σ,δ,hl,rel,q,k=>by
  cases ds with
  |nil=>cases q;exact⟨rfl,k σ rel Stp.refl rfl λ_ _=>rfl⟩
  |cons d ds=>cases hl
 |i::is,vs,ds,σ,δ,hl,rel,q,k=>by
  cases ds with
  |nil=>cases hl
  |cons d ds=>
   cases q with
   |@cons v vs _ _ q qs=>
    refine⟨v,vs,rfl,?_⟩;refine Qim is vs ds _ _ (by simpa using hl) (rel.setv q) (qs.mv (λ_ _ _ e=>e) λa z=>.inl (QdP z)) λσ' r' st hl' hj=>?_
    refine k σ' r' (Stp.setv.trans st) (by rw[hl',ZN]) λj hn=>?_
    rw[hj j (λz=>hn (Jr _ z)),YV (λz=>hn (by rw[z];exact Zh))]
theorem Qsf{e:QV}{n:Nat}{is:List Nat}(h:PG X e (QyS X.K n (gNs is)))(hn:is.length=n:=by rfl):PG X e (tG is X.K (gTN is)):=PG.imp h λv σ H Q ⟨F,δ,d,R,rel,dv,hw,k⟩=>by
 unfold gTN at hw;split at hw
 ·obtain⟨hl,hR⟩:=hw;cases dv with
  |@tup a xs ds na e q=>
   exact⟨a,xs,rfl,SqT.of e,by rw[q.length,hl,hn],Qim is xs _ σ δ hl rel q λσ' r' st hl' hj=>k _ hR σ' r' st hl' hj⟩
 ·exact hw.elim
def ItD(A S:Addr->Prop)(J:It)(items:List PyData)(H1:Hp):Prop:=items.length<=sizeLine/\∀(H2:Hp)(A':Addr->Prop),(∀b o,S b->H1 b=some o->H2 b=some o)->(∀b,A' b->A b∨H1 b=none)->(∀a,A' a->∃xs,H2 a=some (.lst xs)) ->
 (∀(i:Nat) d,items[i]? = some d->J.go i H2/\∀x H3,J.yld i H2 x H3->Same H2 H3/\DA A' H3 x d)/\J.stop items.length H2
def Sx(m:Md)(F:Fm)(σ:L2.St)(δ:Sts)(b:Addr):Prop:=
 match m with
 |.P=>¬ZY σ δ b
 |_=>¬Av F σ δ b
abbrev DI:=Sts->(List PyData->Prop)->XP->Prop
def tI(m:Md)(K:PySem.W.Frag)(E:XK)(w:DI):TI:=λσ H R=>∃(F:Fm)(δ:Sts)(R':List PyData->Prop)(EX:XP),Rel K F σ H δ/\w δ R' EX/\(∀items,R' items->∀J H',Rel K F σ H' δ->Kp σ δ H H'->ItD (Av F σ δ) (Sx m F σ δ) J items H'->R J H')/\Out F E EX
theorem PI.imp{tg e:QV}{t t':TI}(h:PI X tg e t)(i:∀σ H R,QbM H->t' σ H R->t σ H R):PI X tg e t':=λpins s σ H R I q=>h pins s σ H R I (i σ H R (Inv.lens I) q)
theorem PI.len{tg e:QV}{t:TI}(h:PI X tg e t):PI X tg e (λσ H R=>t σ H λJ H1=>QbM H1->R J H1):=λpins s σ H R I q=>by
 refine thn (h pins s σ H _ I q) λv s1 h1=>thn h1 λitv s2 h2=>?_
 obtain⟨it,fp,tn,J,H',e,I',T,t0,fo,hR⟩:=h2;exact⟨it,fp,tn,J,H',e,I',T,t0,fo,hR (Inv.lens I')⟩
def Qy7(w:DE):DI:=λδ Q EX=>w δ (λd=>match d with
 |.list ds=>Q ds
 |_=>False) EX
def Qy6(w:DE):DI:=λδ Q EX=>w δ (λd=>match d with
 |.tuple ds=>Q ds
 |_=>False) EX
theorem Qag{A S:Addr->Prop}{H H2:Hp}{A':Addr->Prop}{xs:List V}{ds:List PyData}(sA:∀b,¬A b->S b)(k:∀b o,S b->H b=some o->H2 b=some o)(m:∀b,A' b->A b∨H b=none)(q:DAs A H xs ds):DAs A' H2 xs ds:=q.mv (λa o n e=>k a o (sA a n) e) m
theorem Qx2{K:PySem.W.Frag}{A S:Addr->Prop}{H:Hp}{l:Addr}{xs:List V}{ds:List PyData}(sA:∀b,¬A b->S b)(sl:S l)(e:H l=some (.lst xs))(q:DAs A H xs ds)(ln:xs.length<=sizeLine):ItD A S (Itl K l) ds H:=by
 refine⟨by rw[<- q.length];exact ln,λH2 A' k m dm=>⟨λi d hd=>?_,xs,SqL.of (k _ _ sl e),by rw[q.length];exact Qi _⟩⟩;obtain⟨x,hx,dx⟩:=(Qag sA k m q).get i d hd;refine⟨⟨xs,x,SqL.of (k _ _ sl e),hx⟩,λy H3 ⟨e3,hy⟩=>?_⟩;subst e3;have:=hy xs (SqL.of (k _ _ sl e));rw[hx] at this;cases this;exact⟨Same.refl _,dx⟩
theorem Qx0{K:PySem.W.Frag}{A S:Addr->Prop}{H:Hp}{l:Addr}{xs:List V}{ds:List PyData}(sA:∀b,¬A b->S b)(sl:S l)(e:H l=some (.tup xs))(q:DAs A H xs ds)(ln:xs.length<=sizeLine):ItD A S (Itt K l) ds H:=by
 refine⟨by rw[<- q.length];exact ln,λH2 A' k m dm=>⟨λi d hd=>?_,xs,SqT.of (k _ _ sl e),by rw[q.length];exact Qi _⟩⟩;obtain⟨x,hx,dx⟩:=(Qag sA k m q).get i d hd;refine⟨⟨xs,x,SqT.of (k _ _ sl e),hx⟩,λy H3 ⟨e3,hy⟩=>?_⟩;subst e3;have:=hy xs (SqT.of (k _ _ sl e));rw[hx] at this;cases this;exact⟨Same.refl _,dx⟩
theorem QdY{m:Md}{F:Fm}{σ:L2.St}{δ:Sts}{b:Addr}(h:¬Av F σ δ b):Sx m F σ δ b:=by
 cases m
 ·exact h
 ·exact λz=>h (YE z)
 ·exact h
theorem stL{m:Md}{F:Fm}{σ:L2.St}{δ:Sts}{H H':Hp}{v:V}{ds:List PyData}(h:VD m (Av F σ δ) (ZY σ δ) H v (.list ds)):∃l xs,v=.ref l/\Sx m F σ δ l/\H l=some (.lst xs)/\DAs (Av F σ δ) H xs ds:=by
 cases m
 ·cases h with | @lst a xs _ n e q=>exact⟨a,xs,rfl,n,e,q⟩
 ·rcases h with h | ⟨l,xs,ds',rfl,e,n,e2,q⟩
  ·cases h with | @lst a xs _ n e q=>exact⟨a,xs,rfl,QdY n,e,q⟩
  ·cases e;exact⟨l,xs,rfl,n,e2,q⟩
 ·cases h with | @lst a xs _ n e q=>exact⟨a,xs,rfl,n,e,q⟩
theorem stT{m:Md}{F:Fm}{σ:L2.St}{δ:Sts}{H H':Hp}{v:V}{ds:List PyData}(h:VD m (Av F σ δ) (ZY σ δ) H v (.tuple ds)):∃l xs,v=.ref l/\Sx m F σ δ l/\H l=some (.tup xs)/\DAs (Av F σ δ) H xs ds:=by
 cases m
 ·cases h with | @tup a xs _ n e q=>exact⟨a,xs,rfl,n,e,q⟩
 ·rcases h with h | ⟨l,xs,ds',rfl,e,n,e2,q⟩
  ·cases h with | @tup a xs _ n e q=>exact⟨a,xs,rfl,QdY n,e,q⟩
  ·cases e
 ·cases h with | @tup a xs _ n e q=>exact⟨a,xs,rfl,n,e,q⟩
theorem QcN{m:Md}{F:Fm}{σ:L2.St}{δ:Sts}{H H':Hp}{v:V}{d:PyData}(h:Vok m F σ δ H H' v d):VD m (Av F σ δ) (ZY σ δ) H' v d:=by
 cases m
 ·exact h
 ·exact h
 ·exact h.1
variable{m:Md}{tg e e':QV}{w w':DE}{p pos tpos:Pos}
theorem QnV(h:PE X e (tX m X.K E w)):PI X tg e (tI m X.K E (Qy7 w)):=by
 refine PI.imp (PI.len (QrS h)) λσ H R _ ⟨F,δ,R',EX,rel,hw,k,o⟩=>?_
 refine⟨F,δ,_,EX,rel,hw,λd hd v H' rel' kp vk=>?_,o⟩;cases d<;>first | exact(show False from hd).elim | skip
 obtain⟨l,xs,rfl,sl,e,q⟩:=stL (H':=H') (QcN vk);exact⟨l,rfl,⟨xs,SqL.of e⟩,λln=>k _ hd _ H' rel' kp (Qx2 (λb=>QdY) sl e q (ln _ _ (.inl e)))⟩
theorem Qse(h:PE X e (tX m X.K E w)):PI X tg e (tI m X.K E (Qy6 w)):=by
 refine PI.imp (PI.len (QuJ h)) λσ H R _ ⟨F,δ,R',EX,rel,hw,k,o⟩=>?_
 refine⟨F,δ,_,EX,rel,hw,λd hd v H' rel' kp vk=>?_,o⟩;cases d<;>first | exact(show False from hd).elim | skip
 obtain⟨l,xs,rfl,sl,e,q⟩:=stT (H':=H') (QcN vk);exact⟨l,rfl,⟨xs,SqT.of e⟩,λln=>k _ hd _ H' rel' kp (Qx0 (λb=>QdY) sl e q (ln _ _ (.inr e)))⟩
def Qnl(lo:Int)(n:Nat):List PyData:=(Qm n).map λ(i:Nat)=>.int (lo+i)
theorem QgY{lo:Int}{n i:Nat}{d:PyData}(h:(Qnl lo n)[i]? = some d):i<n/\d=.int (lo+i):=by
 unfold Qnl at h;rw[Qh] at h;by_cases z:i<n
 ·rw[Q6 z] at h;exact⟨z,(Qr h).symm⟩
 ·rw[QL (by rw[QD];omega)] at h;cases h
theorem QgX{lo:Int}{n:Nat}:(Qnl lo n).length=n:=by unfold Qnl;rw[Qe,QD]
theorem Qx1{A S:Addr->Prop}{H:Hp}{lo:Int}{n:Nat}(hn:n<=1000000):ItD A S (Itr lo n) (Qnl lo n) H:=by
 refine⟨by rw[QgX];exact Q1 hn Qlv,λH2 A' k m dm=>⟨λi d hd=>?_,by rw[QgX];exact Qi _⟩⟩;obtain⟨hi,rfl⟩:=QgY hd;exact⟨hi,λx H3 ⟨e1,e2⟩=>by subst e1 e2;exact⟨Same.refl _,.int _⟩⟩
def Qv3(w:DE):DI:=λδ Q EX=>w δ (λd=>match d with
 |.int j=>(-1000000<=j/\j<=1000000)/\Q (Qnl 0 j.toNat)
 |_=>False) EX
theorem QnU(hg:Gl X "range")(hm:X.mg "range" = none)(h:PE X e (tX .P X.K E w))(hs:JH e=true:=by rfl):PI X tg (.Call (.Name "range" p) [e] [] pos) (tI m X.K E (Qv3 w)):=by
 refine PI.imp (Qga hg hm (QfL h YF hs) (by rw[Z1 hs];rfl)) λσ H R _ ⟨F,δ,R',EX,rel,hw,k,o⟩=>?_
 refine⟨F,δ,_,EX,rel,hw,λd hd v H' rel' kp vk=>?_,o⟩;cases d<;>first | exact(show False from hd).elim | skip
 obtain⟨⟨h1,h2⟩,hR⟩:=hd;rw[DP.int vk];exact⟨_,rfl,by omega,by omega,k _ hR _ H' rel' kp (Qx1 (by omega))⟩
theorem Qfb{A':Addr->Prop}{H2:Hp}{r:Addr}{x y:V}{d d':PyData}(dm:∀a,A' a->∃xs,H2 a=some (.lst xs))(n:H2 r=none)(q:DA A' H2 x d)(q':DA A' H2 y d'):DA A' (upd H2 r (.tup [x,y])) (.ref r) (.tuple [d,d']):=
 .tup (λz=>by obtain⟨xs,e⟩:=dm r z;rw[n] at e;cases e) Ju (.cons (q.same (JI n)) (.cons (q'.same (JI n)) .nil))
def QcC(ds:List PyData):List PyData:=(Qm ds.length).map λ(i:Nat)=>.tuple [.int i,ds.getD i .none]
theorem ZX{ds:List PyData}{i:Nat}{d:PyData}(h:(QcC ds)[i]? = some d):∃e,ds[i]? = some e/\d=.tuple [.int i,e]:=by
 unfold QcC at h;rw[Qh] at h;by_cases z:i<ds.length
 ·rw[Q6 z] at h;refine⟨ds[i],Qg z,?_⟩;rw[<- Qr h];show YT [.int i,ds.getD i .none]=_;rw[Qf,Qg z];rfl
 ·rw[QL (by rw[QD];omega)] at h;cases h
theorem YC{ds:List PyData}:(QcC ds).length=ds.length:=by unfold QcC;rw[Qe,QD]
def Qza(w:DE):DI:=λδ Q EX=>w δ (λd=>match d with
 |.list ds=>Q (QcC ds)
 |_=>False) EX
def Qy9(w:DE):DI:=λδ Q EX=>w δ (λd=>match d with
 |.tuple ds=>Q (QcC ds)
 |_=>False) EX
variable{elts:List QV}
theorem QkU{x1}(hg:Gl X "enumerate")(hm:X.mg "enumerate" = none)(h:PE X e (tX m X.K E w))(hs:JH e=true:=by rfl):PI X (.Tuple elts x1 tpos) (.Call (.Name "enumerate" p) [e] [] pos) (tI m X.K E (Qza w)):=by
 refine PI.imp (PI.len (QrT hg hm (QfL h YF hs) (by rw[Z1 hs];rfl))) λσ H R _ ⟨F,δ,R',EX,rel,hw,k,o⟩=>?_
 refine⟨F,δ,_,EX,rel,hw,λd hd v H' rel' kp vk=>?_,o⟩;cases d<;>first | exact(show False from hd).elim | skip
 obtain⟨l,xs,rfl,sl,e,q⟩:=stL (H':=H') (QcN vk);refine⟨l,xs,rfl,e,λln=>k _ hd _ H' rel' kp ⟨by rw[YC,<- q.length];exact ln _ _ (.inl e),λH2 A' kk mm dm=>⟨λi d hd'=>?_,xs,kk _ _ sl e,by rw[YC,q.length];exact Qi _⟩⟩⟩;obtain⟨d',hd2,rfl⟩:=ZX hd';obtain⟨x,hx,dx⟩:=(Qag (S:=Sx m F σ δ) (λb=>QdY) kk mm q).get i d' hd2;refine⟨⟨xs,x,kk _ _ sl e,hx⟩,λy H3 ⟨r,x',nr,hx',e1,e2⟩=>?_⟩;subst e1 e2;have:=hx' xs (kk _ _ sl e);rw[hx] at this;cases this;exact⟨JI nr,Qfb dm nr (.int _) dx⟩
theorem QkT{x1}(hg:Gl X "enumerate")(hm:X.mg "enumerate" = none)(h:PE X e (tX m X.K E w))(hs:JH e=true:=by rfl):PI X (.Tuple elts x1 tpos) (.Call (.Name "enumerate" p) [e] [] pos) (tI m X.K E (Qy9 w)):=by
 refine PI.imp (PI.len (Qnx hg hm (QfL h YF hs) (by rw[Z1 hs];rfl))) λσ H R _ ⟨F,δ,R',EX,rel,hw,k,o⟩=>?_
 refine⟨F,δ,_,EX,rel,hw,λd hd v H' rel' kp vk=>?_,o⟩;cases d<;>first | exact(show False from hd).elim | skip
 obtain⟨l,xs,rfl,sl,e,q⟩:=stT (H':=H') (QcN vk);refine⟨l,xs,rfl,e,λln=>k _ hd _ H' rel' kp ⟨by rw[YC,<- q.length];exact ln _ _ (.inr e),λH2 A' kk mm dm=>⟨λi d hd'=>?_,xs,kk _ _ sl e,by rw[YC,q.length]⟩⟩⟩;obtain⟨d',hd2,rfl⟩:=ZX hd';obtain⟨x,hx,dx⟩:=(Qag (S:=Sx m F σ δ) (λb=>QdY) kk mm q).get i d' hd2;refine⟨⟨xs,x,kk _ _ sl e,hx⟩,λy H3 ⟨r,x',nr,hx',e1,e2⟩=>?_⟩;subst e1 e2;have:=hx' xs (kk _ _ sl e);rw[hx] at this;cases this;exact⟨JI nr,Qfb dm nr (.int _) dx⟩
def Qd5(ds es:List PyData):List PyData:=Qjx (λd e=>.tuple [d,e]) ds es
theorem zip_get{ds es:List PyData}{i:Nat}{d:PyData}(h:(Qd5 ds es)[i]? = some d):∃a b,ds[i]? = some a/\es[i]? = some b/\d=.tuple [a,b]:=by
 unfold Qd5 at h;rw[List.getElem?_zipWith] at h;cases h1:ds[i]? with
 |none=>rw[h1] at h;cases h
 |some a=>
  cases h2:es[i]? with
  |none=>rw[h1,h2] at h;cases h
  |some b=>rw[h1,h2] at h;exact⟨a,b,rfl,rfl,(Qr h).symm⟩
theorem QeR{ds es:List PyData}:(Qd5 ds es).length=min ds.length es.length:=by unfold Qd5;rw[QmC]
def QyX(w w':DE):DI:=λδ Q EX=>w δ (λd=>w' δ (λd'=>match d,d' with
 |.list ds,.list es=>Q (Qd5 ds es)
 |_,_=>False) EX) EX
def QyW(w w':DE):DI:=λδ Q EX=>w δ (λd=>w' δ (λd'=>match d,d' with
 |.tuple ds,.tuple es=>Q (Qd5 ds es)
 |_,_=>False) EX) EX
theorem QnT{x1}(hg:Gl X "zip")(hm:X.mg "zip" = none)(h:PE X e (tX m X.K E w))(h':PE X e' (tX m X.K E w'))(hs:JH e=true:=by rfl)(hs':JH e'=true:=by rfl):PI X (.Tuple elts x1 tpos) (.Call (.Name "zip" p) [e,e'] [] pos) (tI m X.K E (QyX w w')):=by
 refine PI.imp (PI.len (QrR hg hm (QfL h (QfL h' YF hs') hs) (by rw[Z1 hs,Z1 hs'];rfl) (hs2:=by rw[Z1 hs'];rfl))) λσ H R _ ⟨F,δ,R',EX,rel,hw,k,o⟩=>?_
 refine⟨F,δ,_,EX,rel,hw,λd hd v H1 rel1 kp1 vk=>⟨F,δ,_,EX,rel1,hd,λd2 hd2 v2 H2 rel2 kp2 vk2=>?_,o⟩,o⟩;cases d<;>cases d2<;>first | exact(show False from hd2).elim | skip
 obtain⟨l,xs,rfl,sl,e,q⟩:=stL (H':=H2) (kp2.vd (QcN vk));obtain⟨l2,ys,rfl,sl2,e2,q2⟩:=stL (H':=H2) (QcN vk2);refine⟨l,l2,xs,ys,rfl,e,e2,λln=>k _ hd2 _ H2 rel2 (kp1.trans kp2) ⟨?_,λH3 A' kk mm dm=>⟨λi d hd'=>?_,xs,ys,kk _ _ sl e,kk _ _ sl2 e2,by rw[QeR,q.length,q2.length];omega⟩⟩⟩
 ·rw[QeR,<- q.length];exact Q1 (QtT _ _) (ln _ _ (.inl e))
 obtain⟨a,b,ha,hb,rfl⟩:=zip_get hd';obtain⟨x,hx,dx⟩:=(Qag (S:=Sx m F σ δ) (λb=>QdY) kk mm q).get i a ha;obtain⟨y,hy,dy⟩:=(Qag (S:=Sx m F σ δ) (λb=>QdY) kk mm q2).get i b hb;refine⟨⟨xs,ys,x,y,kk _ _ sl e,kk _ _ sl2 e2,hx,hy⟩,λz H4 ⟨r,x',y',nr,hx',hy',e1,e3⟩=>?_⟩;subst e1 e3;have h1:=hx' xs (kk _ _ sl e);have h2:=hy' ys (kk _ _ sl2 e2);rw[hx] at h1;rw[hy] at h2;cases h1;cases h2;exact⟨JI nr,Qfb dm nr dx dy⟩
theorem QnS{x1}(hg:Gl X "zip")(hm:X.mg "zip" = none)(h:PE X e (tX m X.K E w))(h':PE X e' (tX m X.K E w'))(hs:JH e=true:=by rfl)(hs':JH e'=true:=by rfl):PI X (.Tuple elts x1 tpos) (.Call (.Name "zip" p) [e,e'] [] pos) (tI m X.K E (QyW w w')):=by
 refine PI.imp (PI.len (QuI hg hm (QfL h (QfL h' YF hs') hs) (by rw[Z1 hs,Z1 hs'];rfl) (hs2:=by rw[Z1 hs'];rfl))) λσ H R _ ⟨F,δ,R',EX,rel,hw,k,o⟩=>?_
 refine⟨F,δ,_,EX,rel,hw,λd hd v H1 rel1 kp1 vk=>⟨F,δ,_,EX,rel1,hd,λd2 hd2 v2 H2 rel2 kp2 vk2=>?_,o⟩,o⟩;cases d<;>cases d2<;>first | exact(show False from hd2).elim | skip
 obtain⟨l,xs,rfl,sl,e,q⟩:=stT (H':=H2) (kp2.vd (QcN vk));obtain⟨l2,ys,rfl,sl2,e2,q2⟩:=stT (H':=H2) (QcN vk2);refine⟨l,l2,xs,ys,rfl,e,e2,λln=>k _ hd2 _ H2 rel2 (kp1.trans kp2) ⟨?_,λH3 A' kk mm dm=>⟨λi d hd'=>?_,xs,ys,kk _ _ sl e,kk _ _ sl2 e2,by rw[QeR,q.length,q2.length];omega⟩⟩⟩
 ·rw[QeR,<- q.length];exact Q1 (QtT _ _) (ln _ _ (.inr e))
 obtain⟨a,b,ha,hb,rfl⟩:=zip_get hd';obtain⟨x,hx,dx⟩:=(Qag (S:=Sx m F σ δ) (λb=>QdY) kk mm q).get i a ha;obtain⟨y,hy,dy⟩:=(Qag (S:=Sx m F σ δ) (λb=>QdY) kk mm q2).get i b hb;refine⟨⟨xs,ys,x,y,kk _ _ sl e,kk _ _ sl2 e2,hx,hy⟩,λz H4 ⟨r,x',y',nr,hx',hy',e1,e3⟩=>?_⟩;subst e1 e3;have h1:=hx' xs (kk _ _ sl e);have h2:=hy' ys (kk _ _ sl2 e2);rw[hx] at h1;rw[hy] at h2;cases h1;cases h2;exact⟨JI nr,Qfb dm nr dx dy⟩
end
def Qtr:Option Sl->Sl
 |some (.v d)=>.v d
 |some (.own ds)=>.pk ds
 |some (.pk ds)=>.pk ds
 |some .pot=>.pot
 |_=>.no
def Qde(cap:List (Option Nat))(δ:Sts):Sts:=cap.map λo=>match o with
 |none=>.no
 |some j=>Qtr δ[j]?
theorem Qft{cap:List (Option Nat)}{σ:L2.St}{i:Nat}{o:Option V}(h:(QcD cap σ)[i]? = some o):(cap[i]? = some none/\o=none)∨∃j,cap[i]? = some (some j)/\o=(σ[j]?).getD none:=by
 unfold QcD at h;rw[Qh] at h;obtain⟨c,hc,rfl⟩:=J6.mp h;cases c with
 |none=>exact .inl ⟨hc,rfl⟩
 |some j=>exact .inr ⟨j,hc,rfl⟩
theorem Qfu{cap:List (Option Nat)}{δ:Sts}{i:Nat}{x:Sl}(h:(Qde cap δ)[i]? = some x):(cap[i]? = some none/\x=.no)∨∃j,cap[i]? = some (some j)/\x=Qtr δ[j]? := by
 unfold Qde at h;rw[Qh] at h;obtain⟨c,hc,rfl⟩:=J6.mp h;cases c with
 |none=>exact .inl ⟨hc,rfl⟩
 |some j=>exact .inr ⟨j,hc,rfl⟩
theorem Qai{cap:List (Option Nat)}{σ:L2.St}{δ:Sts}{i:Nat}{o:Option V}{x:Sl}(h1:(QcD cap σ)[i]? = some o)(h2:(Qde cap δ)[i]? = some x)(hx:x≠.no):∃(j:Nat)(y:Sl),δ[j]? = some y/\x=Qtr (some y)/\o=(σ[j]?).getD none:=by
 rcases Qfu h2 with⟨_,e⟩ | ⟨j,hj,e⟩
 ·exact absurd e hx
 ·rcases Qft h1 with⟨z,_⟩ | ⟨j',hj',e'⟩
  ·rw[hj] at z;cases z
  ·rw[hj] at hj';cases hj';cases e2:δ[j]? with
   |none=>rw[e2] at e;exact absurd e hx
   |some y=>exact⟨j,y,e2,by rw[e,e2],e'⟩
theorem QbL{cap:List (Option Nat)}{σ:L2.St}{δ:Sts}{a:Addr}(h:ZY (QcD cap σ) (Qde cap δ) a):ZY σ δ a:=by
 obtain⟨i,h1,h2⟩:=h;obtain⟨j,y,hy,e,eo⟩:=Qai h1 h2 (λz=>by cases z);cases y<;>first | (cases e;done) | skip
 refine⟨j,?_,hy⟩;cases e2:σ[j]? with
 |none=>rw[e2] at eo;cases eo
 |some o'=>rw[e2] at eo;exact congrArg some eo.symm
def inF(A1:Addr->Prop)(cap:List (Option Nat))(σ:L2.St)(δ:Sts)(H:Hp):Fm:=⟨H,A1,ZY (QcD cap σ) (Qde cap δ)⟩
theorem Qij{A1:Addr->Prop}{cap:List (Option Nat)}{σ:L2.St}{δ:Sts}{H:Hp}(h:∀a,ZY σ δ a->A1 a){a:Addr}:Av (inF A1 cap σ δ H) (QcD cap σ) (Qde cap δ) a↔A1 a:=by
 constructor
 ·rintro(z | ⟨i,h1,h2⟩)
  ·exact z
  ·rcases h2 with h2 | ⟨ds,h2⟩
   ·exact h a (QbL ⟨i,h1,h2⟩)
   ·obtain⟨j,y,hy,e,eo⟩:=Qai h1 h2 (λz=>by cases z);cases y<;>cases e
 ·exact .inl
theorem QlH{K:PySem.W.Frag}{F:Fm}{σ:L2.St}{δ:Sts}{H1 H3:Hp}{A1:Addr->Prop}{cap:List (Option Nat)}(rel:Rel K F σ H1 δ)(hA:∀a,Av F σ δ a->A1 a)(hN:∀a,A1 a->Av F σ δ a∨H1 a=none)
  (dm:∀a,A1 a->∃xs,H3 a=some (.lst xs))(kp:Kp σ δ H1 H3):Rel K (inF A1 cap σ δ H3) (QcD cap σ) H3 (Qde cap δ) where
 len:=by unfold QcD Qde;rw[Qe,Qe]
 dom:=dm
 dom0:=dm
 pt0:=λp hp=>⟨hA p (YE (QbL hp)),kp.2 p (QbL hp)⟩
 kx:=λb o _ e=>e
 sl:=λi o x h1 h2=>by
  have iv:∀{a:Addr},Av (inF A1 cap σ δ H3) (QcD cap σ) (Qde cap δ) a->A1 a:=λ{a}=>(Qij λa z=>hA a (YE z)).mp
  have mv:∀{v:V}{d:PyData},DA (Av F σ δ) H1 v d->DA (Av (inF A1 cap σ δ H3) (QcD cap σ) (Qde cap δ)) H3 v d:=λq=>q.mv (λa o n e=>kp.1 a o (λz=>n (YE z)) e) λa z=>hN a (iv z)
  have mvs:∀{v:List V}{d:List PyData},DAs (Av F σ δ) H1 v d->DAs (Av (inF A1 cap σ δ H3) (QcD cap σ) (Qde cap δ)) H3 v d:=λq=>q.mv (λa o n e=>kp.1 a o (λz=>n (YE z)) e) λa z=>hN a (iv z)
  cases x with
  |no=>trivial
  |own ds=>
   obtain⟨j,y,hy,e,eo⟩:=Qai h1 h2 (λz=>by cases z);cases y<;>cases e
  |scr=>
   obtain⟨j,y,hy,e,eo⟩:=Qai h1 h2 (λz=>by cases z);cases y<;>cases e
  |v d=>
   obtain⟨j,y,hy,e,eo⟩:=Qai h1 h2 (λz=>by cases z);cases y<;>first | (cases e;done) | skip
   cases e;obtain⟨x,hx⟩:=rel.lt hy;obtain⟨v,rfl,q⟩:=rel.sl j _ _ hx hy;rw[hx] at eo;exact⟨v,eo,mv q⟩
  |pk ds=>
   obtain⟨j,y,hy,e,eo⟩:=Qai h1 h2 (λz=>by cases z);cases y<;>first | (cases e;done) | skip
   ·cases e;obtain⟨x,hx⟩:=rel.lt hy;obtain⟨l,xs,rfl,e,q,f⟩:=rel.sl j _ _ hx hy;rw[hx] at eo;have np:=rel.own_pot hy hx;exact⟨l,xs,eo,kp.1 _ _ np e,mvs q,xs,kp.1 _ _ np e,λz=>np (QbL z)⟩
   ·cases e;obtain⟨x,hx⟩:=rel.lt hy;obtain⟨l,xs,rfl,e,q,ys,f,f2⟩:=rel.sl j _ _ hx hy;rw[hx] at eo;have np:¬ZY σ δ l:=by
     rintro⟨j,j1,j2⟩;obtain⟨p,m,e1,_,w⟩:=rel.sl j _ _ j1 j2;cases e1;rcases w with w | w
     ·exact f2 w
     ·rw[w] at f;cases f
    exact⟨l,xs,eo,kp.1 _ _ np e,mvs q,xs,kp.1 _ _ np e,λz=>np (QbL z)⟩
  |pot=>
   obtain⟨j,y,hy,e,eo⟩:=Qai h1 h2 (λz=>by cases z);cases y<;>first | (cases e;done) | skip
   obtain⟨x,hx⟩:=rel.lt hy;obtain⟨p,n,rfl,e,q⟩:=rel.sl j _ _ hx hy;rw[hx] at eo;obtain⟨m,em⟩:=kp.2 p ⟨j,hx,hy⟩;have eo':o=some (.ref p):=eo;subst eo';exact⟨p,m,rfl,em,.inl ⟨i,h1,h2⟩⟩
 inj:=λi j a ds h1 h2 _=>by
  obtain⟨j,y,hy,e,eo⟩:=Qai h2 h1 (λz=>by cases z);cases y<;>cases e
theorem QmW:∀{σ σ':L2.St},σ'.length=σ.length->(∀(i:Nat) v,σ[i]? = some (some v)->σ'[i]? = some (some v))->Wk σ σ'
 |[],[],_,_=>trivial
 |[],_::_,h,_=>by cases h
 |_::_,[],h,_=>by cases h
 |none::a,x::b,h,g=>QmW (σ:=a) (σ':=b) (by simpa using h) λi v e=>by simpa using g (i+1) v (by simpa using e)
 |some u::a,x::b,h,g=>by
  have h0:=g 0 u rfl;simp only[QhF,Option.some.injEq] at h0;subst h0;exact⟨rfl,QmW (σ:=a) (σ':=b) (by simpa using h) λi v e=>by simpa using g (i+1) v (by simpa using e)⟩
def Qa2(cap:List (Option Nat))(ix:List Nat):Bool:=ix.all λi=>match cap[i]? with
 |some none=>true
 |_=>false
theorem QpN{cap:List (Option Nat)}{ix:List Nat}(hf:Qa2 cap ix=true){σ σ4:L2.St}(hl:σ4.length=(QcD cap σ).length)(hj:∀j,j∉ix->σ4[j]? = (QcD cap σ)[j]?):Wk (QcD cap σ) σ4:=by
 refine QmW hl λi v e=>?_
 by_cases z:i∈ix
 ·have:=JM.mp hf i z;rcases Qft e with⟨_,e2⟩ | ⟨j,hj2,_⟩
  ·cases e2
  ·rw[hj2] at this;cases this
 ·rw[hj i z];exact e
def XF:XP:=λ_=>False
@[irreducible] def QhC(items:List PyData)(wg:DG)(wt:DT)(we:DE)(δ:Sts)(Q:PyData->Prop):Prop:=∃Iv:Nat->List PyData->Prop,Iv 0 [] /\
 (∀(i:Nat) acc d,items[i]? = some d->Iv i acc->wg d δ λδ4=>wt δ4 (λb=>if b=true then we δ4 (λe=>Iv (i+1) (acc++[e])) XF else Iv (i+1) acc) XF)/\∀acc,Iv items.length acc->Q (.list acc)
def dComp(cap:List (Option Nat))(wi:DI)(wg:DG)(wt:DT)(we:DE):DE:=λδ Q EX=>wi δ (λitems=>QhC items wg wt we (Qde cap δ) Q) EX
def QtL:DT:=λ_ Q _=>Q true
section
variable{X:Cx}{E:XK}
theorem QmE{F:Fm}{E:XK}:Out F E XF:=λ_ z=>z.elim
theorem PTs.imp{es:List QV}{t t':TT}(h:PTs X es t)(i:∀σ H Q,t' σ H Q->t σ H Q):PTs X es t':=λpins s σ H Q I q=>h pins s σ H Q I (i σ H Q q)
theorem QnH:PTs X [] (tT X.K E QtL):=PTs.imp QrL λσ H Q ⟨F,δ,R,EX,rel,hw,k,o⟩=>k _ hw H rel (Kp.refl rel)
theorem QnG{c:QV}{t:DT}(h:PT X c (tT X.K E t)):PTs X [c] (tT X.K E t):=QrK h
theorem Qhk{K:PySem.W.Frag}{A1:Addr->Prop}{cap:List (Option Nat)}{σ σ4:L2.St}{δ δ4:Sts}{H3 H4:Hp}(r:Rel K (inF A1 cap σ δ H3) σ4 H4 δ4)(hk:∀b o,¬ZY σ δ b->H4 b=some o->H3 b=none->False){b:Addr}(h:ZY σ4 δ4 b):ZY σ δ b:=by
 obtain⟨i,h1,h2⟩:=h;obtain⟨p,n,e,hp,w⟩:=r.sl i _ _ h1 h2;cases e;rcases w with w | w
 ·exact QbL w
 ·by_cases z:ZY σ δ b
  ·exact z
  ·exact(hk b _ z hp w).elim
theorem Qj3{K:PySem.W.Frag}{F:Fm}{σ:L2.St}{δ:Sts}{H1 H3:Hp}{cap:List (Option Nat)}{ix:List Nat}{wg:DG}{wt:DT}{A1:Addr->Prop}{x:V}{d:PyData}{inner:L2.St->Hp->(Hp->Prop)->Prop}{kk:Hp->Prop}{T:Sts->Prop}{N:Prop}
  (hf:Qa2 cap ix=true)(rel:Rel K F σ H1 δ)(hA:∀a,Av F σ δ a->A1 a)(hN:∀a,A1 a->Av F σ δ a∨H1 a=none)(dm:∀a,A1 a->∃xs,H3 a=some (.lst xs))(kp:Kp σ δ H1 H3)(dx:DA A1 H3 x d)
  (h:wg d (Qde cap δ) λδ4=>wt δ4 (λb=>if b=true then T δ4 else N) XF)
  (hT:∀σ4 δ4 H5,T δ4->Rel K (inF A1 cap σ δ H3) σ4 H5 δ4->Kp σ δ H3 H5->(∀b,ZY σ4 δ4 b->ZY σ δ b)->inner σ4 H5 kk)(hF:N->∀H5,Kp σ δ H3 H5->kk H5) :
  bOf (QcD cap σ) (tG ix K wg) (tT K E0 wt) inner x H3 kk:=by
 have ri:=QlH (cap:=cap) rel hA hN dm kp;have iv:∀{a:Addr},Av (inF A1 cap σ δ H3) (QcD cap σ) (Qde cap δ) a->A1 a:=λ{a}=>(Qij λa z=>hA a (YE z)).mp
 refine⟨inF A1 cap σ δ H3,Qde cap δ,d,_,ri,dx.mv (λ_ _ _ e=>e) λa z=>.inl (iv z),h,λδ4 h4 σ4 r4 st4 l4 j4=>⟨QpN hf l4 j4,inF A1 cap σ δ H3,δ4,_,XF,r4,h4,λb hb H5 r5 kp5=>?_,QmE⟩⟩;have pots:∀{b:Addr},ZY σ4 δ4 b->ZY σ δ b:=λz=>Qhk r4 (λb o _ e1 e2=>by rw[e2] at e1;cases e1) z
 have K5:Kp σ δ H3 H5:=by
  refine⟨λb o n e=>kp5.1 b o (λz=>n (pots z)) e,λb hb=>?_⟩;by_cases z:ZY σ4 δ4 b
  ·exact kp5.2 b z
  ·obtain⟨n,e⟩:=kp.2 b hb;exact⟨n,kp5.1 _ _ z e⟩
 exact Qby hb (λz=>hT σ4 δ4 H5 z r5 K5 λb=>pots) λz=>hF z H5 K5
structure Lp (σ:L2.St) (δ:Sts) (A1:Addr->Prop) (p:Addr) (H1 H2:Hp) (acc:List PyData):Prop where
 kp:Kp σ δ H1 H2
 at_:∃ys,H2 p=some (.lst ys)/\DAs A1 H2 ys acc
theorem Lp.step{σ:L2.St}{δ:Sts}{A1:Addr->Prop}{p:Addr}{H1 H2 H3:Hp}{acc:List PyData}(hpA:∀a,ZY σ δ a->A1 a)(hpn:¬ZY σ δ p)(h:Lp σ δ A1 p H1 H2 acc)(k:Kp σ δ H2 H3):Lp σ δ A1 p H1 H3 acc:=by
 obtain⟨ys,e,q⟩:=h.at_;exact⟨h.kp.trans k,ys,k.1 _ _ hpn e,q.mv (λa o n e=>k.1 a o (λz=>n (hpA a z)) e) λa z=>.inl z⟩
theorem QpB{K:PySem.W.Frag}{σ σ4:L2.St}{δ δ4:Sts}{H1 H3 H5:Hp}{cap:List (Option Nat)}{we:DE}{A1:Addr->Prop}{p:Addr}{acc:List PyData}{kk:Hp->Prop}{G:PyData->Prop}
  (hpA:A1 p)(hP:∀a,ZY σ δ a->A1 a)(hp1:H1 p=none)(hpn:¬ZY σ δ p)(lp:Lp σ δ A1 p H1 H5 acc)(hl:acc.length<sizeLine)(r5:Rel K (inF A1 cap σ δ H3) σ4 H5 δ4)(pots:∀b,ZY σ4 δ4 b->ZY σ δ b)
  (h:we δ4 G XF)(hk:∀e,G e->∀H',Lp σ δ A1 p H1 H' (acc++[e])->kk H'):Qwe p (tX .D K E0 we) σ4 H5 kk:=by
 refine⟨inF A1 cap σ δ H3,δ4,G,XF,r5,h,λe he v H6 r6 kp6 dv=>?_,QmE⟩;have k56:Kp σ δ H5 H6:=by
  refine⟨λb o n e=>kp6.1 b o (λz=>n (pots b z)) e,λb hb=>?_⟩;by_cases z:ZY σ4 δ4 b
  ·exact kp6.2 b z
  ·obtain⟨n,e⟩:=lp.kp.2 b hb;exact⟨n,kp6.1 _ _ z e⟩
 obtain⟨k6,ys,e6,q6⟩:=lp.step hP hpn k56;have up:∀{b:Addr}{o:HO},¬A1 b->H6 b=some o->upd H6 p (.lst (ys++[v])) b=some o:=λ{b o} n e=>by rw[Jq (λz=>n (by rw[z];exact hpA))];exact e
 refine⟨ys,e6,by rw[q6.length];exact hl,hk e he _ ⟨⟨λb o n e=>?_,λb hb=>?_⟩,ys++[v],Ju,DAs.app (q6.mv (λ_ _=>up) λa z=>.inl z) (.cons (DA.mv dv (λa o n e=>up (λz=>n (.inl z)) e) λa z=>.inl (.inl z)) .nil)⟩⟩
 ·rw[Jq (λz=>by rw[z,hp1] at e;cases e)];exact k6.1 b o n e
 ·rw[Jq (λz=>hpn (by rw[<- z];exact hb))];exact k6.2 b hb
theorem Qsj{M:List Str}{cap:List (Option Nat)}{elt tg iter:QV}{ifs:List QV}{scope:Yl}{pos:Pos}{ix:List Nat}{wi:DI}{wg:DG}{wt:DT}{we:DE}(hc:X.calm=true)(ok:Qd0 X.N X.env.scope M scope cap=true)(hf:Qa2 cap ix=true)
  (hi:PI X tg iter (tI .P X.K E wi))(hb:∀cl ex s3 H3 C,PG (blk X M scope cl ex s3 H3 C) tg (tG ix X.K wg)/\PTs (blk X M scope cl ex s3 H3 C) ifs (tT X.K E0 wt)/\PE (blk X M scope cl ex s3 H3 C) elt (tX .D X.K E0 we))
  (hs:∀x,foldedSetIterable iter X.env x=pure x:=by intro _;rfl):PE X (.ListComp elt [⟨tg,iter,ifs,0⟩] scope pos) (tX .F X.K E (dComp cap wi wg wt we)):=by
 refine PE.imp (QnA hc ok hi hb hs) λσ H Q ⟨F,δ,R,EX,rel,hw,k,o⟩=>?_
 refine⟨F,δ,_,EX,rel,hw,λitems hC J H1 rel1 kp1 ⟨ln,it⟩ p hp=>?_,o⟩;unfold QhC at hC;obtain⟨Iv,i0,step,fin⟩:=hC;have hpn:¬ZY σ δ p:=λz=>by obtain⟨xs,e⟩:=rel1.isl (YE (F:=F) z);rw[hp] at e;cases e
 let A1:Addr->Prop:=λa=>Av F σ δ a∨a=p
 have hP:∀a,ZY σ δ a->A1 a:=λa z=>.inl (YE z)
 have hN:∀a,A1 a->Av F σ δ a∨H1 a=none:=λa z=>z.elim .inl λz=>.inr (by rw[z];exact hp)
 have dmK:∀{H2:Hp},Kp σ δ H1 H2->(∃ys,H2 p=some (.lst ys))->∀a,A1 a->∃xs,H2 a=some (.lst xs):=λ{H2} k2 e2 a z=>by
  rcases z with z | z
  ·exact(rel1.kp k2).isl z
  ·rw[z];exact e2
 refine Qfi items.length (λi H2=>i<=items.length/\∃acc,Iv i acc/\acc.length<=i/\Lp σ δ A1 p H1 H2 acc) ⟨Jm _,[],i0,Qi _,Kp.same rel1 (JI hp),[],Ju,.nil⟩ (λi H2 hi ⟨_,acc,iv,hl,lp⟩=>?_) λH2 ⟨_,acc,iv,hl,lp⟩=>?_
 ·obtain⟨k2,ys,e2,q2⟩:=lp;obtain⟨go,_⟩:=it H2 A1 (λb o n e=>k2.1 b o n e) hN (dmK k2 ⟨ys,e2⟩);have hd:items[i]? = some items[i]:=Qg hi;obtain⟨g1,g2⟩:=go i _ hd;refine⟨g1,λx H3 y kk hk=>?_⟩;obtain⟨s3,dx⟩:=g2 x H3 y;have k23:=Kp.same (rel1.kp k2) s3;have lp3:Lp σ δ A1 p H1 H3 acc:=Lp.step hP hpn ⟨k2,ys,e2,q2⟩ k23;refine Qj3 hf rel1 (λa z=>.inl z) hN (dmK lp3.kp ⟨ys,s3 _ _ e2⟩) lp3.kp dx (step i acc _ hd iv) (λσ4 δ4 H5 h5 r5 k5 pots=>?_) λh5 H5 k5=>hk _ ⟨hi,acc,h5,by omega,lp3.step hP hpn k5⟩
  exact QpB (.inr rfl) hP hp hpn (lp3.step hP hpn k5) (by omega) r5 pots h5 λe he H' lp'=>hk _ ⟨hi,acc++[e],he,by rw[Qx];show _+1<=_;omega,lp'⟩
 ·obtain⟨k2,ys,e2,q2⟩:=lp;obtain⟨_,st⟩:=it H2 A1 (λb o n e=>k2.1 b o n e) hN (dmK k2 ⟨ys,e2⟩);refine⟨st,k _ (fin acc iv) (.ref p) H2 (rel1.kp k2) (kp1.trans k2) ⟨.lst (λz=>?_) e2 (q2.mv (λ_ _ _ e=>e) λa z=>.inl (.inl z)),λl e1 _=>?_⟩⟩
  ·obtain⟨xs,e⟩:=rel1.isl z;rw[hp] at e;cases e
  ·cases e1;exact Qa0 kp1 hp
theorem Qwb{items:List PyData}{wg:DG}{wt:DT}{we:DE}{δ:Sts}{Q:PyData->Prop}(G:PyData->Option PyData)
  (h:∀d∈items,∀(k1:Prop)(k2:PyData->Prop),(G d=none->k1)->(∀e,G d=some e->k2 e)->wg d δ λδ4=>wt δ4 (λb=>if b=true then we δ4 k2 XF else k1) XF)(q:Q (.list (items.filterMap G))) :
  QhC items wg wt we δ Q:=by
 unfold QhC;refine⟨λi acc=>acc=(items.take i).filterMap G,by simp,λi acc d hd e=>?_,λacc e=>by rw[e,J3];exact q⟩;have hs:(items.take (i+1)).filterMap G=(items.take i).filterMap G++(G d).toList:=by
  rw[JR,hd,QjB];cases e2:G d<;>simp[e2]
 have e:acc=(items.take i).filterMap G:=e;refine h d (Qz hd) _ _ (λe2=>?_) λe' e2=>?_
 ·show acc=(items.take (i+1)).filterMap G;rw[hs,e2,e];simp
 ·show acc++[e']=(items.take (i+1)).filterMap G;rw[hs,e2,e];rfl
theorem Qab{items:List PyData}{wg:DG}{we:DE}{δ:Sts}{Q:PyData->Prop}(G:PyData->PyData)
  (h:∀d∈items,∀(k2:PyData->Prop),k2 (G d)->wg d δ λδ4=>we δ4 k2 XF)(q:Q (.list (items.map G))) :
  QhC items wg QtL we δ Q:=by
 unfold QhC;refine⟨λi acc=>acc=(items.take i).map G,by simp,λi acc d hd e=>?_,λacc e=>by rw[e,J3];exact q⟩;have hs:(items.take (i+1)).map G=(items.take i).map G++[G d]:=by
  rw[JR,hd,Jk];simp
 have e:acc=(items.take i).map G:=e;have hh:=h d (Qz hd) (λe=>acc++[e]=(items.take (i+1)).map G) (by show acc++[G d]=_;rw[hs,e]);simp only[QtL,if_true];exact hh
end
theorem QlV:∀{a b:List (Int×Int)},dkV a=dkV b->a=b
 |[],[],_=>rfl
 |[],_::_,h=>by cases h
 |_::_,[],h=>by cases h
 |p::a,q::b,h=>by
  have h:=QmR (show(QbT p.1,V.int p.2)::dkV a=(QbT q.1,V.int q.2)::dkV b from h);have h1:=QaI h.1;rw[QlV h.2,Prod.ext (QtR h1.1) (V.int.inj h1.2)]
mutual
theorem QlZ{A B:Addr->Prop}{H:Hp}:∀(d d':PyData)(x:V),DA A H x d->DA B H x d'->d=d'
 |.none,d',_,.non,h=>by cases h;rfl
 |.bool _,d',_,.bl _,h=>by cases h;rfl
 |.int _,d',_,.int _,h=>by cases h;rfl
 |.str _,d',_,.str _ _,h=>by cases h;rfl
 |.tuple ds,d',_,.tup (xs:=xs) n e q,h=>by
  cases h with
  |@tup a ys es n' e' q'=>
   rw[e] at e';cases e';rw[Qfn ds es xs q q']
  |@lst a ys es n' e' q'=>rw[e] at e';cases e'
  |@dct a kvs' ds' n' e' q'=>rw[e] at e';cases e'
 |.list ds,d',_,.lst (xs:=xs) n e q,h=>by
  cases h with
  |@tup a ys es n' e' q'=>rw[e] at e';cases e'
  |@lst a ys es n' e' q'=>
   rw[e] at e';cases e';rw[Qfn ds es xs q q']
  |@dct a kvs' ds' n' e' q'=>rw[e] at e';cases e'
 |.dict _,d',_,.dct (kvs:=kvs) n e q,h=>by
  cases h with
  |@tup a ys es n' e' q'=>rw[e] at e';cases e'
  |@lst a ys es n' e' q'=>rw[e] at e';cases e'
  |@dct a kvs' ds' n' e' q'=>
   rw[e] at e';rw[q,q',QlV (HO.dK.inj (Qr e'))]
theorem Qfn{A B:Addr->Prop}{H:Hp}:∀(ds es:List PyData)(xs:List V),DAs A H xs ds->DAs B H xs es->ds=es
 |[],es,_,.nil,h=>by cases h;rfl
 |d::ds,es,_,.cons q qs,h=>by
  cases h with
  |@cons x xs e es q' qs'=>rw[QlZ d e _ q q',Qfn ds es _ qs qs']
end
mutual
theorem QvZ{A:Addr->Prop}{H:Hp}{l:Addr}{rs:List PyData}(root:DA A H (.ref l) (.list rs)):∀(d:PyData)(x:V),sizeOf d<sizeOf (Qb8 rs)->DA A H x d->DA (λa=>A a∨a=l) H x d
 |.none,_,_,.non=>.non
 |.bool _,_,_,.bl _=>.bl _
 |.int _,_,_,.int _=>.int _
 |.str _,_,_,.str _ c=>.str _ c
 |.tuple ds,_,hs,.tup (a:=a) (xs:=xs) n e q=>.tup (λz=>z.elim n λz=>by subst z;cases root with | @lst _ ys _ n' e' q'=>(rw[e] at e';cases e')) e (Qfo root ds xs (by simp at hs ⊢;omega) q)
 |.list ds,_,hs,.lst (a:=a) (xs:=xs) n e q=>.lst (λz=>z.elim n λz=>by
   subst z;have:=QlZ _ _ _ root (.lst n e q);rw[this] at hs;omega) e (Qfo root ds xs (by simp at hs ⊢;omega) q)
 |.dict _,_,hs,.dct (a:=a) n e q=>.dct (λz=>z.elim n λz=>by subst z;cases root with | @lst _ ys _ n' e' q'=>(rw[e] at e';cases e')) e q
theorem Qfo{A:Addr->Prop}{H:Hp}{l:Addr}{rs:List PyData}(root:DA A H (.ref l) (.list rs)):∀(ds:List PyData)(xs:List V),sizeOf ds<sizeOf (Qb8 rs)->DAs A H xs ds->DAs (λa=>A a∨a=l) H xs ds
 |[],_,_,.nil=>.nil
 |d::ds,_,hs,.cons q qs=>.cons (QvZ root d _ (by simp at hs ⊢;omega) q) (Qfo root ds _ (by simp at hs ⊢;omega) qs)
end
theorem DA.items{A:Addr->Prop}{H:Hp}{l:Addr}{ds:List PyData}(root:DA A H (.ref l) (.list ds)):∃xs,H l=some (.lst xs)/\DAs (λa=>A a∨a=l) H xs ds:=by
 have root':=root;cases root with
 |@lst _ xs _ n e q=>exact⟨xs,e,Qfo root' ds xs (by simp) q⟩
structure QdS where
 nx:Sts->Prop
 rt:PyData->Prop
 rtF:PyData->Prop
 bk:Sts->Prop
 ct:Sts->Prop
 ex:XP
abbrev DS:=QdS->Sts->Prop
structure Nx (K:PySem.W.Frag) (F:Fm) (σ:L2.St) (H:Hp) (δ:Sts) (R:Sts->Prop) (T:L2.St->Hp->Prop):Prop where
 go:∀δ',R δ'->∀σ' H',Rel K F σ' H' δ'->Stp F σ H δ σ' H' δ'->T σ' H'
structure Ends1 (K:PySem.W.Frag) (E:XK) (F:Fm) (σ:L2.St) (H:Hp) (δ:Sts) (DD:QdS) (D:Ends):Prop where
 nx:Nx K F σ H δ DD.nx D.nx
 rt:∀d,DD.rt d->∀v H',Ke F H'->DA F.A0 H' v d->D.rt v H'
 rtF:∀d,DD.rtF d->∀v H',Ke F H'->DA F.A0 H' v d->FrV F.H0 H' v->D.rt v H'
 bk:Nx K F σ H δ DD.bk D.bk
 ct:Nx K F σ H δ DD.ct D.ct
 ex:Out F E DD.ex
def tS(K:PySem.W.Frag)(E:XK)(w:DS):TS:=λD σ H=>∃(F:Fm)(δ:Sts)(DD:QdS),Rel K F σ H δ/\w DD δ/\Ends1 K E F σ H δ DD D
theorem Nx.step{K:PySem.W.Frag}{F:Fm}{σ σ1:L2.St}{H H1:Hp}{δ δ1:Sts}{R:Sts->Prop}{T:L2.St->Hp->Prop}(h:Nx K F σ H δ R T)(s:Stp F σ H δ σ1 H1 δ1):Nx K F σ1 H1 δ1 R T:=⟨λδ' hR σ' H' r st=>h.go δ' hR σ' H' r (s.trans st)⟩
theorem Ends1.step{K:PySem.W.Frag}{E:XK}{F:Fm}{σ σ1:L2.St}{H H1:Hp}{δ δ1:Sts}{DD:QdS}{D:Ends}(h:Ends1 K E F σ H δ DD D)(s:Stp F σ H δ σ1 H1 δ1):Ends1 K E F σ1 H1 δ1 DD D:=⟨h.nx.step s,h.rt,h.rtF,h.bk.step s,h.ct.step s,h.ex⟩
section
variable{X:Cx}{E:XK}
theorem PS.imp{e:ZK}{t t':TS}(h:PS X e t)(i:∀D σ H,t' D σ H->t D σ H):PS X e t':=λpins s σ H D I q=>h pins s σ H D I (i D σ H q)
theorem PSs.imp{e:List ZK}{t t':TS}(h:PSs X e t)(i:∀D σ H,t' D σ H->t D σ H):PSs X e t':=λpins s σ H D I q=>h pins s σ H D I (i D σ H q)
def QyZ(a b:DS):DS:=λD δ=>a { D with nx:=b D } δ
def Qv1:DS:=λD δ=>D.nx δ
theorem QnI:PSs X [] (tS X.K E Qv1):=PSs.imp Qg5 λD σ H ⟨F,δ,DD,rel,hw,en⟩=>en.nx.go δ hw σ H rel Stp.refl
theorem Qr9{st:ZK}{w:DS}(h:PS X st (tS X.K E w)):PSs X [st] (tS X.K E w):=QbH h
theorem QnO{st:ZK}{rest:List ZK}{w w':DS}(h:PS X st (tS X.K E w))(h':PSs X rest (tS X.K E w')):PSs X (st::rest) (tS X.K E (QyZ w w')):=by
 refine PSs.imp (YZ h h') λD σ H ⟨F,δ,DD,rel,hw,en⟩=>?_
 exact⟨F,δ,_,rel,hw,⟨λδ' h' σ' H' r st=>⟨F,δ',DD,r,h',en.step st⟩⟩,en.rt,en.rtF,en.bk,en.ct,en.ex⟩
def QwM(i:Nat)(we:DE):DS:=λD δ=>we δ (λd=>D.nx (δ.set i (.v d))) D.ex
def Qtd(i:Nat)(we:DE):DS:=λD δ=>we δ (λd=>match d with
 |.list ds=>D.nx (δ.set i (.own ds))
 |_=>False) D.ex
def Qv2(i:Nat)(we:DE):DS:=λD δ=>we δ (λd=>match d with
 |.list [.int _]=>D.nx (δ.set i .pot)
 |_=>False) D.ex
variable{i:Nat}{e:QV}{st:ZK}{we wi:DE}
theorem Qha(h:PS X st (Qm7 (tX .D X.K E we) (Qfm i))):PS X st (tS X.K E (QwM i we)):=by
 refine PS.imp h λD σ H ⟨F,δ,DD,rel,hw,en⟩=>?_
 refine⟨F,δ,_,DD.ex,rel,hw,λd hd v H' rel' kp vk=>?_,en.ex⟩;exact en.nx.go _ hd _ H' (rel'.setv vk) ((Stp.kp kp).trans Stp.setv)
theorem QpO{F:Fm}{σ:L2.St}{δ:Sts}{i:Nat}{l:Addr}{x:Sl}{a:Addr}(h:Av F (σ.set i (some (.ref l))) (δ.set i x) a):Av F σ δ a∨a=l:=by
 rcases h with h | ⟨j,h1,h2⟩
 ·exact .inl (.inl h)
 ·by_cases z:j=i
  ·subst z;cases set_eq h1;exact .inr rfl
  ·rw[YV z] at h1 h2;exact .inl (.inr ⟨j,h1,h2⟩)
theorem Rel.seto{K:PySem.W.Frag}{F:Fm}{σ:L2.St}{H H':Hp}{δ:Sts}{l:Addr}{x:Sl}(r:Rel K F σ H δ)(r':Rel K F σ H' δ)(kp:Kp σ δ H H')(n:H l=none)(hx:∀A:Addr->Prop,(∀a,A a->Av F σ δ a∨H a=none)->(∀a,A a->Av F σ δ a∨a=l)->Qzd K F H' A (some (.ref l)) x) :
  Rel K F (σ.set i (some (.ref l))) H' (δ.set i x)/\Stp F σ H δ (σ.set i (some (.ref l))) H' (δ.set i x):=by
 have nA:∀a,Av F (σ.set i (some (.ref l))) (δ.set i x) a->Av F σ δ a∨H a=none:=λa z=>(QpO z).elim .inl λz=>.inr (by rw[z];exact n)
 have kk:∀a o,¬Av F σ δ a->H a=some o->H' a=some o:=λa o m e=>kp.1 a o (λz=>m (YE z)) e
 refine⟨?_,⟨kk,nA⟩⟩;exact{
  len:=by rw[ZN,ZN];exact r.len
  dom:=r'.dom
  dom0:=r'.dom0
  pt0:=r'.pt0
  kx:=r'.kx
  sl:=λj o y h1 h2=>by
   by_cases z:j=i
   ·subst z;cases set_eq h1;cases set_eq h2;exact hx _ nA λa z=>QpO z
   ·rw[YV z] at h1 h2;have h:=r.sl j o y h1 h2;have h':=r'.sl j o y h1 h2;cases y with
    |no=>trivial
    |v d=>obtain⟨v',e,q'⟩:=h;exact⟨v',e,q'.mv kk nA⟩
    |own ds=>obtain⟨l',xs,rfl,e2,q',f⟩:=h;exact⟨l',xs,rfl,kp.1 _ _ (r.own_pot h2 h1) e2,q'.mv kk nA,f⟩
    |pk ds=>
     obtain⟨l',xs,rfl,e2,q',ys,f,f2⟩:=h;refine⟨l',xs,rfl,kp.1 _ _ ?_ e2,q'.mv kk nA,ys,f,f2⟩;rintro⟨j,j1,j2⟩;obtain⟨p,m,e1,_,w⟩:=r.sl j _ _ j1 j2;cases e1;rcases w with w | w
     ·exact f2 w
     ·rw[w] at f;cases f
    |pot=>exact h'
    |scr=>exact h'
  inj:=λj k a ds h1 h2 ⟨h3,h4⟩=>by
   have ne:∀(k:Nat),k≠i->σ[k]? = some (some (.ref l))->(δ[k]? = some .pot∨∃ds,δ[k]? = some (.own ds))->False:=λk _ h3 h4=>by
    obtain⟨xs,e⟩:=r.isl (a:=l) (.inr ⟨k,h3,h4⟩);rw[n] at e;cases e
   by_cases z:j=i
   ·subst z;cases set_eq h2;by_cases z2:k=j
    ·exact z2.symm
    ·rw[YV z2] at h3 h4;exact(ne k z2 h3 h4).elim
   ·rw[YV z] at h1 h2;by_cases z2:k=i
    ·subst z2;cases set_eq h3;exact(ne j z h2 (.inr ⟨ds,h1⟩)).elim
    ·rw[YV z2] at h3 h4;exact r.inj j k a ds h1 h2 ⟨h3,h4⟩ }
theorem QlM{K:PySem.W.Frag}{F:Fm}{σ:L2.St}{H:Hp}{δ:Sts}(r:Rel K F σ H δ){l:Addr}(n:H l=none):F.H0 l=none:=by
 cases e:F.H0 l with
 |none=>rfl
 |some o=>
  by_cases z:F.pt l
  ·obtain⟨_,m,e'⟩:=r.pt0 l z;rw[n] at e';cases e'
  ·rw[r.kx l o z e] at n;cases n
theorem Qib(h:PS X st (Qm7 (tX .F X.K E we) (Qfm i))):PS X st (tS X.K E (Qtd i we)):=by
 refine PS.imp h λD σ H ⟨F,δ,DD,rel,hw,en⟩=>?_
 refine⟨F,δ,_,DD.ex,rel,hw,λd hd v H' rel' kp ⟨vk,fr⟩=>?_,en.ex⟩;obtain⟨ds,rfl⟩:∃ds,d=.list ds:=by cases d<;>first | exact⟨_,rfl⟩ | exact(show False from hd).elim
 obtain⟨l,rfl⟩:∃l,v=.ref l:=by cases vk;exact⟨_,rfl⟩
 obtain⟨xs,e,q⟩:=DA.items vk;have n:=fr l rfl ⟨xs,e⟩;obtain⟨r2,st⟩:=rel.seto (i:=i) (x:=.own ds) rel' kp n λA hA hB=>⟨l,xs,rfl,e,q.mv (λ_ _ _ e=>e) λa z=>.inl (hB a z),QlM rel n⟩
 exact en.nx.go _ hd _ H' r2 st
theorem QnJ(h:PS X st (Qm7 (tX .F X.K E we) (Qfm i))):PS X st (tS X.K E (Qv2 i we)):=by
 refine PS.imp h λD σ H ⟨F,δ,DD,rel,hw,en⟩=>?_
 refine⟨F,δ,_,DD.ex,rel,hw,λd hd v H' rel' kp ⟨vk,fr⟩=>?_,en.ex⟩;split at hd
 ·cases vk with
  |@lst l xs ds na e q=>
   have n:=fr l rfl ⟨xs,e⟩;cases q with
   |cons q1 q2=>
    cases q1;cases q2;obtain⟨r2,st⟩:=rel.seto (i:=i) (x:=.pot) rel' kp n λA hA hB=>⟨l,_,rfl,e,.inr (QlM rel n)⟩
    exact en.nx.go _ hd _ H' r2 st
 ·exact hd.elim
def Qzb(we:DE)(wg:DG):DS:=λD δ=>we δ (λd=>wg d δ D.nx) D.ex
theorem Qsd{ix:List Nat}{wg:DG}(h:PS X st (Qm7 (tX .D X.K E we) (tG ix X.K wg))):PS X st (tS X.K E (Qzb we wg)):=by
 refine PS.imp h λD σ H ⟨F,δ,DD,rel,hw,en⟩=>?_
 refine⟨F,δ,_,DD.ex,rel,hw,λd hd v H' rel' kp vk=>?_,en.ex⟩;exact⟨F,δ,d,_,rel',vk,hd,λδ' h' σ' r' st' _ _=>en.nx.go _ h' _ H' r' ((Stp.kp kp).trans st')⟩
def Qy0(we:DE):DS:=λD δ=>we δ D.rt D.ex
def Qv4(we:DE):DS:=λD δ=>we δ D.rtF D.ex
theorem Qtc{F:Fm}{σ:L2.St}{δ:Sts}{H:Hp}{v:V}{d:PyData}(h:DA (Av F σ δ) H v d):DA F.A0 H v d:=h.mv (λ_ _ _ e=>e) λa z=>.inl (.inl z)
theorem Qr6{e:QV}{pos:Pos}(h:PE X e (tX .D X.K E we)):PS X (.Return (some e) pos) (tS X.K E (Qy0 we)):=by
 refine PS.imp (QcR h) λD σ H ⟨F,δ,DD,rel,hw,en⟩=>?_
 exact⟨F,δ,_,DD.ex,rel,hw,λd hd v H' rel' kp vk=>en.rt d hd v H' rel'.ke (Qtc vk),en.ex⟩
theorem QnL{e:QV}{pos:Pos}(h:PE X e (tX .F X.K E we)):PS X (.Return (some e) pos) (tS X.K E (Qv4 we)):=by
 refine PS.imp (QcR h) λD σ H ⟨F,δ,DD,rel,hw,en⟩=>?_
 exact⟨F,δ,_,DD.ex,rel,hw,λd hd v H' rel' kp vk=>en.rtF d hd v H' rel'.ke (Qtc vk.1) λl e1 e2=>QlM rel (vk.2 l e1 e2),en.ex⟩
def Qte(i:Nat):DS:=λD δ=>match δ[i]? with
 |some (.own ds)=>D.rtF (.list ds)
 |some (.v d)=>D.rt d
 |_=>False
theorem QnK{e:QV}{pos:Pos}(h:PE X e (Qj8 i)):PS X (.Return (some e) pos) (tS X.K E (Qte i)):=by
 refine PS.imp (QcR h) λD σ H ⟨F,δ,DD,rel,hw,en⟩=>?_
 unfold Qte at hw;split at hw
 ·rename_i ds hd
  obtain⟨x,hx⟩:=rel.lt hd;obtain⟨l,xs,rfl,e,q,f⟩:=rel.sl i _ _ hx hd;refine⟨_,hx,en.rtF _ hw _ H rel.ke (.lst (λz=>?_) e (q.mv (λ_ _ _ e=>e) λa z=>.inl (.inl z))) λl' e1 _=>by cases e1;exact f⟩;obtain⟨ys,e'⟩:=rel.dom0 l z;rw[f] at e';cases e'
 ·rename_i d hd
  obtain⟨x,hx⟩:=rel.lt hd;obtain⟨v,rfl,q⟩:=rel.sl i _ _ hx hd;exact⟨v,hx,en.rt _ hw _ H rel.ke (Qtc q)⟩
 ·exact hw.elim
def dIf(t:DT)(a b:DS):DS:=λD δ=>t δ (λc=>if c=true then a D δ else b D δ) D.ex
theorem QuS{c:QV}{a b:List ZK}{pos:Pos}{t:DT}{w w':DS}(hc:PT X c (tT X.K E t))(ha:PSs X a (tS X.K E w))(hb:PSs X b (tS X.K E w')):PS X (.If c a b pos) (tS X.K E (dIf t w w')):=by
 refine PS.imp (QrM hc ha hb) λD σ H ⟨F,δ,DD,rel,hw,en⟩=>?_
 exact⟨F,δ,_,DD.ex,rel,hw,λb hb H' rel' kp=>Qby hb (λz=>⟨F,δ,DD,rel',z,en.step (Stp.kp kp)⟩) λz=>⟨F,δ,DD,rel',z,en.step (Stp.kp kp)⟩,en.ex⟩
theorem QkS{sts:List ZK}:PSs X sts (tS X.K E λ_ _=>False):=λpins s σ H D I ⟨F,δ,DD,rel,hw,en⟩=>hw.elim
def Qyj(i:Nat)(rD:PyData->PyData->(PyData->Prop)->Prop)(we:DE):DS:=λD δ=>match δ[i]? with
 |some (.v d)=>we δ (λe=>rD d e (λz=>D.nx (δ.set i (.v z)))) D.ex
 |_=>False
theorem Qsc{r:TIp}{rD:PyData->PyData->(PyData->Prop)->Prop}(hd:QmH r rD)(h:PS X st (Qyu i (tX .P X.K E we) (λx y H Q=>QbM H->r x y H Q))):PS X st (tS X.K E (Qyj i rD we)):=by
 refine PS.imp h λD σ H ⟨F,δ,DD,rel,hw,en⟩=>?_
 unfold Qyj at hw;split at hw
 ·rename_i d hd'
  obtain⟨x,hx⟩:=rel.lt hd';obtain⟨v,rfl,q⟩:=rel.sl i _ _ hx hd';refine⟨v,hx,F,δ,_,DD.ex,rel,hw,λe he y H' rel' kp yk ln=>?_,en.ex⟩;refine hd (Av F σ δ) (ZY σ δ) H' v y d e _ _ ln (λa ha=>rel'.isl ha) (.inl (kp.da q)) yk he λz hz u H2 s du=>?_
  exact en.nx.go _ hz _ H2 ((rel'.same s).setv du) (((Stp.kp kp).trans (Stp.kp (Kp.same rel' s))).trans Stp.setv)
 ·exact hw.elim
theorem Qle{g:Int->Int->Int}:QmH (ipI g) (ii0 λi j=>.int (g i j)):=λA P H x y d1 d2 R Q ln dm hx hy h k=>by
 cases d1<;>cases d2<;>first | exact h.elim | skip
 rw[hx.int,hy.int];exact⟨_,_,rfl,rfl,k _ h _ H (Same.refl H) (.int _)⟩
theorem QsE:QmH (rI CMul λi j=>.int (i*j)) (iiD CMul λi j=>.int (i*j)):=λA P H x y d1 d2 R Q ln dm hx hy h k=>by
 cases d1<;>cases d2<;>first | exact h.elim | skip
 rw[hx.int,hy.int];exact⟨_,_,rfl,rfl,h.1,k _ h.2 _ H (Same.refl H) (.int _)⟩
theorem PIp.len{op:Qa7}{t:TIp}(h:PIp X op t):PIp X op (λx y H Q=>QbM H->t x y H Q):=λpins s σ H x y v u Q I rx ry q=>h pins s σ H x y v u Q I rx ry (q (Inv.lens I))
theorem Rel.mut{K:PySem.W.Frag}{F:Fm}{σ:L2.St}{H:Hp}{δ:Sts}(r:Rel K F σ H δ){l:Addr}{ds ds':List PyData}{ys:List V}(h:δ[i]? = some (.own ds))(hx:σ[i]? = some (some (.ref l)))(q:DAs (Av F σ δ) H ys ds') :
  Rel K F σ (upd H l (.lst ys)) (δ.set i (.own ds'))/\Stp F σ H δ σ (upd H l (.lst ys)) (δ.set i (.own ds')):=by
 have hl:Av F σ δ l:=.inr ⟨i,hx,.inr ⟨ds,h⟩⟩;obtain⟨l',xs0,e0,el,_,f⟩:=r.sl i _ _ hx h;cases e0;have lt:i < δ.length:=(Qs.mp h).1;have ge:(δ.set i (.own ds'))[i]? = some (.own ds'):=by rw[Qbu lt]
 have kk:∀a o,¬Av F σ δ a->H a=some o->upd H l (.lst ys) a=some o:=λa o n e=>by rw[Jq (λz=>n (by rw[z];exact hl))];exact e
 have av:∀a,Av F σ (δ.set i (.own ds')) a->Av F σ δ a:=λa z=>by
  rcases z with z | ⟨j,h1,h2⟩
  ·exact .inl z
  ·by_cases z:j=i
   ·subst z;exact .inr ⟨j,h1,.inr ⟨ds,h⟩⟩
   ·rw[YV z] at h2;exact .inr ⟨j,h1,h2⟩
 have up:∀{b:Addr}{o:HO},b≠l->H b=some o->upd H l (.lst ys) b=some o:=λn e=>by rw[Jq n];exact e
 refine⟨?_,⟨kk,λa z=>.inl (av a z)⟩⟩;exact{
  len:=by rw[ZN];exact r.len
  dom:=λa ha=>by
   by_cases z:a=l
   ·rw[z];exact⟨_,Ju⟩
   ·obtain⟨xs,e⟩:=r.dom a ha;exact⟨xs,up z e⟩
  dom0:=r.dom0
  pt0:=λp hp=>by
   obtain⟨h1,n,e⟩:=r.pt0 p hp;refine⟨h1,n,up (λz=>?_) e⟩;obtain⟨xs,e'⟩:=r.dom0 p h1;rw[z,f] at e';cases e'
  kx:=λb o n e=>up (λz=>by rw[z,f] at e;cases e) (r.kx b o n e)
  sl:=λj o y h1 h2=>by
   by_cases z:j=i
   ·subst z;rw[ge] at h2;cases h2;rw[hx] at h1;cases h1;exact⟨l,ys,rfl,Ju,q.mv kk λa z=>.inl (av a z),f⟩
   ·rw[YV z] at h2;have hh:=r.sl j o y h1 h2;cases y with
    |no=>trivial
    |v d=>obtain⟨v',e,q'⟩:=hh;exact⟨v',e,q'.mv kk λa z=>.inl (av a z)⟩
    |own es=>
     obtain⟨l',xs,rfl,e2,q',f'⟩:=hh;exact⟨l',xs,rfl,up (λz2=>z (r.inj j i l' es h2 h1 ⟨by rw[z2];exact hx,.inr ⟨ds,h⟩⟩)) e2,q'.mv kk λa z=>.inl (av a z),f'⟩
    |pk es=>
     obtain⟨l',xs,rfl,e2,q',ys',f',f2⟩:=hh;exact⟨l',xs,rfl,up (λz2=>by rw[z2,f] at f';cases f') e2,q'.mv kk λa z=>.inl (av a z),ys',f',f2⟩
    |pot=>
     obtain⟨p,n,rfl,e2,w⟩:=hh;refine⟨p,n,rfl,up (λz2=>?_) e2,w⟩;subst z2;exact r.own_pot h hx ⟨j,h1,h2⟩
    |scr=>exact hh
  inj:=λj k a es h1 h2 ⟨h3,h4⟩=>by
   have h4':δ[k]? = some .pot∨∃ds,δ[k]? = some (.own ds):=by
    by_cases z:k=i
    ·subst z;exact .inr ⟨ds,h⟩
    ·rw[YV z] at h4;exact h4
   by_cases z:j=i
   ·subst z;exact r.inj j k a ds h h2 ⟨h3,h4'⟩
   ·rw[YV z] at h1;exact r.inj j k a es h1 h2 ⟨h3,h4'⟩ }
def dApp(i:Nat)(we:DE):DS:=λD δ=>match δ[i]? with
 |some (.own ds)=>we δ (λd=>ds.length<1000000/\D.nx (δ.set i (.own (ds++[d])))) D.ex
 |_=>False
def Qy1(i:Nat)(wi we:DE):DS:=λD δ=>we δ (λd=>match δ[i]? with
 |some (.own ds)=>wi δ (λz=>match z with
  |.int k=>∃j,ixN ds.length k=some j/\D.nx (δ.set i (.own (ds.set j d)))
  |_=>False) D.ex
 |_=>False) D.ex
theorem Qr7(h:PS X st (Qm7 (tX .D X.K E we) (gSub (Qj8 i) (tX .P X.K E wi) QrA))):PS X st (tS X.K E (Qy1 i wi we)):=by
 refine PS.imp h λD σ H ⟨F,δ,DD,rel,hw,en⟩=>?_
 refine⟨F,δ,_,DD.ex,rel,hw,λd hd v H1 rel1 kp1 vk=>?_,en.ex⟩;split at hd
 ·rename_i ds hds
  obtain⟨x,hx⟩:=rel1.lt hds;obtain⟨l,xs,rfl,e,q,f⟩:=rel1.sl i _ _ hx hds;have np:=rel1.own_pot hds hx;refine⟨.ref l,hx,F,δ,_,DD.ex,rel1,hd,λz hz y H2 rel2 kp2 yk=>?_,en.ex⟩;cases z<;>first | exact(show False from hz).elim | skip
  obtain⟨j,hj,hn⟩:=hz;refine⟨l,xs,_,j,rfl,DP.int yk,kp2.1 _ _ np e,by rw[q.length];exact hj,?_⟩;obtain⟨r2,st⟩:=rel2.mut hds hx ((kp2.das q).set (kp2.da vk) j);exact en.nx.go _ hn _ _ r2 (((Stp.kp kp1).trans (Stp.kp kp2)).trans st)
 ·exact hd.elim
def Qtj(i:Nat)(rD:PyData->PyData->(PyData->Prop)->Prop)(wi we:DE):DS:=λD δ=>match δ[i]? with
 |some (.own ds)=>wi δ (λz=>match z with
  |.int k=>∃j a,ixN ds.length k=some j/\ds[j]? = some a/\we δ (λe=>rD a e λb=>D.nx (δ.set i (.own (ds.set j b)))) D.ex
  |_=>False) D.ex
 |_=>False
theorem QnP{r:TIp}{rD:PyData->PyData->(PyData->Prop)->Prop}(hd:QmH r rD)(h:PS X st (Qud (Qj8 i) (tX .P X.K E wi) (tX .P X.K E we) (QwF X.K) (λx y H Q=>QbM H->r x y H Q) QrA)):PS X st (tS X.K E (Qtj i rD wi we)):=by
 refine PS.imp h λD σ H ⟨F,δ,DD,rel,hw,en⟩=>?_
 unfold Qtj at hw;split at hw
 ·rename_i ds hds
  obtain⟨x,hx⟩:=rel.lt hds;obtain⟨l,xs,rfl,e,q,f⟩:=rel.sl i _ _ hx hds;have np:=rel.own_pot hds hx;refine⟨.ref l,hx,F,δ,_,DD.ex,rel,hw,λz hz y H1 rel1 kp1 yk=>?_,en.ex⟩;cases z<;>first | exact(show False from hz).elim | skip
  obtain⟨j,a,hj,ha,hn⟩:=hz;have q1:=kp1.das q;obtain⟨va,hva,da⟩:=q1.get j a ha;rw[DP.int yk];refine⟨l,xs,_,va,rfl,rfl,SqL.of (kp1.1 _ _ np e),by unfold atI;rw[q.length,hj];exact hva,F,δ,_,DD.ex,rel1,hn,λb hb u H2 rel2 kp2 uk ln=>?_,en.ex⟩;refine hd (Av F σ δ) (ZY σ δ) H2 va u a b _ _ ln (λa ha=>rel2.isl ha) (.inl (kp2.da da)) uk hb λc hc w H3 s dw=>?_
  have r3:=rel2.same s;have k3:=kp2.trans (Kp.same rel2 s);refine⟨l,xs,_,j,rfl,rfl,k3.1 _ _ np (kp1.1 _ _ np e),by rw[q.length];exact hj,?_⟩;obtain⟨r4,st⟩:=r3.mut hds hx ((k3.das q1).set dw j);exact en.nx.go _ hc _ _ r4 (((Stp.kp kp1).trans (Stp.kp k3)).trans st)
 ·exact hw.elim
@[irreducible] def QtO(items:List PyData)(wg:DG)(wb:DS)(D:QdS)(δ:Sts):Prop:=∃Iv:Nat->Sts->Prop,Iv 0 δ/\(∀(i:Nat) d δ,items[i]? = some d->Iv i δ->wg d δ λδ2=>wb { D with nx:=Iv (i+1),ct:=Iv (i+1),bk:=D.nx } δ2)/\∀δ,Iv items.length δ->D.nx δ
def dFor(wi:DI)(wg:DG)(wb:DS):DS:=λD δ=>wi δ (λitems=>QtO items wg wb D δ) D.ex
theorem Qsb{tg iter:QV}{body:List ZK}{pos:Pos}{ix:List Nat}{wi:DI}{wg:DG}{wb:DS}(hp:QeL (model X.prog X.w) X.A X.env X.xe)(hc:X.calm=true)(hi:PI X tg iter (tI .D X.K E wi))(hg:PG X tg (tG ix X.K wg))(hb:PSs X body (tS X.K E wb))
  (hs:∀x,foldedSetIterable iter X.env x=pure x:=by intro _;rfl):PS X (.For tg iter body [] pos) (tS X.K E (dFor wi wg wb)):=by
 refine PS.imp (Qpe hp hc hi hg hb hs) λD σ H ⟨F,δ,DD,rel,hw,en⟩=>?_
 refine⟨F,δ,_,DD.ex,rel,hw,λitems hC J H1 rel1 kp1 ⟨ln,it⟩=>?_,en.ex⟩;unfold QtO at hC;obtain⟨Iv,i0,step,fin⟩:=hC;have en1:=en.step (Stp.kp (F:=F) kp1);refine⟨λi m σ' H'=>m=items.length - i/\i<=items.length/\∃δ',Iv i δ'/\Rel X.K F σ' H' δ'/\Stp F σ H1 δ σ' H' δ',⟨_,rfl,Jm _,δ,i0,rel1,Stp.refl⟩,?_⟩;rintro i m σ' H' ⟨rfl,hi',δ',iv,r',st'⟩;obtain⟨go,stop⟩:=it H' (Av F σ' δ') st'.1 st'.2 λa ha=>r'.isl ha
 by_cases hlt:i<items.length
 ·have hd:items[i]? = some items[i]:=Qg hlt;obtain⟨g1,g2⟩:=go i _ hd;refine .inr ⟨g1,λσ2 H2=>∃δ2,Iv (i+1) δ2/\Rel X.K F σ2 H2 δ2/\Stp F σ H1 δ σ2 H2 δ2,λσ2 H2 ⟨δ2,h2,r2,s2⟩=>⟨_,by omega,rfl,hlt,δ2,h2,r2,s2⟩,λx H3 y=>?_⟩;obtain⟨s3,dx⟩:=g2 x H3 y;have r3:=r'.same s3;have st3:Stp F σ H1 δ σ' H3 δ':=st'.trans (Stp.kp (Kp.same r' s3));refine⟨F,δ',_,_,r3,dx,step i _ δ' hd iv,λδ4 h4 σ4 r4 st4 _ _=>⟨F,δ4,_,r4,h4,?_⟩⟩;have st5:=st3.trans st4;exact⟨⟨λδ6 h6 σ6 H6 r6 s6=>⟨δ6,h6,r6,st5.trans s6⟩⟩,en.rt,en.rtF,(en1.step st5).nx,⟨λδ6 h6 σ6 H6 r6 s6=>⟨δ6,h6,r6,st5.trans s6⟩⟩,en.ex⟩
 ·have e:i=items.length:=by omega
  subst e;exact .inl ⟨stop,(en1.step st').nx.go δ' (fin δ' iv) σ' H' r' Stp.refl⟩
theorem QcA{lo:Int}{n:Nat}{wg:DG}{wb:DS}{D:QdS}{δ:Sts}(Iv:Nat->Sts->Prop)(h0:Iv 0 δ)
  (hs:∀(i:Nat) δ,i<n->Iv i δ->wg (.int (lo+i)) δ λδ2=>wb { D with nx:=Iv (i+1),ct:=Iv (i+1),bk:=D.nx } δ2)(hd:∀δ,Iv n δ->D.nx δ):QtO (Qnl lo n) wg wb D δ:=by
 unfold QtO;exact⟨Iv,h0,λi d δ hd iv=>by obtain⟨hi,rfl⟩:=QgY hd;exact hs i δ hi iv,λδ iv=>hd δ (by rw[QgX] at iv;exact iv)⟩
theorem Zq{items:List PyData}{wg:DG}{wb:DS}{D:QdS}{δ:Sts}(Iv:Nat->Sts->Prop)(h0:Iv 0 δ)
  (hs:∀(i:Nat) d δ,items[i]? = some d->Iv i δ->wg d δ λδ2=>wb { D with nx:=Iv (i+1),ct:=Iv (i+1),bk:=D.nx } δ2)(hd:∀δ,Iv items.length δ->D.nx δ):QtO items wg wb D δ:=by
 unfold QtO;exact⟨Iv,h0,hs,hd⟩
def Qv7(we:DE):DS:=λD δ=>we δ (λ_=>D.nx δ) D.ex
theorem QnN(h:PS X st (Qri (tX .P X.K E we))):PS X st (tS X.K E (Qv7 we)):=by
 refine PS.imp h λD σ H ⟨F,δ,DD,rel,hw,en⟩=>?_
 exact⟨F,δ,_,DD.ex,rel,hw,λd hd v H' rel' kp vk=>en.nx.go δ hd σ H' rel' (Stp.kp kp),en.ex⟩
end
def stD(N:List Str)(args:List Sl):Sts:=args++QJ (N.length - args.length) .no
theorem Qel{α β:Type}{R:α->β->Prop}:∀{xs:List α}{ys:List β},Qac R xs ys->∀(i:Nat) x y,xs[i]? = some x->ys[i]? = some y->R x y
 |_,_,.nil,i,x,y,h,_=>by simp at h
 |_,_,.cons a b,0,x,y,h,h'=>by simp at h h';subst h h';exact a
 |_,_,.cons a b,i+1,x,y,h,h'=>Qel b i x y (by simpa using h) (by simpa using h')
theorem Qdm{K:PySem.W.Frag}{N:List Str}{A pt:Addr->Prop}{H:Hp}{vs:List V}{args:List Sl}(dm:∀a,A a->∃xs,H a=some (.lst xs))(hp:∀p,pt p->A p/\∃n,H p=some (.lst [.int n]))(q:Qac (QhD A pt H) vs args):Rel K ⟨H,A,pt⟩ (L2.start N vs) H (stD N args):=by
 have hl:vs.length=args.length:=q.length;have no:∀(i:Nat) x,(stD N args)[i]? = some x->(i<args.length/\args[i]? = some x)∨x=.no:=λi x h=>by
  unfold stD at h;by_cases z:i<args.length
  ·rw[ZG z] at h;exact .inl ⟨z,h⟩
  ·rw[ZA (by omega),Zr] at h;split at h
   ·exact .inr (Qr h).symm
   ·cases h
 have arg:∀(i:Nat) o x,(L2.start N vs)[i]? = some o->(stD N args)[i]? = some x->x≠.no->∃v,o=some v/\QhD A pt H v x:=λi o x h1 h2 hx=>by
  rcases no i x h2 with⟨z,e⟩ | e
  ·unfold L2.start at h1;rw[ZG (by rw[Qe];omega),Qh] at h1;obtain⟨v,hv,rfl⟩:=J6.mp h1;exact⟨v,rfl,Qel q i v x hv e⟩
  ·exact absurd e hx
 have av:∀a,Av ⟨H,A,pt⟩ (L2.start N vs) (stD N args) a->A a:=λa z=>by
  rcases z with z | ⟨i,h1,h2⟩
  ·exact z
  ·rcases h2 with h2 | ⟨ds,h2⟩
   ·obtain⟨v,e,p,rfl,hp'⟩:=arg i _ _ h1 h2 (λz=>by cases z);cases e;exact(hp _ hp').1
   ·obtain⟨v,e,hh⟩:=arg i _ _ h1 h2 (λz=>by cases z);exact hh.elim
 exact{
  len:=by unfold L2.start stD;rw[Qx,Qx,Qe,JF,JF,hl]
  dom:=dm
  dom0:=dm
  pt0:=hp
  kx:=λ_ _ _ e=>e
  sl:=λi o x h1 h2=>by
   cases x with
   |no=>trivial
   |v d=>
    obtain⟨v,e,hh⟩:=arg i _ _ h1 h2 (λz=>by cases z);exact⟨v,e,DA.mv hh (λ_ _ _ e=>e) λa z=>.inl (av a z)⟩
   |pot=>
    obtain⟨v,e,p,rfl,hp'⟩:=arg i _ _ h1 h2 (λz=>by cases z);obtain⟨_,n,en⟩:=hp p hp';exact⟨p,n,e,en,.inl hp'⟩
   |own ds=>obtain⟨v,e,hh⟩:=arg i _ _ h1 h2 (λz=>by cases z);exact hh.elim
   |pk ds=>obtain⟨v,e,hh⟩:=arg i _ _ h1 h2 (λz=>by cases z);exact hh.elim
   |scr=>obtain⟨v,e,hh⟩:=arg i _ _ h1 h2 (λz=>by cases z);exact hh.elim
  inj:=λi j a ds h1 h2 _=>by
   obtain⟨v,e,hh⟩:=arg i _ _ h2 h1 (λz=>by cases z);exact hh.elim }
def Qzx:PyData->Bool
 |.list _=>false
 |_=>true
def rtD:Bool->(PyData->Prop)->PyData->Prop
 |true,R,d=>Qzx d=true/\R d
 |false,R,d=>R d
def QlU(fr:Bool)(R:PyData->Prop)(EX:XP):QdS:=⟨λ_=>R .none,rtD fr R,R,λ_=>False,λ_=>False,EX⟩
theorem Qhl{K:PySem.W.Frag}{E Ex:XK}{fr:Bool}{A pt:Addr->Prop}{H:Hp}{R:PyData->Prop}{EX EX':XP}{Q:VK}{σ:L2.St}{δ:Sts}(k:∀d,R d->∀v H',Kq pt H H'->DA A H' v d->(fr=true->FrV H H' v)->Q v H')(o:Out ⟨H,A,pt⟩ E EX') :
  Ends1 K E ⟨H,A,pt⟩ σ H δ (QlU fr R EX') { nx:=λ_ H'=>Q .non H',rt:=Q } where
 nx:=⟨λδ' hR σ' H' r st=>k _ hR _ H' r.ke .non λ_=>Qs2⟩
 rt:=λd h v H' ke dv=>by
  cases fr with
  |false=>exact k d h v H' ke dv λz=>by cases z
  |true=>
   obtain⟨h1,h2⟩:=h;refine k d h2 v H' ke dv λz l e1 ⟨xs,e2⟩=>?_
   subst e1;cases dv with
   |@tup a ys ds n e q=>rw[e] at e2;cases e2
   |@lst a ys ds n e q=>cases h1
   |@dct a kvs ds n e q=>rw[e] at e2;cases e2
 rtF:=λd h v H' ke dv fr'=>k d h v H' ke dv λ_=>fr'
 bk:=⟨λ_ h=>h.elim⟩
 ct:=⟨λ_ h=>h.elim⟩
 ex:=o
section
variable{P:QN}{w:Jj}{K:PySem.W.Frag}{mg:Str->Option Value}{base:J8}
theorem okD{x qual:Str}{st:ZK}{f:Addr}{fd:QK}{N ps:List Str}{k:Nat}{fD:DF}(fr:Bool)(F:Fun K x qual st f fd)(S:Ji N ps (Ql st))(len:∀args R EX,fD args R EX->args.length=ps.length)
  (hbody:∀(cdv:Value)(A:Jh)(outer:List Env)(s:Shared)(H:Hp)(E:XK),Room k (A.deeper (envOfC qual (Ql st) s.heap.objs.size f cdv)) ->
   ∃wd,PSs (Qjl CX0 P w K mg base N qual (Ql st) f cdv A outer s H E).nox (Je st) (tS K E0 wd)/\∀args R EX,fD args R EX->wd (QlU fr R XF) (stD N args)):FnOk P w K mg base CX0 (k+1) f fd ps (JE fr fD):=by
 refine F.ok S (λvs H Q E h=>?_) λcdv A outer s H vs Q E hr h=>?_
 ·obtain⟨A,pt,args,R,EX,_,_,q,h,_⟩:=h;rw[q.length];exact len _ _ _ h
 ·obtain⟨wd,hp,hw⟩:=hbody cdv A outer s H E hr;obtain⟨A',pt,args,R,EX,dm,hpt,q,h,k,_⟩:=h;exact⟨_,hp,⟨H,A',pt⟩,_,_,Qdm dm hpt q,hw args R EX h,Qhl (Ex:=E) (EX:=EX) k QmE⟩
end
end Dl
namespace L2
def Qyq(i j:Int):Prop:=0<j/\j<=10^40
theorem Qn5{X:Cx}:OpR X (binaryOp .FloorDiv) (rI Qyq λi j=>.int (i / j)):=opI λi j _ _ _ _ _ hc q=>by
 have h1:(0:Int)<j:=hc.1;have h2:j<=10^40:=hc.2;refine floordiv_int (by omega) (by rw[Int.fdiv_eq_ediv_of_nonneg i (by omega)];exact q) (.inl (PyProof.noPylong_of_log2 ?_));have h3:j.natAbs<2^200:=by
  have:(10:Int)^40<2^200:=by decide
  omega
 have:=(Nat.log2_lt (by omega:j.natAbs≠0)).mpr h3;omega
end L2
namespace Rk
open L2 _root_.Rd
def QhV:Sp:=λvs H Q _=>∃p n f,vs=[.ref p,.int f]/\H p=some (.lst [.int n])/\0<f/\f<=10^40/\∀r m,0<=r->r<f->Q (.int r) (upd H p (.lst [.int m]))
end Rk
namespace Dl
open L2 _root_.Rd Rk
theorem JK{X:Cx}{E:XK}:Qa6 CX0 X E:=λ_ _ _ _ _ _ _ h=>h.elim
theorem Room.u60{k:Nat}{A:Jh}(r:Room k A):A.units+60<cLine:=by have:=r.un;omega
theorem Room.i60{k:Nat}{A:Jh}(r:Room k A):A.in1.units+60<cLine:=by
 have:=r.un;show A.units+1+60<cLine;omega
section
variable{X:Cx}{E:XK}{CX:CXT}{k:Nat}{f:Addr}{fd:QK}{ps:List Str}{x:Str}{p pos:Pos}{e:QV}{es:List QV}{fD:DF}
def Qm4:DF:=λargs R _=>∃f,args=[.pot,.v (.int f)]/\0<f/\f<=10^40/\∀r,0<=r->r<f->R (.int r)
theorem Qua{vs:List V}{H:Hp}{Q:VK}{Ex:XK}(h:JE true Qm4 vs H Q Ex):QhV vs H Q Ex:=by
 obtain⟨A,pt,args,R,EX,dm,hp,q,⟨f,rfl,f0,f1,hR⟩,k,_⟩:=h;cases q with
 |cons q1 q2=>cases q2 with
  |cons q2 q3=>
   cases q3;obtain⟨p,rfl,pp⟩:=q1;cases q2;obtain⟨_,n,e⟩:=hp p pp;refine⟨p,n,f,rfl,e,f0,f1,λr m r0 r1=>k _ (hR r r0 r1) _ _ ⟨λb o nb eb=>?_,λz hz=>?_⟩ (.int _) λ_=>ZT⟩
   ·rw[Jq (λz=>nb (by rw[z];exact pp))];exact eb
   ·by_cases y:z=p
    ·rw[y];exact⟨m,Ju⟩
    ·obtain⟨_,n',e'⟩:=hp z hz;exact⟨n',by rw[Jq y];exact e'⟩
def QxI:DF:=λargs R _=>∃c,args=[.v (.int c)]/\∀n,R (.list [.int n])
theorem QxH{vs:List V}{H:Hp}{Q:VK}{Ex:XK}(h:JE true QxI vs H Q Ex):Qug vs H Q Ex:=by
 obtain⟨A,pt,args,R,EX,dm,hp,q,⟨c,rfl,hR⟩,k,_⟩:=h;cases q with
 |cons q1 q2=>
  cases q2;cases q1;refine⟨c,rfl,λp n hn=>k _ (hR n) _ _ ⟨λb o _ eb=>JI hn b o eb,λz hz=>?_⟩ (.lst (λz=>?_) Ju (.cons (.int _) .nil)) λ_=>QbK hn⟩
  ·obtain⟨_,n',e'⟩:=hp z hz;exact⟨n',JI hn _ _ e'⟩
  ·obtain⟨xs,e⟩:=dm p z;rw[hn] at e;cases e
def isW:PyData->Bool
 |.int _=>true
 |_=>false
def QjZ:DF:=λargs R _=>∃d,args=[.v d]/\R (.bool (isW d))
theorem Qko{K:PySem.W.Frag}{F:Fm}{σ:L2.St}{H:Hp}{δ:Sts}(r:Rel K F σ H δ){a:Addr}{xs:List V}(h:SqL K F.H0 a xs)(n:¬F.pt a):SqL K H a xs:=by
 rcases h with h | h
 ·rcases h with h | ⟨o,h⟩
  ·exact .inl (.inl (r.kx _ _ n h))
  ·exact .inl (.inr ⟨o,r.kx _ _ n h⟩)
 ·exact .inr h
def Qth(i:Nat):DE:=λδ Q _=>match δ[i]? with
 |some .scr=>∀n:Nat,n<=63->Q (.int n)
 |_=>False
theorem Qsh{i:Nat}{a:QV}(hg:Gl X "len")(hm:X.mg "len" = none)(h:PE X a (Qj8 i))(hs:JH a=true:=by rfl):PE X (.Call (.Name "len" p) [a] [] pos) (tX .F X.K E (Qth i)):=by
 refine PE.imp (Qb0 Qa4 hg hm Yi (QfL h YF hs) (he:=by rw[Z1 hs])) λσ H Q ⟨F,δ,R,EX,rel,hw,k,o⟩=>?_
 unfold Qth at hw;split at hw
 ·rename_i hd
  obtain⟨x,hx⟩:=rel.lt hd;obtain⟨l,ns,rfl,sq,np,n63⟩:=rel.sl i _ _ hx hd;refine⟨_,hx,l,_,rfl,.inl (Qko rel sq np),?_⟩;rw[Qe];exact k _ (hw _ n63) _ H rel (Kp.refl rel) ⟨.int _,ZT⟩
 ·exact hw.elim
def Qti(i:Nat)(wb:DE):DE:=λδ Q EX=>match δ[i]? with
 |some .scr=>wb δ (λd=>match d with
  |.int k=>0<=k/\∀c,Q (.int c)
  |_=>False) EX
 |_=>False
theorem Qsk{i:Nat}{a b:QV}{wb:DE}(G:FnOk X.prog X.w X.K X.mg X.base CX0 k f fd ps (QbX X.K))(hr:Room k X.A)(hg:Gl X x)(hm:X.mg x=some (.ref f))(hk:PySem.W.keepIn X.K (.ref f)=true)(hb:Binds X.K fd ps [])
  (ha:PE X a (Qj8 i))(h:PE X b (tX .P X.K E wb))(h1:JH a=true:=by rfl)(h2:JH b=true:=by rfl)(hdb:(x == ("__debug__" : Str))=false:=by decide) :
  PE X (.Call (.Name x p) [a,b] [] pos) (tX .F X.K E (Qti i wb)):=by
 refine PE.imp (Qdr (E:=E) G hr hg hm hk hb .nil JK (QfL ha (QfL h YF h2) h1) hdb (Z1 h1) (by rw[Z1 h2];rfl)) λσ H Q ⟨F,δ,R,EX,rel,hw,k,o⟩=>?_
 unfold Qti at hw;split at hw
 ·rename_i hd
  obtain⟨x,hx⟩:=rel.lt hd;obtain⟨l,ns,rfl,sq,np,n63⟩:=rel.sl i _ _ hx hd;refine⟨_,hx,F,δ,_,EX,rel,hw,λd hd2 v H' rel' kp vk=>?_,o⟩;cases d<;>first | exact(show False from hd2).elim | skip
  rw[DP.int vk];exact⟨l,ns,_,rfl,Qko rel' sq np,YN n63 (by decide),hd2.1,λc=>k _ (hd2.2 c) _ H' rel' kp ⟨.int _,ZT⟩⟩
 ·exact hw.elim
end
section
variable{P:QN}{w:Jj}{K:PySem.W.Frag}{mg:Str->Option Value}{base:J8}
def Qd7(K:PySem.W.Frag):Sp:=λvs H Q _=>∃(a:Addr)(ns:List Int),vs=[.ref a]/\SqL K H a (ns.map V.int)/\ns.length<=63/\∀H',Q (.bl true) H'
def QvV:QdS:=⟨λ_=>False,λd=>d=.bool true,λd=>d=.bool true,λ_=>False,λ_=>False,XF⟩
end
theorem Qwi{α:Type}{p:α->Prop}:∀x∈([]:List α),p x:=λ_ h=>nomatch h
theorem Qmu{α:Type}{p:α->Prop}{a:α}{l:List α}(h:p a)(t:∀x∈l,p x):∀x∈a::l,p x:=λx hx=>by
 rcases Qt.mp hx with z | z
 ·rw[z];exact h
 ·exact t x z
theorem Qwf{b c:Bool}{R:PyData->Prop}(h:R (.bool (b&&c))):if b=true then R (.bool c) else R (.bool false):=by
 cases b
 ·exact QyP h
 ·exact Qx3 h
theorem QdR{b c:Bool}{R:PyData->Prop}{Pk:Prop}(h:R (.bool (b&&c)))(k:b=true->R (.bool c)->Pk):if b=true then Pk else R (.bool false):=by
 cases b
 ·exact QyP h
 ·exact Qx3 (k rfl h)
theorem ifF{c:Bool}{A B:Prop}(h:c=false)(k:B):if c=true then A else B:=by subst h;exact k
theorem ifT{c:Bool}{A B:Prop}(h:c=true)(k:A):if c=true then A else B:=by subst h;exact k
theorem ifC{c:Bool}{A B:Prop}(t:c=true->A)(f:c=false->B):if c=true then A else B:=by
 cases c
 ·exact f rfl
 ·exact t rfl
theorem all_map{α:Type}(l:List α)(g:α->Bool):(l.map g).all id=l.all g:=by
 rw[List.all_map];rfl
theorem QcF{ds:List PyData}{Q:PyData->Prop}{g:PyData->Bool}{items:List PyData}(h:ds=[.list (items.map λd=>.bool (g d))])(q:Q (.bool (items.all g))):QwP ds Q:=by
 subst h;unfold QwP;refine⟨items.map g,?_,by rw[all_map];exact q⟩;rw[show items.map (λd=>YQ (g d))=(items.map g).map YQ by rw[QY];rfl,Qgx]
theorem QgS{ds:List PyData}{Q:PyData->Prop}(ns:List Int)(h:ds=[.list (ns.map Qb)])(q:Q (.int ns.sum)):QwC ds Q:=by
 subst h;unfold QwC;exact⟨ns,ints_map ns,q⟩
theorem QsJ{ds:List PyData}{Q:PyData->Prop}(ns:List Int)(h:ds=[.list (ns.map Qb)])(h0:0<ns.length)(q:∀m,m∈ns->(∀y∈ns,m<=y)->Q (.int m)):Qom ds Q:=by
 subst h;unfold Qom;exact⟨ns,ints_map ns,h0,q⟩
end Dl
namespace L2
section
variable{X:Cx}
end
end L2
namespace Dl
open L2 _root_.Rd Rk
section
variable{X:Cx}{E:XK}
variable{e:QV}{w:DE}{p p2 pos pos2:Pos}
end
theorem Qiv{xs:List PyData}{lo hi:Option Int}{d:PyData}(h:d∈cutD xs lo hi):d∈xs:=List.mem_of_mem_drop (List.mem_of_mem_take h)
structure QE (m:Md) (X:Cx) (E:XK) (e:QV) (w:DE):Prop where h:PE X e (tX m X.K E w)
structure QT (X:Cx) (E:XK) (e:QV) (w:DT):Prop where h:PT X e (tT X.K E w)
structure QW (X:Cx) (E:XK) (e:QV) (w:DT):Prop where h:PW X e (tT X.K E w)
structure QTs (X:Cx) (E:XK) (es:List QV) (w:DT):Prop where h:PTs X es (tT X.K E w)
structure QA (n:Nat) (m:Md) (X:Cx) (E:XK) (es:List QV) (w:DAr):Prop where h:PA X es (tAr n m X.K E w)
structure QAs (X:Cx) (E:XK) (es:List QV) (w:DSl):Prop where h:PA X es (tAs X.K E w)
structure QO (X:Cx) (E:XK) (o:Option QV) (w:DO):Prop where h:PO X o (tO X.K E w)
structure QG (ix:List Nat) (X:Cx) (tg:QV) (w:DG):Prop where h:PG X tg (tG ix X.K w)
structure QI (m:Md) (X:Cx) (E:XK) (tg it:QV) (w:DI):Prop where h:PI X tg it (tI m X.K E w)
structure QS (X:Cx) (E:XK) (st:ZK) (w:DS):Prop where h:PS X st (tS X.K E w)
structure QSs (X:Cx) (E:XK) (sts:List ZK) (w:DS):Prop where h:PSs X sts (tS X.K E w)
section
variable{X:Cx}{E:XK}
theorem Zi{e:QV}{w:DE}(h:QE .F X E e w):QE .D X E e w:=⟨toD h.h⟩
theorem Jg{e:QV}{w:DE}(h:QE .D X E e w):QE .P X E e w:=⟨toP h.h⟩
theorem QP{e:QV}{w:DE}(h:QE .F X E e w):QE .P X E e w:=⟨Qzj h.h⟩
theorem qv(i:Nat){x:Str}{pos:Pos}(hN:X.N[i]? = some x:=by rfl)(hv:Vis X.env.scope x:=by first | exact Q4 rfl | exact Q0 (Q4 rfl) | exact Q0 (Q0 rfl))(hd:(x == ("__debug__" : Str))=false:=by decide)(hcd:(x == ("__classdict__" : Str))=false:=by decide):QE .D X E (.Name x pos) (Qyi i):=⟨QuT (pv i hN hv hd hcd)⟩
theorem qp(i:Nat){x:Str}{pos:Pos}(hN:X.N[i]? = some x:=by rfl)(hv:Vis X.env.scope x:=by first | exact Q4 rfl | exact Q0 (Q4 rfl) | exact Q0 (Q0 rfl))(hd:(x == ("__debug__" : Str))=false:=by decide)(hcd:(x == ("__classdict__" : Str))=false:=by decide):QE .P X E (.Name x pos) (dPk i):=⟨QxN (pv i hN hv hd hcd)⟩
theorem JA{i:Int}{j pos}:QE .D X E (.Constant (.int i) j pos) (dC (.int i)):=⟨Qu0⟩
theorem QkI{b:Bool}{j pos}:QE .D X E (.Constant (.bool b) j pos) (dC (.bool b)):=⟨QxR⟩
theorem QrG{j pos}:QE .D X E (.Constant .none j pos) (dC .none):=⟨QuX⟩
theorem Qf7{x:Str}(i:Int){u:Value}{pos:Pos}(hg:Gl X x)(hm:X.mg x=some u)(r:RelV (.int i) u)(hd:(x == ("__debug__" : Str))=false:=by decide):QE .D X E (.Name x pos) (dC (.int i)):=⟨QwG (QrX hg hm r hd) λ_ _=>.int i⟩
theorem ZE{a b:QV}{wa wb:DE}{pos:Pos}{r:R2}{rD:PyData->PyData->(PyData->Prop)->Prop}{op:Qa7}(ho:OpR X (binaryOp op) r)(hd:OpD r rD)(ha:QE .P X E a wa)(hb:QE .P X E b wb):QE .F X E (.BinOp a op b pos) (dOp rD wa wb):=⟨Qu3 ho hd ha.h hb.h⟩
theorem QbG{a b:QV}{wa wb:DE}{pos:Pos}{r:R2}{rD:PyData->PyData->(PyData->Prop)->Prop}{op:QiM}(ho:OpR X (compareOp op) r)(hd:OpD r rD)(ha:QE .P X E a wa)(hb:QE .P X E b wb)(hm:behindInMarks op b=false):QE .F X E (.Compare a [op] [b] pos) (dOp rD wa wb):=⟨Qu2 ho hd ha.h hb.h hm⟩
theorem YA{a b:QV}{wa wb:DE}{pos:Pos}{r:R2}{rD:PyData->PyData->(PyData->Prop)->Prop}{op:QiM}(ho:OpR X (compareOp op) r)(hd:OpD r rD)(ha:QE .P X E a wa)(hb:QE .P X E b wb)(hm:behindInMarks op b=false):QT X E (.Compare a [op] [b] pos) (dTst (dOp rD wa wb)):=⟨Qr5 ho hd ha.h hb.h hm⟩
theorem Qek{a b:QV}{wa wb:DE}{pos:Pos}{r:R2}{rD:PyData->PyData->(PyData->Prop)->Prop}(ho:IxR X r)(hd:QmH r rD)(ha:QE .P X E a wa)(hb:QE .P X E b wb)(hs:Qhz b):QE .D X E (.Subscript a b pos) (dOp rD wa wb):=⟨QxP ho hd ha.h hb.h hs⟩
theorem QrH{a:QV}{wa:DE}{pos:Pos}(ha:QE .P X E a wa):QE .F X E (.UnaryOp .USub a pos) (dUn QyN wa):=⟨QuY ha.h⟩
theorem Qzv{a b c:QV}{wa wb wc:DE}{pos:Pos}{op op':QiM}{p q:Int->Int->Bool}(ho:OpR X (compareOp op) (rI0 λi j=>.bl (p i j)))(ho':OpR X (compareOp op') (rI0 λi j=>.bl (q i j)))(ha:QE .P X E a wa)(hb:QE .P X E b wb)(hc:QE .P X E c wc)(hm:lastMarks [op,op'] [b,c]=false:=by with_unfolding_all rfl):QE .F X E (.Compare a [op,op'] [b,c] pos) (dCh p q wa wb wc):=⟨QxQ ho ho' ha.h hb.h hc.h hm⟩
theorem QxD{a b c:QV}{wa wb wc:DE}{pos:Pos}{op op':QiM}{p q:Int->Int->Bool}(ho:OpR X (compareOp op) (rI0 λi j=>.bl (p i j)))(ho':OpR X (compareOp op') (rI0 λi j=>.bl (q i j)))(ha:QE .P X E a wa)(hb:QE .P X E b wb)(hc:QE .P X E c wc)(hm:lastMarks [op,op'] [b,c]=false:=by with_unfolding_all rfl):QT X E (.Compare a [op,op'] [b,c] pos) (dTst (dCh p q wa wb wc)):=⟨QuR ho ho' ha.h hb.h hc.h hm⟩
theorem Quu{e:QV}{w:DE}(h:QE .P X E e w)(he:∀whole,isTrue e X.env whole=(do let v <- whole;standAt e.pos;holding [v] (truthy v)):=by intro _;rfl):QT X E e (dTru w):=⟨Qr3 h.h he⟩
theorem QaR{e:QV}{w:DE}(h:QE .P X E e w)(he:∀whole,isTrue e X.env whole=(do let v <- whole;standAt e.pos;holding [v] (truthy v)):=by intro _;rfl):QT X E e (dTst w):=⟨Qr2 h.h he⟩
theorem Qe4{a:QV}{pos:Pos}{ta:DT}(ha:QT X E a ta):QW X E (.BoolOp .And [a] pos) ta:=⟨QnF ha.h⟩
theorem Qh5{a b:QV}{rest:List QV}{pos:Pos}{ta tb:DT}(ha:QT X E a ta)(hb:QW X E (.BoolOp .And (b::rest) pos) tb):QW X E (.BoolOp .And (a::b::rest) pos) (Qzc ta tb):=⟨Qr1 ha.h hb.h⟩
theorem QdZ{a b:QV}{rest:List QV}{pos:Pos}{wa wb:DE}(ha:QE .P X E a wa)(hb:QE .D X E (.BoolOp .And (b::rest) pos) wb):QE .D X E (.BoolOp .And (a::b::rest) pos) (Qv8 wa wb):=⟨Qu4 ha.h hb.h⟩
theorem Qf5{a:QV}{pos:Pos}{ta:DT}(ha:QT X E a ta):QW X E (.BoolOp .Or [a] pos) ta:=⟨Qr0 ha.h⟩
theorem QkC{a b:QV}{rest:List QV}{pos:Pos}{ta tb:DT}(ha:QT X E a ta)(hb:QW X E (.BoolOp .Or (b::rest) pos) tb):QW X E (.BoolOp .Or (a::b::rest) pos) (dOr ta tb):=⟨QuQ ha.h hb.h⟩
theorem QyL{a b:QV}{rest:List QV}{pos:Pos}{wa wb:DE}(ha:QE .P X E a wa)(hb:QE .D X E (.BoolOp .Or (b::rest) pos) wb):QE .D X E (.BoolOp .Or (a::b::rest) pos) (Qy2 wa wb):=⟨QxO ha.h hb.h⟩
theorem Qnp{e:QV}{t:DT}(h:QW X E e t):QT X E e t:=⟨PW.pt h.h⟩
theorem QaS{a:QV}{pos:Pos}{ta:DT}(ha:QT X E a ta):QT X E (.UnaryOp .Not a pos) (Qy3 ta):=⟨Qr4 ha.h⟩
theorem Qc0{op}{a:QV}{pos:Pos}{w:DE}(h:QE .D X E a w):QE .D X E (.BoolOp op [a] pos) w:=⟨QuV h.h⟩
theorem Quy{a:QV}{pos:Pos}{wa:DE}(ha:QE .P X E a wa):QE .D X E (.UnaryOp .Not a pos) (Qv5 wa):=⟨QuW ha.h⟩
theorem QxF{c a b:QV}{pos:Pos}{ta:DT}{wa wb:DE}(hc:QT X E c ta)(ha:QE .D X E a wa)(hb:QE .D X E b wb):QE .D X E (.IfExp c a b pos) (Qy8 ta wa wb):=⟨Qu1 hc.h ha.h hb.h⟩
theorem Jb{m:Md}:QA 0 m X E [] Qy4:=⟨Qsg⟩
theorem QdT{n:Nat}{e:QV}{es:List QV}{we:DE}{wr:DAr}(he:QE .D X E e we)(hr:QA n .D X E es wr)(hs:JH e=true:=by rfl):QA (n+1) .D X E (e::es) (Ql2 we wr):=⟨QkW he.h hr.h hs⟩
theorem YB{n:Nat}{e:QV}{es:List QV}{we:DE}{wr:DAr}(he:QE .P X E e we)(hr:QA n .P X E es wr)(hs:JH e=true:=by rfl):QA (n+1) .P X E (e::es) (Ql2 we wr):=⟨QkV he.h hr.h hs⟩
theorem Qi5{n:Nat}{es:List QV}{w:DAr}{x1}{pos:Pos}(h:QA n .D X E es w)(hn:n<=1000:=by decide):QE .F X E (.Tuple es x1 pos) (QyY w):=⟨QuU h.h hn⟩
theorem QaJ{n:Nat}{es:List QV}{w:DAr}{pos:Pos}(h:QA n .D X E es w)(hn:n<=1000:=by decide):QE .F X E (.List es pos) (Qy5 w):=⟨QuZ h.h hn⟩
theorem Js{x:Str}{bid:String}{p pos:Pos}{e:QV}{es:List QV}{n:Nat}{wr:DAr}{r:List V->Hp->VK->Prop}{rD:List PyData->(PyData->Prop)->Prop}(hc:CallR X (.builtin bid) r)(hd:QaK r rD)(hg:Gl X x)(hm:X.mg x=none)(hv:bootBuiltins x=some (.builtin bid))(ha:QA n .P X E (e::es) wr)(hn:x ≠ "__name__" := by decide)(hdb:(x == ("__debug__" : Str))=false:=by decide)(he:starEach (e::es) X.env=(false,eval e X.env)::starEach es X.env:=by rfl)(hpl:(backTo pos (starEach es X.env)).any (·.1)=false:=by rfl):QE .F X E (.Call (.Name x p) (e::es) [] pos) (dCB rD wr):=⟨Qn0 hc hd hg hm hv ha.h hn hdb he hpl⟩
theorem QbY{x:Str}{T:String}{p pos:Pos}{e:QV}{es:List QV}{n:Nat}{wr:DAr}{r:List V->Hp->VK->Prop}{rD:List PyData->(PyData->Prop)->Prop}(hc:CallR X (.type T) r)(hd:QaK r rD)(hg:Gl X x)(hm:X.mg x=none)(hv:bootBuiltins x=some (.type T))(ha:QA n .P X E (e::es) wr)(hn:x ≠ "__name__" := by decide)(hdb:(x == ("__debug__" : Str))=false:=by decide)(he:starEach (e::es) X.env=(false,eval e X.env)::starEach es X.env:=by rfl)(hpl:(backTo pos (starEach es X.env)).any (·.1)=false:=by rfl):QE .F X E (.Call (.Name x p) (e::es) [] pos) (dCB rD wr):=⟨QkY hc hd hg hm hv ha.h hn hdb he hpl⟩
theorem Qf6{e:QV}{we:DE}{p pos pos2:Pos}{x:Str}(tn:Tn)(hg:Gl X "isinstance")(hm:X.mg "isinstance" = none)(he:QE .P X E e we)(hg2:Gl X x)(hm2:X.mg x=none)(hv:bootBuiltins x=some (.type tn.s))(hn:x ≠ "__name__" := by decide)(hd:(x == ("__debug__" : Str))=false:=by decide)(h1:JH e=true:=by rfl):QE .F X E (.Call (.Name "isinstance" p) [e,.Name x pos2] [] pos) (Qv6 tn we):=⟨Qsi tn hg hm he.h (QxS tn hg2 hm2 hv hn hd) h1 rfl⟩
theorem Qe7  : QO X E none dNo:=⟨QnR⟩
theorem Qe6{e:QV}{we:DE}(he:QE .P X E e we):QO X E (some e) (dSo we):=⟨QnQ he.h⟩
theorem Qe8{e:QV}{lo hi:Option QV}{we:DE}{wl wh:DO}{p2 pos:Pos}(he:QE .P X E e we)(hl:QO X E lo wl)(hh:QO X E hi wh):QE .F X E (.Subscript e (.Slice lo hi none p2) pos) (dSl we wl wh):=⟨QnX he.h hl.h hh.h⟩
theorem Jo  : QAs X E [] Qyx:=⟨Qsa⟩
theorem Zu{e:QV}{es:List QV}{we:DE}{wr:DSl}(he:QE .D X E e we)(hr:QAs X E es wr)(hs:JH e=true:=by rfl):QAs X E (e::es) (sV we wr):=⟨QxM he.h hr.h hs⟩
theorem QcP(i:Nat){x:Str}{pos:Pos}{es:List QV}{wr:DSl}(hr:QAs X E es wr)(hN:X.N[i]? = some x:=by rfl)(hv:Vis X.env.scope x:=by first | exact Q4 rfl | exact Q0 (Q4 rfl) | exact Q0 (Q0 rfl))(hd:(x == ("__debug__" : Str))=false:=by decide)(hcd:(x == ("__classdict__" : Str))=false:=by decide):QAs X E (.Name x pos::es) (Qxu i wr):=⟨Qr8 (pv i hN hv hd hcd) hr.h rfl⟩
theorem JY{CX:CXT}{k:Nat}{f:Addr}{fd:QK}{ps:List Str}{x:Str}{p pos:Pos}{e:QV}{es:List QV}{fD:DF}{wa:DSl}(G:FnOk X.prog X.w X.K X.mg X.base CX k f fd ps (JE false fD))(hr:Room k X.A)(hg:Gl X x)(hm:X.mg x=some (.ref f))(hk:PySem.W.keepIn X.K (.ref f)=true)(hb:Binds X.K fd ps [])(hx:Qa6 CX X E)(ha:QAs X E (e::es) wa)(hdb:(x == ("__debug__" : Str))=false:=by decide)(he:starEach (e::es) X.env=(false,eval e X.env)::starEach es X.env:=by rfl)(hpl:(backTo pos (starEach es X.env)).any (·.1)=false:=by rfl):QE .D X E (.Call (.Name x p) (e::es) [] pos) (Qjk fD wa):=⟨Qsl G hr hg hm hk hb hx ha.h hdb he hpl⟩
theorem ZS{CX:CXT}{k:Nat}{f:Addr}{fd:QK}{ps:List Str}{x:Str}{p pos:Pos}{e:QV}{es:List QV}{fD:DF}{wa:DSl}(G:FnOk X.prog X.w X.K X.mg X.base CX k f fd ps (JE true fD))(hr:Room k X.A)(hg:Gl X x)(hm:X.mg x=some (.ref f))(hk:PySem.W.keepIn X.K (.ref f)=true)(hb:Binds X.K fd ps [])(hx:Qa6 CX X E)(ha:QAs X E (e::es) wa)(hdb:(x == ("__debug__" : Str))=false:=by decide)(he:starEach (e::es) X.env=(false,eval e X.env)::starEach es X.env:=by rfl)(hpl:(backTo pos (starEach es X.env)).any (·.1)=false:=by rfl):QE .F X E (.Call (.Name x p) (e::es) [] pos) (Qjk fD wa):=⟨QnZ G hr hg hm hk hb hx ha.h hdb he hpl⟩
theorem Qg2{CX:CXT}{k:Nat}{f:Addr}{fd:QK}{ps:List Str}{x:Str}{p pos:Pos}{e:QV}{es:List QV}{fD:DF}{n:Nat}{wr:DAr}(G:FnOk X.prog X.w X.K X.mg X.base CX k f fd ps (JE true fD))(hr:Room k X.A)(hg:Gl X x)(hm:X.mg x=some (.ref f))(hk:PySem.W.keepIn X.K (.ref f)=true)(hb:Binds X.K fd ps [])(hx:Qa6 CX X E)(ha:QA n .P X E (e::es) wr)(hdb:(x == ("__debug__" : Str))=false:=by decide)(he:starEach (e::es) X.env=(false,eval e X.env)::starEach es X.env:=by rfl)(hpl:(backTo pos (starEach es X.env)).any (·.1)=false:=by rfl):QE .F X E (.Call (.Name x p) (e::es) [] pos) (Ql4 fD wr):=⟨QnY G hr hg hm hk hb hx ha.h hdb he hpl⟩
theorem QuA{k:Nat}{f:Addr}{fd:QK}{ps:List Str}{x y:Str}{p pos pos2:Pos}{b:QV}{wb:DE}(i:Nat)(G:FnOk X.prog X.w X.K X.mg X.base CX0 k f fd ps (QbX X.K))(hr:Room k X.A)(hg:Gl X x)(hm:X.mg x=some (.ref f))(hk:PySem.W.keepIn X.K (.ref f)=true)(hb:Binds X.K fd ps [])(h:QE .P X E b wb)(hN:X.N[i]? = some y:=by rfl)(hv:Vis X.env.scope y:=by first | exact Q4 rfl | exact Q0 (Q4 rfl) | exact Q0 (Q0 rfl))(hd:(y == ("__debug__" : Str))=false:=by decide)(hcd:(y == ("__classdict__" : Str))=false:=by decide)(h2:JH b=true:=by rfl)(hdb:(x == ("__debug__" : Str))=false:=by decide):QE .F X E (.Call (.Name x p) [.Name y pos2,b] [] pos) (Qti i wb):=⟨Qsk G hr hg hm hk hb (pv i hN hv hd hcd) h.h rfl h2 hdb⟩
theorem Quz{y:Str}{p pos pos2:Pos}(i:Nat)(hg:Gl X "len")(hm:X.mg "len" = none)(hN:X.N[i]? = some y:=by rfl)(hv:Vis X.env.scope y:=by first | exact Q4 rfl | exact Q0 (Q4 rfl) | exact Q0 (Q0 rfl))(hd:(y == ("__debug__" : Str))=false:=by decide)(hcd:(y == ("__classdict__" : Str))=false:=by decide):QE .F X E (.Call (.Name "len" p) [.Name y pos2] [] pos) (Qth i):=⟨Qsh hg hm (pv i hN hv hd hcd) rfl⟩
theorem Zp(i:Nat){x:Str}{pos:Pos}(hN:X.N.Nodup)(hi:X.N[i]? = some x)(hx:Loc X.env.scope x)(hf:X.fn x=true∨X.env.scope.names.lookup x=some .local:=by first | exact .inl rfl | exact .inr rfl | assumption):QG [i] X (.Name x pos) (gN i):=⟨QnW (Qg9 hN hi hx hf)⟩
structure QGs (X:Cx) (es:List QV) (is:List Nat):Prop where h:PGs X es (gNs is)
theorem Y9  : QGs X [] []:=⟨QrU⟩
theorem JJ(i:Nat){is:List Nat}{x:Str}{pos:Pos}{es:List QV}(h:QGs X es is)(hN:X.N.Nodup)(hi:X.N[i]? = some x)(hx:Loc X.env.scope x)(hf:X.fn x=true∨X.env.scope.names.lookup x=some .local:=by first | exact .inl rfl | exact .inr rfl | assumption)(hs:(assignEach (.Name x pos::es) X.env).map (·.2)=assign (.Name x pos) X.env::(assignEach es X.env).map (·.2):=by rfl):QGs X (.Name x pos::es) (i::is):=⟨Qny (Qg9 hN hi hx hf) h.h hs⟩
theorem Y8{es:List QV}{k:Nat}{pos:Pos}{is:List Nat}(hc:X.calm=true)(h:QGs X es is)(hn:(assignEach es X.env).length=is.length:=by rfl)(hst:(assignEach es X.env).findIdx? (·.1)=none:=by rfl):QG is X (.Tuple es k pos) (gTN is):=⟨Qsf (QuK hc h.h hn hst) rfl⟩
theorem QaW{m:Md}{tg e:QV}{w:DE}(h:QE m X E e w):QI m X E tg e (Qy7 w):=⟨QnV h.h⟩
theorem QaV{m:Md}{tg e:QV}{w:DE}(h:QE m X E e w):QI m X E tg e (Qy6 w):=⟨Qse h.h⟩
theorem QbF{m:Md}{tg e:QV}{w:DE}{p pos:Pos}(hg:Gl X "range")(hm:X.mg "range" = none)(h:QE .P X E e w)(hs:JH e=true:=by rfl):QI m X E tg (.Call (.Name "range" p) [e] [] pos) (Qv3 w):=⟨QnU hg hm h.h hs⟩
theorem Qbd{m:Md}{e:QV}{w:DE}{p pos tpos:Pos}{elts:List QV}{x1}(hg:Gl X "enumerate")(hm:X.mg "enumerate" = none)(h:QE m X E e w)(hs:JH e=true:=by rfl):QI m X E (.Tuple elts x1 tpos) (.Call (.Name "enumerate" p) [e] [] pos) (Qza w):=⟨QkU hg hm h.h hs⟩
theorem QkG{m:Md}{e e':QV}{w w':DE}{p pos tpos:Pos}{elts:List QV}{x1}(hg:Gl X "zip")(hm:X.mg "zip" = none)(h:QE m X E e w)(h':QE m X E e' w')(hs:JH e=true:=by rfl)(hs':JH e'=true:=by rfl):QI m X E (.Tuple elts x1 tpos) (.Call (.Name "zip" p) [e,e'] [] pos) (QyX w w'):=⟨QnT hg hm h.h h'.h hs hs'⟩
theorem Qh7{m:Md}{e:QV}{w:DE}{p pos tpos:Pos}{elts:List QV}{x1}(hg:Gl X "enumerate")(hm:X.mg "enumerate" = none)(h:QE m X E e w)(hs:JH e=true:=by rfl):QI m X E (.Tuple elts x1 tpos) (.Call (.Name "enumerate" p) [e] [] pos) (Qy9 w):=⟨QkT hg hm h.h hs⟩
theorem QkF{m:Md}{e e':QV}{w w':DE}{p pos tpos:Pos}{elts:List QV}{x1}(hg:Gl X "zip")(hm:X.mg "zip" = none)(h:QE m X E e w)(h':QE m X E e' w')(hs:JH e=true:=by rfl)(hs':JH e'=true:=by rfl):QI m X E (.Tuple elts x1 tpos) (.Call (.Name "zip" p) [e,e'] [] pos) (QyW w w'):=⟨QnS hg hm h.h h'.h hs hs'⟩
theorem Z2  : QTs X E [] QtL:=⟨QnH⟩
theorem Qg1{c:QV}{t:DT}(h:QT X E c t):QTs X E [c] t:=⟨QnG h.h⟩
theorem QaF(M:List Str)(cap:List (Option Nat)){elt tg iter:QV}{ifs:List QV}{scope:Yl}{pos:Pos}{ix:List Nat}{wi:DI}{wg:DG}{wt:DT}{we:DE}(hi:QI .P X E tg iter wi)(hb:∀cl ex s3 H3 C,QG ix (blk X M scope cl ex s3 H3 C) tg wg/\QTs (blk X M scope cl ex s3 H3 C) E0 ifs wt/\QE .D (blk X M scope cl ex s3 H3 C) E0 elt we)(hc:X.calm=true:=by rfl)(ok:Qd0 X.N X.env.scope M scope cap=true:=by rfl)(hf:Qa2 cap ix=true:=by rfl)(hs:∀x,foldedSetIterable iter X.env x=pure x:=by intro _;rfl):QE .F X E (.ListComp elt [⟨tg,iter,ifs,0⟩] scope pos) (dComp cap wi wg wt we):=⟨Qsj hc ok hf hi.h (λcl ex s3 H3 C=>⟨(hb cl ex s3 H3 C).1.h,(hb cl ex s3 H3 C).2.1.h,(hb cl ex s3 H3 C).2.2.h⟩) hs⟩
theorem Z3  : QSs X E [] Qv1:=⟨QnI⟩
theorem QZ{st:ZK}{w:DS}(h:QS X E st w):QSs X E [st] w:=⟨Qr9 h.h⟩
theorem QH{st:ZK}{rest:List ZK}{w w':DS}(h:QS X E st w)(h':QSs X E rest w'):QSs X E (st::rest) (QyZ w w'):=⟨QnO h.h h'.h⟩
theorem Qaq{sts:List ZK}:QSs X E sts (λ_ _=>False):=⟨QkS⟩
theorem Z8(i:Nat){x:Str}{e:QV}{pos pos':Pos}{we:DE}(he:QE .D X E e we)(hN:X.N.Nodup)(hi:X.N[i]? = some x:=by rfl)(hx:Loc X.env.scope x:=by first | exact Q4 rfl | exact Q0 rfl)(hs:swapsWith e (some (.Name x pos')) pos.line X.env=pure false:=by rfl)(hf:X.fn x=true∨X.env.scope.names.lookup x=some .local:=by first | exact .inl rfl | exact .inr rfl | assumption):QS X E (.Assign [.Name x pos'] e pos) (QwM i we):=⟨Qha (QcQ hN hi hx he.h hs hf)⟩
theorem Y7(i:Nat){x:Str}{e:QV}{pos pos':Pos}{we:DE}(he:QE .F X E e we)(hN:X.N.Nodup)(hi:X.N[i]? = some x:=by rfl)(hx:Loc X.env.scope x:=by first | exact Q4 rfl | exact Q0 rfl)(hs:swapsWith e (some (.Name x pos')) pos.line X.env=pure false:=by rfl)(hf:X.fn x=true∨X.env.scope.names.lookup x=some .local:=by first | exact .inl rfl | exact .inr rfl | assumption):QS X E (.Assign [.Name x pos'] e pos) (Qtd i we):=⟨Qib (QcQ hN hi hx he.h hs hf)⟩
theorem QrE(i:Nat){x:Str}{e:QV}{pos pos':Pos}{we:DE}(he:QE .F X E e we)(hN:X.N.Nodup)(hi:X.N[i]? = some x:=by rfl)(hx:Loc X.env.scope x:=by first | exact Q4 rfl | exact Q0 rfl)(hs:swapsWith e (some (.Name x pos')) pos.line X.env=pure false:=by rfl)(hf:X.fn x=true∨X.env.scope.names.lookup x=some .local:=by first | exact .inl rfl | exact .inr rfl | assumption):QS X E (.Assign [.Name x pos'] e pos) (Qv2 i we):=⟨QnJ (QcQ hN hi hx he.h hs hf)⟩
theorem Quw{tg e:QV}{pos:Pos}{ix:List Nat}{we:DE}{wg:DG}(he:QE .D X E e we)(hg:QG ix X tg wg)(hs:swapsWithSole [tg] e pos.line X.env=pure false:=by rfl)(hw:swappedStores [tg] e X.env=pure none:=by rfl)(h1:(assignEach [tg] X.env).map (·.2)=[assign tg X.env]:=by rfl):QS X E (.Assign [tg] e pos) (Qzb we wg):=⟨Qsd (QkK he.h hg.h hs hw h1)⟩
theorem ZW{e:QV}{pos:Pos}{we:DE}(h:QE .D X E e we):QS X E (.Return (some e) pos) (Qy0 we):=⟨Qr6 h.h⟩
theorem Qay{e:QV}{pos:Pos}{we:DE}(h:QE .F X E e we):QS X E (.Return (some e) pos) (Qv4 we):=⟨QnL h.h⟩
theorem QaT(i:Nat){x:Str}{pos pos2:Pos}(hN:X.N[i]? = some x:=by rfl)(hv:Vis X.env.scope x:=by first | exact Q4 rfl | exact Q0 (Q4 rfl) | exact Q0 (Q0 rfl))(hd:(x == ("__debug__" : Str))=false:=by decide)(hcd:(x == ("__classdict__" : Str))=false:=by decide):QS X E (.Return (some (.Name x pos)) pos2) (Qte i):=⟨QnK (pv i hN hv hd hcd)⟩
theorem QaU{c:QV}{a b:List ZK}{pos:Pos}{t:DT}{w w':DS}(hc:QT X E c t)(ha:QSs X E a w)(hb:QSs X E b w'):QS X E (.If c a b pos) (dIf t w w'):=⟨QuS hc.h ha.h hb.h⟩
theorem Quv(i:Nat){x:Str}{e:QV}{we:DE}{op:Qa7}{ti:TIp}{rD:PyData->PyData->(PyData->Prop)->Prop}{pos pos':Pos}(ho:PIp X op ti)(hd:QmH ti rD)(he:QE .P X E e we)(hN:X.N.Nodup)(hi:X.N[i]? = some x:=by rfl)(hx:Loc X.env.scope x:=by first | exact Q4 rfl | exact Q0 rfl)(hf:X.fn x=true∨X.env.scope.names.lookup x=some .local:=by first | exact .inl rfl | exact .inr rfl | assumption):QS X E (.AugAssign (.Name x pos') op e pos) (Qyj i rD we):=⟨Qsc hd (QuF hN hi hx he.h (PIp.len ho) hf)⟩
theorem Qpd{y:Str}{e k:QV}{we wk:DE}{pos spos npos:Pos}(i:Nat)(he:QE .D X E e we)(hk:QE .P X E k wk)(hN:X.N[i]? = some y:=by rfl)(hv:Vis X.env.scope y:=by first | exact Q4 rfl | exact Q0 (Q4 rfl) | exact Q0 (Q0 rfl))(hd:(y == ("__debug__" : Str))=false:=by decide)(hcd:(y == ("__classdict__" : Str))=false:=by decide) (ha:∀v,assign (.Subscript (.Name y npos) k spos) X.env v=(do
   let ov <- holding [v] (eval (.Name y npos) X.env)
   let iv <- holding [v,ov] (eval k X.env)
   standAt spos
   holding [v,ov,iv] (setItem ov iv v)
   release [v,ov,iv] []):=by intro _;rfl) (hs:swapsWithSole [.Subscript (.Name y npos) k spos] e pos.line X.env=pure false:=by rfl) (hw:swappedStores [.Subscript (.Name y npos) k spos] e X.env=pure none:=by rfl) (h1:(assignEach [.Subscript (.Name y npos) k spos] X.env).map (·.2)=[assign (.Subscript (.Name y npos) k spos) X.env]:=by rfl):QS X E (.Assign [.Subscript (.Name y npos) k spos] e pos) (Qy1 i wk we):=⟨Qr7 (QkK he.h (Qph (pv i hN hv hd hcd) hk.h QeZ ha) hs hw h1)⟩
theorem QkE{y:Str}{e k:QV}{we wk:DE}{op:Qa7}{ti:TIp}{rD:PyData->PyData->(PyData->Prop)->Prop}{pos tpos npos:Pos}(i:Nat)(ho:PIp X op ti)(hd:QmH ti rD)(hk:QE .P X E k wk)(he:QE .P X E e we)(hN:X.N[i]? = some y:=by rfl)(hv:Vis X.env.scope y:=by first | exact Q4 rfl | exact Q0 (Q4 rfl) | exact Q0 (Q0 rfl))(hdd:(y == ("__debug__" : Str))=false:=by decide)(hcd:(y == ("__classdict__" : Str))=false:=by decide)(ha:∀ov iv new,augStore k ov iv new=(do holding [new,ov,iv] (setItem ov iv new);release [new,ov,iv] [];pure .next):=by intros;rfl):QS X E (.AugAssign (.Subscript (.Name y npos) k tpos) op e pos) (Qtj i rD wk we):=⟨QnP hd (QrN (pv i hN hv hdd hcd) hk.h QoC he.h (PIp.len ho) QeZ ha)⟩
theorem YO{tg iter:QV}{body:List ZK}{pos:Pos}{ix:List Nat}{wi:DI}{wg:DG}{wb:DS}(hp:QeL (model X.prog X.w) X.A X.env X.xe)(hc:X.calm=true)(hi:QI .D X E tg iter wi)(hg:QG ix X tg wg)(hb:QSs X E body wb)(hs:∀x,foldedSetIterable iter X.env x=pure x:=by intro _;rfl):QS X E (.For tg iter body [] pos) (dFor wi wg wb):=⟨Qsb hp hc hi.h hg.h hb.h hs⟩
theorem Qal{e:QV}{we:DE}{pos:Pos}(he:QE .P X E e we)(hs:swapsWith e none pos.line X.env=pure false:=by rfl):QS X E (.Expr e pos) (Qv7 we):=⟨QnN (QkJ he.h hs)⟩
end
section
variable{P:QN}{w:Jj}{K:PySem.W.Frag}{mg:Str->Option Value}{base:J8}
theorem okQ{x qual:Str}{st:ZK}{f:Addr}{fd:QK}{N ps:List Str}{k:Nat}{fD:DF}(fr:Bool)(F:Fun K x qual st f fd)(S:Ji N ps (Ql st))(len:∀args R EX,fD args R EX->args.length=ps.length)
  (hbody:∀(cdv:Value)(A:Jh)(outer:List Env)(s:Shared)(H:Hp)(E:XK),Room k (A.deeper (envOfC qual (Ql st) s.heap.objs.size f cdv)) ->
   ∃wd,QSs (Qjl CX0 P w K mg base N qual (Ql st) f cdv A outer s H E).nox E0 (Je st) wd/\∀args R EX,fD args R EX->wd (QlU fr R XF) (stD N args)):FnOk P w K mg base CX0 (k+1) f fd ps (JE fr fD):=
 okD fr F S len λcdv A outer s H E hr=>let ⟨wd,h,q⟩:=hbody cdv A outer s H E hr;⟨wd,h.h,q⟩
end
structure GOk (wg:DG):Prop where h:∀d δ Q,wg d δ Q->wg d δ λδ'=>(∀(j:Nat) x,δ'[j]? = some x->(∃e,x=.v e)∨δ[j]? = some x)/\Q δ'
theorem Qil(i:Nat):GOk (gN i):=⟨λd δ Q h=>⟨λj x e=>by
 by_cases z:j=i
 ·subst z;exact .inl ⟨d,set_eq e⟩
 ·rw[YV z] at e;exact .inr e,h⟩⟩
theorem QlN{cap:List (Option Nat)}{ix:List Nat}(hf:Qa2 cap ix=true){i:Nat}(hi:i∈ix):cap[i]? = some none:=by
 have:=JM.mp hf i hi;split at this
 ·assumption
 ·cases this
theorem Qdd{cap:List (Option Nat)}{ix:List Nat}(hf:Qa2 cap ix=true){δ:Sts}{i:Nat}{x:Sl}(h:(Qde cap δ)[i]? = some x)(hx:x≠.no):i∉ix:=λz=>by
 rcases Qfu h with⟨_,e⟩ | ⟨j,hj,_⟩
 ·exact hx e
 ·rw[QlN hf z] at hj;cases hj
section
variable{K:PySem.W.Frag}{σ σ4:L2.St}{δ δ4:Sts}{cap:List (Option Nat)}{ix:List Nat}{A1:Addr->Prop}{H3 H5 H6:Hp}
theorem Qpr(hP:∀a,ZY σ δ a->A1 a)(hf:Qa2 cap ix=true)(j4:∀j,j∉ix->σ4[j]? = (QcD cap σ)[j]?)(gk:∀(j:Nat) x,δ4[j]? = some x->(∃e,x=.v e)∨(Qde cap δ)[j]? = some x){a:Addr}(h:Av (inF A1 cap σ δ H3) σ4 δ4 a):A1 a:=by
 rcases h with z | ⟨i,h1,h2⟩
 ·exact z
 ·refine(Qij (cap:=cap) (H:=H3) hP).mp ?_
  rcases h2 with h2 | ⟨ds,h2⟩
  ·rcases gk i _ h2 with⟨e,z⟩ | z
   ·cases z
   ·exact .inr ⟨i,by rw[<- j4 i (Qdd hf z (λz=>by cases z))];exact h1,.inl z⟩
  ·rcases gk i _ h2 with⟨e,z⟩ | z
   ·cases z
   ·exact .inr ⟨i,by rw[<- j4 i (Qdd hf z (λz=>by cases z))];exact h1,.inr ⟨ds,z⟩⟩
theorem QsY(hP:∀a,ZY σ δ a->A1 a)(hf:Qa2 cap ix=true)(j4:∀j,j∉ix->σ4[j]? = (QcD cap σ)[j]?)(gk:∀(j:Nat) x,δ4[j]? = some x->(∃e,x=.v e)∨(Qde cap δ)[j]? = some x)
  (ri:Rel K (inF A1 cap σ δ H6) (QcD cap σ) H6 (Qde cap δ))(r5:Rel K (inF A1 cap σ δ H3) σ4 H5 δ4)(kk:∀a o,¬A1 a->H5 a=some o->H6 a=some o):Rel K (inF A1 cap σ δ H6) σ4 H6 δ4 where
 len:=r5.len
 dom:=ri.dom
 dom0:=ri.dom0
 pt0:=ri.pt0
 kx:=ri.kx
 sl:=λi o x h1 h2=>by
  have iv:∀{a:Addr},Av (inF A1 cap σ δ H6) σ4 δ4 a->A1 a:=λ{a} z=>Qpr hP hf j4 gk z
  rcases gk i x h2 with⟨d,rfl⟩ | hx
  ·obtain⟨v,e,q⟩:=r5.sl i o _ h1 h2;exact⟨v,e,q.mv (λa o n e=>kk a o (λz=>n (.inl z)) e) λa z=>.inl (.inl (iv z))⟩
  ·by_cases hn:x=.no
   ·subst hn;trivial
   ·have h1':(QcD cap σ)[i]? = some o:=by rw[<- j4 i (Qdd hf hx hn)];exact h1
    have h:=ri.sl i o x h1' hx;cases x with
    |no=>trivial
    |v d=>obtain⟨v',e,q'⟩:=h;exact⟨v',e,q'.mv (λ_ _ _ e=>e) λa z=>.inl (.inl (iv z))⟩
    |own ds=>obtain⟨l,xs,e,e2,q',f⟩:=h;exact⟨l,xs,e,e2,q'.mv (λ_ _ _ e=>e) λa z=>.inl (.inl (iv z)),f⟩
    |pk ds=>obtain⟨l,xs,e,e2,q',f⟩:=h;exact⟨l,xs,e,e2,q'.mv (λ_ _ _ e=>e) λa z=>.inl (.inl (iv z)),f⟩
    |pot=>exact h
    |scr=>exact h
 inj:=λi j a ds h1 h2 _=>by
  rcases gk i _ h1 with⟨e,z⟩ | z
  ·cases z
  ·rcases Qfu z with⟨_,e⟩ | ⟨j,hj,e⟩
   ·cases e
   ·exfalso
    cases e2:δ[j]? with
    |none=>rw[e2] at e;cases e
    |some y=>rw[e2] at e;cases y<;>cases e
end
theorem Qm0{K:PySem.W.Frag}{F:Fm}{σ:L2.St}{δ:Sts}{H1 H3:Hp}{cap:List (Option Nat)}{ix:List Nat}{wg:DG}{wt:DT}{A1:Addr->Prop}{x:V}{d:PyData}{inner:L2.St->Hp->(Hp->Prop)->Prop}{kk:Hp->Prop}{T:Sts->Prop}{N:Prop}(gok:GOk wg)
  (hf:Qa2 cap ix=true)(rel:Rel K F σ H1 δ)(hA:∀a,Av F σ δ a->A1 a)(hN:∀a,A1 a->Av F σ δ a∨H1 a=none)(dm:∀a,A1 a->∃xs,H3 a=some (.lst xs))(kp:Kp σ δ H1 H3)(dx:DA A1 H3 x d)
  (h:wg d (Qde cap δ) λδ4=>wt δ4 (λb=>if b=true then T δ4 else N) XF)
  (hT:∀σ4 δ4 H5,T δ4->Rel K (inF A1 cap σ δ H3) σ4 H5 δ4->Kp σ δ H3 H5->(∀j,j∉ix->σ4[j]? = (QcD cap σ)[j]?)->σ4.length=(QcD cap σ).length->(∀(j:Nat) x,δ4[j]? = some x->(∃e,x=.v e)∨(Qde cap δ)[j]? = some x)->inner σ4 H5 kk)(hF:N->∀H5,Kp σ δ H3 H5->kk H5) :
  bOf (QcD cap σ) (tG ix K wg) (tT K E0 wt) inner x H3 kk:=by
 have ri:=QlH (cap:=cap) rel hA hN dm kp;have iv:∀{a:Addr},Av (inF A1 cap σ δ H3) (QcD cap σ) (Qde cap δ) a->A1 a:=λ{a}=>(Qij λa z=>hA a (YE z)).mp
 refine⟨inF A1 cap σ δ H3,Qde cap δ,d,_,ri,dx.mv (λ_ _ _ e=>e) λa z=>.inl (iv z),gok.h _ _ _ h,λδ4 ⟨g4,h4⟩ σ4 r4 st4 l4 j4=>⟨QpN hf l4 j4,inF A1 cap σ δ H3,δ4,_,XF,r4,h4,λb hb H5 r5 kp5=>?_,QmE⟩⟩;have pots:∀{b:Addr},ZY σ4 δ4 b->ZY σ δ b:=λz=>Qhk r4 (λb o _ e1 e2=>by rw[e2] at e1;cases e1) z
 have K5:Kp σ δ H3 H5:=by
  refine⟨λb o n e=>kp5.1 b o (λz=>n (pots z)) e,λb hb=>?_⟩;by_cases z:ZY σ4 δ4 b
  ·exact kp5.2 b z
  ·obtain⟨n,e⟩:=kp.2 b hb;exact⟨n,kp5.1 _ _ z e⟩
 exact Qby hb (λz=>hT σ4 δ4 H5 z r5 K5 j4 l4 g4) λz=>hF z H5 K5
theorem Qs9{K:PySem.W.Frag}{σ σ4:L2.St}{δ δ4:Sts}{H1 H3 H5:Hp}{cap:List (Option Nat)}{we:DE}{A1:Addr->Prop}{p:Addr}{acc:List PyData}{kk:Hp->Prop}{G:PyData->Prop}
  (hpA:A1 p)(hP:∀a,ZY σ δ a->A1 a)(hp1:H1 p=none)(hpn:¬ZY σ δ p)(lp:Lp σ δ A1 p H1 H5 acc)(hl:acc.length<sizeLine)(r5:Rel K (inF A1 cap σ δ H3) σ4 H5 δ4)(pots:∀b,ZY σ4 δ4 b->ZY σ δ b)
  (h:we δ4 G XF)(hk:∀e,G e->∀H',Lp σ δ A1 p H1 H' (acc++[e])->(∀b o,¬A1 b->H5 b=some o->H' b=some o)->kk H'):Qwe p (tX .D K E0 we) σ4 H5 kk:=by
 refine⟨inF A1 cap σ δ H3,δ4,G,XF,r5,h,λe he v H6 r6 kp6 dv=>?_,QmE⟩;have k56:Kp σ δ H5 H6:=by
  refine⟨λb o n e=>kp6.1 b o (λz=>n (pots b z)) e,λb hb=>?_⟩;by_cases z:ZY σ4 δ4 b
  ·exact kp6.2 b z
  ·obtain⟨n,e⟩:=lp.kp.2 b hb;exact⟨n,kp6.1 _ _ z e⟩
 obtain⟨k6,ys,e6,q6⟩:=lp.step hP hpn k56;have up:∀{b:Addr}{o:HO},¬A1 b->H6 b=some o->upd H6 p (.lst (ys++[v])) b=some o:=λ{b o} n e=>by rw[Jq (λz=>n (by rw[z];exact hpA))];exact e
 refine⟨ys,e6,by rw[q6.length];exact hl,hk e he _ ⟨⟨λb o n e=>?_,λb hb=>?_⟩,ys++[v],Ju,DAs.app (q6.mv (λ_ _=>up) λa z=>.inl z) (.cons (DA.mv dv (λa o n e=>up (λz=>n (.inl z)) e) λa z=>.inl (.inl z)) .nil)⟩ λb o n e=>up n (kp6.1 b o (λz=>n (hP b (pots b z))) e)⟩
 ·rw[Jq (λz=>by rw[z,hp1] at e;cases e)];exact k6.1 b o n e
 ·rw[Jq (λz=>hpn (by rw[<- z];exact hb))];exact k6.2 b hb
def Qos:Nat:=1000000
@[irreducible] def InR(items2:List PyData)(wg2:DG)(wt2:DT)(we:DE)(δ4:Sts)(acc:List PyData)(N:List PyData->Prop):Prop:=∃Jv:Nat->List PyData->Prop,Jv 0 acc /\
 (∀(j:Nat) acc2 d2,items2[j]? = some d2->Jv j acc2->acc2.length<Qos/\wg2 d2 δ4 λδ5=>wt2 δ5 (λb=>if b=true then we δ5 (λe=>Jv (j+1) (acc2++[e])) XF else Jv (j+1) acc2) XF)/\∀acc2,Jv items2.length acc2->N acc2
@[irreducible] def QiD(items:List PyData)(wg:DG)(wt:DT)(wi2:DI)(wg2:DG)(wt2:DT)(we:DE)(δ:Sts)(Q:PyData->Prop):Prop:=∃Iv:Nat->List PyData->Prop,Iv 0 [] /\
 (∀(i:Nat) acc d,items[i]? = some d->Iv i acc->wg d δ λδ4=>wt δ4 (λb=>if b=true then wi2 δ4 (λitems2=>InR items2 wg2 wt2 we δ4 acc (Iv (i+1))) XF else Iv (i+1) acc) XF)/\∀acc,Iv items.length acc->Q (.list acc)
def Ql3(cap:List (Option Nat))(wi:DI)(wg:DG)(wt:DT)(wi2:DI)(wg2:DG)(wt2:DT)(we:DE):DE:=λδ Q EX=>wi δ (λitems=>QiD items wg wt wi2 wg2 wt2 we (Qde cap δ) Q) EX
section
variable{X:Cx}{E:XK}
theorem Qor:Qos<=sizeLine:=Q1 (by decide) Qlv
end
section
variable{X:Cx}{E:XK}
end
theorem QvK{items2:List PyData}{wg2:DG}{wt2:DT}{we:DE}{δ4:Sts}{acc:List PyData}{N:List PyData->Prop}(G:PyData->Option PyData)(hl:acc.length+items2.length<Qos)
  (h:∀d∈items2,∀(k1:Prop)(k2:PyData->Prop),(G d=none->k1)->(∀e,G d=some e->k2 e)->wg2 d δ4 λδ5=>wt2 δ5 (λb=>if b=true then we δ5 k2 XF else k1) XF)(q:N (acc++items2.filterMap G)) :
  InR items2 wg2 wt2 we δ4 acc N:=by
 unfold InR;refine⟨λi acc2=>acc2=acc++(items2.take i).filterMap G,by simp,λi acc2 d hd e=>?_,λacc2 e=>by rw[e,J3];exact q⟩;have e:acc2=acc++(items2.take i).filterMap G:=e;have hs:(items2.take (i+1)).filterMap G=(items2.take i).filterMap G++(G d).toList:=by
  rw[JR,hd,QjB];cases e2:G d<;>simp[e2]
 refine⟨?_,h d (Qz hd) _ _ (λe2=>?_) λe' e2=>?_⟩
 ·have:=List.length_filterMap_le G (items2.take i);have h2:(items2.take i).length<=items2.length:=by rw[Yz];exact QeM _ _
  rw[e,Qx];omega
 ·show acc2=acc++(items2.take (i+1)).filterMap G;rw[hs,e2,e];simp
 ·show acc2++[e']=acc++(items2.take (i+1)).filterMap G;rw[hs,e2,e];simp
theorem QvJ{items2:List PyData}{wg2:DG}{we:DE}{δ4:Sts}{acc:List PyData}{N:List PyData->Prop}(G:PyData->PyData)(hl:acc.length+items2.length<Qos)
  (h:∀d∈items2,∀(k2:PyData->Prop),k2 (G d)->wg2 d δ4 λδ5=>we δ5 k2 XF)(q:N (acc++items2.map G)):InR items2 wg2 QtL we δ4 acc N:=by
 refine QvK (λd=>some (G d)) hl (λd hd k1 k2 _ h2=>?_) (by rw[show items2.filterMap (λd=>some (G d))=items2.map G from by rw[<- List.filterMap_eq_map];rfl];exact q);have hh:=h d hd k2 (h2 _ rfl);simp only[QtL,if_true];exact hh
def QkB:List V->Hp->VK->Prop:=λxs H Q=>∃l ns,xs=[.ref l]/\H l=some (.lst ((ns:List Int).map V.int))/\ns.length<64 /\
 ∀t ms H2,Same H H2->H t=none->H2 t=some (.lst ((ms:List Int).map V.int))->ms.Perm ns->ms.Pairwise (·<=·)->Q (.ref t) H2
section
open Rs PySem.W PySem.Calls
variable{X:Cx}
theorem Qht:CallR X (.builtin "sorted") QkB:=by
 intro pins s σ H xs us Q I r h;obtain⟨l,ns,rfl,hl,h64,q⟩:=h;obtain⟨u,rfl,ru⟩:=vals1 r;cases ru;obtain⟨hz,its,n,rv,ho⟩:=I.hok l _ hl;have li:=rv.length;rw[Qe] at li;refine QcO (.inl rfl) ho rfl rfl (by omega) λh' kp P E' hP=>?_
 have hn:(h'.push (seqObj "list" its.toArray 0)).get? h'.objs.size=some (seqObj "list" its.toArray 0):=Qv _ rfl;refine list_sort_tree (s:={ s with heap:=h'.push (seqObj "list" its.toArray 0) }) hn (Qfl rv) (by omega) λout ns' ia pm pw=>hP _ ?_
 have I1:Inv X pins σ H { s with heap:=h' }:=I.kept (t':=s.toks) kp;have hf:H h'.objs.size=none:=I1.hok.fresh (Qi _);obtain⟨e,he⟩:∃e,(sortedHeap (h'.push (seqObj "list" its.toArray 0)) h'.objs.size its out).get? h'.objs.size=some (seqObj "list" out e):=sortedHeap_at hn
 have rv':=Qfz ia;have lp:=pm.length_eq;have I2:Inv X pins σ (upd H h'.objs.size (.lst (ns'.map V.int))) { s with heap:=sortedHeap (h'.push (seqObj "list" its.toArray 0)) h'.objs.size its out }:=
  I1.laid (t':=s.toks) (λb x e'=>(sortedHeap_old (QF (Qj e')) (QU (Qj e') (by rw[size_push'];exact Nat.le_succ _))).trans (Qd _ e')) (Qi _) (show ObjOk X.prog X.w _ _ _ (.lst _) from⟨by rw[Qe];exact ZC (Rk.Qcv (by omega)),out.toList,e,rv',by rw[he]⟩)
 exact⟨.ref h'.objs.size,_,I2,rfl,q _ ns' _ (JI hf) hf Ju pm pw⟩
def Qpc(K:PySem.W.Frag):List V->Hp->VK->Prop:=λxs H Q=>Qpb K xs H Q∨QkB xs H Q
theorem Qjo:CallR X (.builtin "sorted") (Qpc X.K):=by
 intro pins s σ H xs us Q I r h;rcases h with h | h
 ·exact Qjn pins s σ H xs us Q I r h
 ·exact Qht pins s σ H xs us Q I r h
end
@[irreducible] def Qkk:List PyData->(PyData->Prop)->Prop
 |[.list ds],Q=>∃ns,Qaj ds=some ns/\ns.length<64/\∀ms:List Int,ms.Perm ns->ms.Pairwise (·<=·)->Q (.list (ms.map .int))
 |[.tuple ds],Q=>∃ns,Qaj ds=some ns/\ns.length<64/\∀ms:List Int,ms.Perm ns->ms.Pairwise (·<=·)->Q (.list (ms.map .int))
 |_,_=>False
theorem Qfk{A:Addr->Prop}{H:Hp}:∀ms:List Int,DAs A H (ms.map V.int) (ms.map .int)
 |[]=>.nil
 |m::ms=>.cons (.int m) (Qfk ms)
theorem Qtl{K:PySem.W.Frag}:QaK (Qpc K) Qkk:=λA P H vs ds R Q ln dm q h k=>by
 unfold Qkk at h;split at h
 ·obtain⟨v,rfl,hv⟩:=pd1 q;obtain⟨bs,hb,h64,hR⟩:=h;rw[QbI hb] at hv;obtain⟨l,xs,rfl,e,qq⟩:=hv.list;rw[QaB qq] at e;exact .inr ⟨l,bs,rfl,e,h64,λt ms H2 s n e2 pm pw=>k _ (hR ms pm pw) _ H2 s (Qeo dm s n e2 (Qfk ms)) (QbK n)⟩
 ·obtain⟨v,rfl,hv⟩:=pd1 q;obtain⟨bs,hb,h64,hR⟩:=h;rw[QbI hb] at hv;obtain⟨l,xs,rfl,e,qq⟩:=hv.tuple;rw[QaB qq] at e;exact .inl ⟨l,bs,rfl,SqT.of e,h64,λt ms H2 s n e2 pm pw=>k _ (hR ms pm pw) _ H2 s (Qeo dm s n e2 (Qfk ms)) (QbK n)⟩
 ·exact h.elim
theorem Qrp{ds:List PyData}{Q:PyData->Prop}{ns:List Int}(h:Qaj ds=some ns)(h64:ns.length<64)(k:∀ms:List Int,ms.Perm ns->ms.Pairwise (·<=·)->Q (.list (ms.map .int))):Qkk [.list ds] Q/\Qkk [.tuple ds] Q:=by
 unfold Qkk;exact⟨⟨ns,h,h64,k⟩,ns,h,h64,k⟩
def QzH(a b:DI):DI:=λδ R EX=>a δ R EX∨b δ R EX
theorem QxE{X:Cx}{E:XK}{m:Md}{tg e:QV}{a b:DI}(h:QI m X E tg e a)(h':QI m X E tg e b):QI m X E tg e (QzH a b):=⟨λpins s σ H R I ⟨F,δ,R',EX,rel,hw,k,o⟩=>by
 rcases hw with hw | hw
 ·exact h.h pins s σ H R I ⟨F,δ,R',EX,rel,hw,k,o⟩
 ·exact h'.h pins s σ H R I ⟨F,δ,R',EX,rel,hw,k,o⟩⟩
end Dl
namespace PySem
namespace AutoSeq1
open PyProof
end AutoSeq1
end PySem
namespace L2
end L2
namespace Dl
open L2 _root_.Rd Rk
section
variable{X:Cx}{E:XK}
end
theorem Ql6{K:PySem.W.Frag}{E:XK}{cap:List (Option Nat)}{ix:List Nat}{wi:DI}{wg:DG}{wt:DT}{we:DE}(hf:Qa2 cap ix=true)(σ:L2.St)(H:Hp)(Q:VK)(h:tX .F K E (dComp cap wi wg wt we) σ H Q) :
  tComp cap (tI .P K E wi) (tG ix K wg) (tT K E0 wt) (tX .D K E0 we) σ H Q:=by
 obtain⟨F,δ,R,EX,rel,hw,k,o⟩:=h;refine⟨F,δ,_,EX,rel,hw,λitems hC J H1 rel1 kp1 ⟨ln,it⟩ p hp=>?_,o⟩;unfold QhC at hC;obtain⟨Iv,i0,step,fin⟩:=hC;have hpn:¬ZY σ δ p:=λz=>by obtain⟨xs,e⟩:=rel1.isl (YE (F:=F) z);rw[hp] at e;cases e
 let A1:Addr->Prop:=λa=>Av F σ δ a∨a=p
 have hP:∀a,ZY σ δ a->A1 a:=λa z=>.inl (YE z)
 have hN:∀a,A1 a->Av F σ δ a∨H1 a=none:=λa z=>z.elim .inl λz=>.inr (by rw[z];exact hp)
 have dmK:∀{H2:Hp},Kp σ δ H1 H2->(∃ys,H2 p=some (.lst ys))->∀a,A1 a->∃xs,H2 a=some (.lst xs):=λ{H2} k2 e2 a z=>by
  rcases z with z | z
  ·exact(rel1.kp k2).isl z
  ·rw[z];exact e2
 refine Qfi items.length (λi H2=>i<=items.length/\∃acc,Iv i acc/\acc.length<=i/\Lp σ δ A1 p H1 H2 acc) ⟨Jm _,[],i0,Qi _,Kp.same rel1 (JI hp),[],Ju,.nil⟩ (λi H2 hi ⟨_,acc,iv,hl,lp⟩=>?_) λH2 ⟨_,acc,iv,hl,lp⟩=>?_
 ·obtain⟨k2,ys,e2,q2⟩:=lp;obtain⟨go,_⟩:=it H2 A1 (λb o n e=>k2.1 b o n e) hN (dmK k2 ⟨ys,e2⟩);have hd:items[i]? = some items[i]:=Qg hi;obtain⟨g1,g2⟩:=go i _ hd;refine⟨g1,λx H3 y kk hk=>?_⟩;obtain⟨s3,dx⟩:=g2 x H3 y;have k23:=Kp.same (rel1.kp k2) s3;have lp3:Lp σ δ A1 p H1 H3 acc:=Lp.step hP hpn ⟨k2,ys,e2,q2⟩ k23;refine Qj3 hf rel1 (λa z=>.inl z) hN (dmK lp3.kp ⟨ys,s3 _ _ e2⟩) lp3.kp dx (step i acc _ hd iv) (λσ4 δ4 H5 h5 r5 k5 pots=>?_) λh5 H5 k5=>hk _ ⟨hi,acc,h5,by omega,lp3.step hP hpn k5⟩
  exact QpB (.inr rfl) hP hp hpn (lp3.step hP hpn k5) (by omega) r5 pots h5 λe he H' lp'=>hk _ ⟨hi,acc++[e],he,by rw[Qx];show _+1<=_;omega,lp'⟩
 ·obtain⟨k2,ys,e2,q2⟩:=lp;obtain⟨_,st⟩:=it H2 A1 (λb o n e=>k2.1 b o n e) hN (dmK k2 ⟨ys,e2⟩);refine⟨st,k _ (fin acc iv) (.ref p) H2 (rel1.kp k2) (kp1.trans k2) ⟨.lst (λz=>?_) e2 (q2.mv (λ_ _ _ e=>e) λa z=>.inl (.inl z)),λl e1 _=>?_⟩⟩
  ·obtain⟨xs,e⟩:=rel1.isl z;rw[hp] at e;cases e
  ·cases e1;exact Qa0 kp1 hp
theorem QyV{K:PySem.W.Frag}{E:XK}{w:DE}(σ:L2.St)(H:Hp)(Q:VK)(h:tX .D K E w σ H Q):tX .F K E w σ H Q:=by
 obtain⟨F,δ,R,EX,rel,hw,k,o⟩:=h;exact⟨F,δ,R,EX,rel,hw,λd hd v H' r kp vk=>k d hd v H' r kp vk.1,o⟩
section
variable{X:Cx}{E:XK}
theorem Qe5(M:List Str)(cap:List (Option Nat))(i:Nat){elt tg iter:QV}{ifs:List QV}{scope:Yl}{pos py spos:Pos}{y:Str}{ix:List Nat}{wi:DI}{wg:DG}{wt:DT}{we:DE}(hN:X.N.Nodup)(hi:QI .P X E tg iter wi)(hb:∀cl ex s3 H3 C,QG ix (blk X M scope cl ex s3 H3 C) tg wg/\QTs (blk X M scope cl ex s3 H3 C) E0 ifs wt/\QE .D (blk X M scope cl ex s3 H3 C) E0 elt we)(hiy:X.N[i]? = some y:=by rfl)(hly:X.env.scope.names.lookup y=some .local:=by rfl)(hc:X.calm=true:=by rfl)(ok:Qd0 X.N X.env.scope M scope cap=true:=by rfl)(hf:Qa2 cap ix=true:=by rfl)(hs:∀x,foldedSetIterable iter X.env x=pure x:=by intro _;rfl)(hsw:swapsWith (.ListComp elt [⟨tg,iter,ifs,0⟩] scope pos) (some (.Name y py)) spos.line X.env=pure true:=by rfl):QS X E (.Assign [.Name y py] (.ListComp elt [⟨tg,iter,ifs,0⟩] scope pos) spos) (QwM i (dComp cap wi wg wt we)):=
 ⟨Qha (PS.imp (PS.imp (Qnu hN hiy hly hc ok hi.h (λcl ex s3 H3 C=>⟨(hb cl ex s3 H3 C).1.h,(hb cl ex s3 H3 C).2.1.h,(hb cl ex s3 H3 C).2.2.h⟩) hs hsw) λD σ H q=>Ql6 (E:=E) hf σ H _ q) λD σ H q=>QyV σ H _ q)⟩
end
theorem Qey{K:PySem.W.Frag}{E:XK}{cap:List (Option Nat)}{ix ix2:List Nat}{wi wi2:DI}{wg wg2:DG}{wt wt2:DT}{we:DE}(gok:GOk wg)(hf:Qa2 cap ix=true)(hf2:Qa2 cap ix2=true)(hd:ix2.all (λi => !ix.contains i)=true)(σ:L2.St)(H:Hp)(Q:VK)(h:tX .F K E (Ql3 cap wi wg wt wi2 wg2 wt2 we) σ H Q) :
  Qo3 cap (tI .P K E wi) (tG ix K wg) (tT K E0 wt) (tI .D K E0 wi2) (tG ix2 K wg2) (tT K E0 wt2) (tX .D K E0 we) σ H Q:=by
 obtain⟨F,δ,R,EX,rel,hw,k,o⟩:=h;refine⟨F,δ,_,EX,rel,hw,λitems hC J H1 rel1 kp1 ⟨ln,it⟩ p hp=>?_,o⟩;unfold QiD at hC;obtain⟨Iv,i0,step,fin⟩:=hC;have hpn:¬ZY σ δ p:=λz=>by obtain⟨xs,e⟩:=rel1.isl (YE (F:=F) z);rw[hp] at e;cases e
 let A1:Addr->Prop:=λa=>Av F σ δ a∨a=p
 have hP:∀a,ZY σ δ a->A1 a:=λa z=>.inl (YE z)
 have hN:∀a,A1 a->Av F σ δ a∨H1 a=none:=λa z=>z.elim .inl λz=>.inr (by rw[z];exact hp)
 have dmK:∀{H2:Hp},Kp σ δ H1 H2->(∃ys,H2 p=some (.lst ys))->∀a,A1 a->∃xs,H2 a=some (.lst xs):=λ{H2} k2 e2 a z=>by
  rcases z with z | z
  ·exact(rel1.kp k2).isl z
  ·rw[z];exact e2
 refine Qfi items.length (λi H2=>i<=items.length/\∃acc,Iv i acc/\Lp σ δ A1 p H1 H2 acc) ⟨Jm _,[],i0,Kp.same rel1 (JI hp),[],Ju,.nil⟩ (λi H2 hi ⟨_,acc,iv,lp⟩=>?_) λH2 ⟨_,acc,iv,lp⟩=>?_
 ·obtain⟨k2,ys,e2,q2⟩:=lp;obtain⟨go,_⟩:=it H2 A1 (λb o n e=>k2.1 b o n e) hN (dmK k2 ⟨ys,e2⟩);have hd':items[i]? = some items[i]:=Qg hi;obtain⟨g1,g2⟩:=go i _ hd';refine⟨g1,λx H3 y kk hk=>?_⟩;obtain⟨s3,dx⟩:=g2 x H3 y;have k23:=Kp.same (rel1.kp k2) s3;have lp3:Lp σ δ A1 p H1 H3 acc:=Lp.step hP hpn ⟨k2,ys,e2,q2⟩ k23;refine Qm0 gok hf rel1 (λa z=>.inl z) hN (dmK lp3.kp ⟨ys,s3 _ _ e2⟩) lp3.kp dx (step i acc _ hd' iv) (λσ4 δ4 H5 h5 r5 k5 j4 l4 g4=>?_) λh5 H5 k5=>hk _ ⟨hi,acc,h5,lp3.step hP hpn k5⟩
  have av4:∀{H:Hp}{a:Addr},Av (inF A1 cap σ δ H) σ4 δ4 a->A1 a:=λ{H a} z=>Qpr hP hf j4 g4 z
  refine⟨inF A1 cap σ δ H3,δ4,_,XF,r5,h5,λitems2 hJ J2 H7 rel7 kp7 ⟨ln2,it2⟩=>?_,QmE⟩;unfold InR at hJ;obtain⟨Jv,z0,step2,fin2⟩:=hJ;have pots4:∀{b:Addr},ZY σ4 δ4 b->ZY σ δ b:=λ{b} z=>by
   obtain⟨j,z1,z2⟩:=z;rcases g4 j _ z2 with⟨e,z⟩ | z
   ·cases z
   ·exact QbL ⟨j,by rw[<- j4 j (Qdd hf z (λz=>by cases z))];exact z1,z⟩
  have k57:Kp σ δ H5 H7:=by
   refine⟨λb o n e=>kp7.1 b o (λz=>n (pots4 z)) e,λb hb=>?_⟩;by_cases z:ZY σ4 δ4 b
   ·exact kp7.2 b z
   ·obtain⟨n,e⟩:=k5.2 b hb;exact⟨n,kp7.1 _ _ z e⟩
  refine Qfi items2.length (λj H8=>j<=items2.length/\∃acc2,Jv j acc2/\Lp σ δ A1 p H1 H8 acc2/\∀b o,¬A1 b->H7 b=some o->H8 b=some o) ⟨Jm _,acc,z0,(lp3.step hP hpn k5).step hP hpn k57,λ_ _ _ e=>e⟩ (λj H8 hj ⟨_,acc2,jv,lp8,s78⟩=>?_) λH8 ⟨_,acc2,jv,lp8,s78⟩=>?_
  ·obtain⟨ys8,e8,q8⟩:=lp8.at_;obtain⟨go2,_⟩:=it2 H8 A1 (λb o n e=>s78 b o (λz=>n (.inl z)) e) (λb z=>.inl (.inl z)) (dmK lp8.kp ⟨ys8,e8⟩);have hd2:items2[j]? = some items2[j]:=Qg hj;obtain⟨g3,g5⟩:=go2 j _ hd2;refine⟨g3,λx2 H9 y2 kk2 hk2=>?_⟩;obtain⟨s9,dx2⟩:=g5 x2 H9 y2;have k89:=Kp.same (rel1.kp lp8.kp) s9;have lp9:Lp σ δ A1 p H1 H9 acc2:=lp8.step hP hpn k89;have ri:=QlH (cap:=cap) rel1 (λa z=>.inl z) hN (dmK lp9.kp ⟨ys8,s9 _ _ e8⟩) lp9.kp;have r9:=QsY hP hf j4 g4 ri r5 λa o n e=>s9 _ _ (s78 a o n (k57.1 a o (λz=>n (hP a z)) e))
   obtain⟨hl2,hw2⟩:=step2 j acc2 _ hd2 jv;refine⟨inF A1 cap σ δ H9,δ4,_,_,r9,dx2.mv (λ_ _ _ e=>e) λa z=>.inl (av4 z),hw2,λδ5 h6 σ5 r10 st5 l5 j5=>⟨QmW l5 λi v e=>?_,inF A1 cap σ δ H9,δ5,_,XF,r10,h6,λb hb H10 r11 kp11=>?_,QmE⟩⟩
   ·by_cases z:i∈ix2
    ·have n1:i∉ix:=λz2=>by
      have:=JM.mp hd i z;simp[z2] at this
     rw[j4 i n1] at e;rcases Qft e with⟨_,e2⟩ | ⟨j,hj2,_⟩
     ·cases e2
     ·rw[QlN hf2 z] at hj2;cases hj2
    ·rw[j5 i z];exact e
   ·have pots:∀{b:Addr},ZY σ5 δ5 b->ZY σ δ b:=λz=>Qhk r10 (λb o _ e1 e2=>by rw[e2] at e1;cases e1) z
    have K10:Kp σ δ H9 H10:=by
     refine⟨λb o n e=>kp11.1 b o (λz=>n (pots z)) e,λb hb=>?_⟩;by_cases z:ZY σ5 δ5 b
     ·exact kp11.2 b z
     ·obtain⟨n,e⟩:=lp9.kp.2 b hb;exact⟨n,kp11.1 _ _ z e⟩
    have s710:∀b o,¬A1 b->H7 b=some o->H10 b=some o:=λb o n e=>K10.1 b o (λz=>n (hP b z)) (s9 _ _ (s78 b o n e))
    refine Qby hb (λz=>?_) λz=>hk2 _ ⟨hj,acc2,z,lp9.step hP hpn K10,s710⟩
    exact Qs9 (.inr rfl) hP hp hpn (lp9.step hP hpn K10) (QU hl2 Qor) r11 (λb=>pots) z λe he H' lp' kk'=>hk2 _ ⟨hj,acc2++[e],he,lp',λb o n e=>kk' b o n (s710 b o n e)⟩
  ·obtain⟨ys8,e8,q8⟩:=lp8.at_;obtain⟨_,st2⟩:=it2 H8 A1 (λb o n e=>s78 b o (λz=>n (.inl z)) e) (λb z=>.inl (.inl z)) (dmK lp8.kp ⟨ys8,e8⟩);exact⟨st2,hk _ ⟨hi,acc2,fin2 acc2 jv,lp8⟩⟩
 ·obtain⟨k2,ys,e2,q2⟩:=lp;obtain⟨_,st⟩:=it H2 A1 (λb o n e=>k2.1 b o n e) hN (dmK k2 ⟨ys,e2⟩);refine⟨st,k _ (fin acc iv) (.ref p) H2 (rel1.kp k2) (kp1.trans k2) ⟨.lst (λz=>?_) e2 (q2.mv (λ_ _ _ e=>e) λa z=>.inl (.inl z)),λl e1 _=>?_⟩⟩
  ·obtain⟨xs,e⟩:=rel1.isl z;rw[hp] at e;cases e
  ·cases e1;exact Qa0 kp1 hp
section
variable{X:Cx}{E:XK}
theorem QkD(M:List Str)(cap:List (Option Nat))(i:Nat){elt tg iter tg2 iter2:QV}{ifs ifs2:List QV}{scope:Yl}{pos py spos:Pos}{y:Str}{ix ix2:List Nat}{wi wi2:DI}{wg wg2:DG}{wt wt2:DT}{we:DE}(hN:X.N.Nodup)(gok:GOk wg)(hi:QI .P X E tg iter wi)(hb:∀cl ex s3 H3 C,QG ix (blk X M scope cl ex s3 H3 C) tg wg/\QTs (blk X M scope cl ex s3 H3 C) E0 ifs wt/\QI .D (blk X M scope cl ex s3 H3 C) E0 tg2 iter2 wi2/\QG ix2 (blk X M scope cl ex s3 H3 C) tg2 wg2/\QTs (blk X M scope cl ex s3 H3 C) E0 ifs2 wt2/\QE .D (blk X M scope cl ex s3 H3 C) E0 elt we)(hiy:X.N[i]? = some y:=by rfl)(hly:X.env.scope.names.lookup y=some .local:=by rfl)(hc:X.calm=true:=by rfl)(ok:Qd0 X.N X.env.scope M scope cap=true:=by rfl)(hf:Qa2 cap ix=true:=by rfl)(hf2:Qa2 cap ix2=true:=by rfl)(hd:ix2.all (λi => !ix.contains i)=true:=by rfl)(hs:∀x,foldedSetIterable iter X.env x=pure x:=by intro _;rfl)(hs2:∀env x,foldedSetIterable iter2 env x=pure x:=by intro _ _;rfl)(hsw:swapsWith (.ListComp elt [⟨tg,iter,ifs,0⟩,⟨tg2,iter2,ifs2,0⟩] scope pos) (some (.Name y py)) spos.line X.env=pure true:=by rfl):QS X E (.Assign [.Name y py] (.ListComp elt [⟨tg,iter,ifs,0⟩,⟨tg2,iter2,ifs2,0⟩] scope pos) spos) (Qtd i (Ql3 cap wi wg wt wi2 wg2 wt2 we)):=
 ⟨Qib (PS.imp (Qf9 hN hiy hly hc ok hi.h (λcl ex s3 H3 C=>⟨(hb cl ex s3 H3 C).1.h,(hb cl ex s3 H3 C).2.1.h,(hb cl ex s3 H3 C).2.2.1.h,(hb cl ex s3 H3 C).2.2.2.1.h,(hb cl ex s3 H3 C).2.2.2.2.1.h,(hb cl ex s3 H3 C).2.2.2.2.2.h⟩) hs hs2 hsw) λD σ H q=>Qey (E:=E) gok hf hf2 hd σ H _ q)⟩
theorem Qno(M:List Str)(cap:List (Option Nat))(i:Nat){elt tg iter tg2 iter2:QV}{ifs ifs2:List QV}{scope:Yl}{pos py spos:Pos}{y:Str}{ix ix2:List Nat}{wi wi2:DI}{wg wg2:DG}{wt wt2:DT}{we:DE}(hN:X.N.Nodup)(gok:GOk wg)(hi:QI .P X E tg iter wi)(hb:∀cl ex s3 H3 C,QG ix (blk X M scope cl ex s3 H3 C) tg wg/\QTs (blk X M scope cl ex s3 H3 C) E0 ifs wt/\QI .D (blk X M scope cl ex s3 H3 C) E0 tg2 iter2 wi2/\QG ix2 (blk X M scope cl ex s3 H3 C) tg2 wg2/\QTs (blk X M scope cl ex s3 H3 C) E0 ifs2 wt2/\QE .D (blk X M scope cl ex s3 H3 C) E0 elt we)(hiy:X.N[i]? = some y:=by rfl)(hly:X.env.scope.names.lookup y=some .local:=by rfl)(hc:X.calm=true:=by rfl)(ok:Qd0 X.N X.env.scope M scope cap=true:=by rfl)(hf:Qa2 cap ix=true:=by rfl)(hf2:Qa2 cap ix2=true:=by rfl)(hd:ix2.all (λi => !ix.contains i)=true:=by rfl)(hs:∀x,foldedSetIterable iter X.env x=pure x:=by intro _;rfl)(hs2:∀env x,foldedSetIterable iter2 env x=pure x:=by intro _ _;rfl)(hsw:swapsWith (.ListComp elt [⟨tg,iter,ifs,0⟩,⟨tg2,iter2,ifs2,0⟩] scope pos) (some (.Name y py)) spos.line X.env=pure true:=by rfl):QS X E (.Assign [.Name y py] (.ListComp elt [⟨tg,iter,ifs,0⟩,⟨tg2,iter2,ifs2,0⟩] scope pos) spos) (QwM i (Ql3 cap wi wg wt wi2 wg2 wt2 we)):=
 ⟨Qha (PS.imp (PS.imp (Qf9 hN hiy hly hc ok hi.h (λcl ex s3 H3 C=>⟨(hb cl ex s3 H3 C).1.h,(hb cl ex s3 H3 C).2.1.h,(hb cl ex s3 H3 C).2.2.1.h,(hb cl ex s3 H3 C).2.2.2.1.h,(hb cl ex s3 H3 C).2.2.2.2.1.h,(hb cl ex s3 H3 C).2.2.2.2.2.h⟩) hs hs2 hsw) λD σ H q=>Qey (E:=E) gok hf hf2 hd σ H _ q) λD σ H q=>QyV σ H _ q)⟩
end
theorem Qlj(L:List (Int×Int)):nds (L.map Rk.pairD)=true:=Qlk.mpr λd hd=>by
 obtain⟨i,_,rfl⟩:=Qo.mp hd;rfl
def rkD:PyData->Nat
 |.int _=>0
 |.tuple _=>1
 |_=>2
def Ql9(i j:Int):Ordering:=if i<j then .lt else if i=j then .eq else .gt
def QzI(i j:Nat):Ordering:=if i<j then .lt else if i=j then .eq else .gt
def thn(o:Ordering)(p:Ordering):Ordering:=match o with
 |.eq=>p
 |o=>o
mutual
def QpJ:PyData->PyData->Ordering
 |.int i,.int j=>Ql9 i j
 |.tuple a,.tuple b=>Qfr a b
 |x,y=>QzI (rkD x) (rkD y)
def Qfr:List PyData->List PyData->Ordering
 |[],[]=>.eq
 |[],_::_=>.lt
 |_::_,[]=>.gt
 |x::xs,y::ys=>thn (QpJ x y) (Qfr xs ys)
end
def isL:Ordering->Bool
 |.lt=>true
 |_=>false
def ltD(x y:PyData):Bool:=isL (QpJ x y)
def Qvw(x y:List PyData):Bool:=isL (Qfr x y)
mutual
def QmG:PyData->PyData->Bool
 |.int _,.int _=>true
 |.tuple a,.tuple b=>Qho a b
 |_,_=>false
def Qho:List PyData->List PyData->Bool
 |x::xs,y::ys=>QmG x y&&Qho xs ys
 |_,_=>true
end
def isE:Ordering->Bool
 |.eq=>true
 |_=>false
theorem QsU(a b:Ordering):isE (thn a b)=(isE a&&isE b):=by cases a<;>rfl
mutual
theorem Qpz:∀(x y:PyData),QmG x y=true->Jf x y=isE (QpJ x y)
 |.int i,.int j,_=>by
  show(i == j)=isE (Ql9 i j);unfold Ql9;by_cases h:i=j
  ·subst h;simp[isE]
  ·rw[beq_eq_false_iff_ne.mpr h];split
   ·rfl
   ·rfl
 |.tuple a,.tuple b,h=>QlT a b h
 |.int _,.tuple _,h=>by cases h
 |.tuple _,.int _,h=>by cases h
 |.int _,.none,h=>by cases h
 |.int _,.bool _,h=>by cases h
 |.int _,.str _,h=>by cases h
 |.int _,.list _,h=>by cases h
 |.int _,.dict _,h=>by cases h
 |.tuple _,.none,h=>by cases h
 |.tuple _,.bool _,h=>by cases h
 |.tuple _,.str _,h=>by cases h
 |.tuple _,.list _,h=>by cases h
 |.tuple _,.dict _,h=>by cases h
 |.none,y,h=>by cases y<;>cases h
 |.bool _,y,h=>by cases y<;>cases h
 |.str _,y,h=>by cases y<;>cases h
 |.list _,y,h=>by cases y<;>cases h
 |.dict _,y,h=>by cases y<;>cases h
theorem QlT:∀(xs ys:List PyData),Qho xs ys=true->QcG xs ys=isE (Qfr xs ys)
 |[],[],_=>rfl
 |[],_::_,_=>rfl
 |_::_,[],_=>rfl
 |x::xs,y::ys,h=>by
  have h:=Q3.mp (show(QmG x y&&Qho xs ys)=true from h);show(Jf x y&&QcG xs ys)=isE (thn (QpJ x y) (Qfr xs ys));rw[Qpz x y h.1,QlT xs ys h.2,QsU]
end
end Dl
namespace Rt
open PySem.Calls Dl
theorem Qgo:∀{ds:List PyData}{d:PyData},d∈ds->d.depth<=Jx ds
 |x::ds,d,h=>by
  show d.depth<=max x.depth (Jx ds);rcases Qt.mp h with z | z
  ·subst z;exact Nat.le_max_left _ _
  ·exact Q1 (Qgo z) (QtB _ _)
theorem readsAll_len{h:J8}:∀{vs:List Value}{ds:List PyData}{as:List Addr},Qc1 h vs ds as->vs.length=ds.length
 |_,_,_,.nil=>rfl
 |_,_,_,.cons _ r=>by rw[QM,QM,readsAll_len r]
section
open PySem.SeqAt
open PySem.AutoSeq1 (wpAny_loadPart')
open PySem.MeetsSeq PySem.MeetsSeq2 PySem.MeetsSeq3
theorem QfR{l b:Addr}{items items2:Array Value}{n n2:Nat}{dd dd2:Option Addr}{sl sl2:Array (Option Value)}{ds es:List PyData}{as bs:List Addr}{N:Nat}(hk:Qho ds es=true)(hc1:JG ds=true)(hc2:JG es=true)(hd:Jx ds<=N)
  (ih:∀(x y:PyData)(A:Jh)(s:Shared)(v u:Value)(p q:List Addr),QjN s.heap v x p->QjN s.heap u y q->x.canLay0=true->y.canLay0=true->QmG x y=true->x.depth<=N->A.units+2*N+2<cLine->∀(prog:QN)(w:Jj)(E Q:Value->Shared->Prop),Q (.bool (ltD x y)) s->wpAny (model prog w) A (richCompare .Lt v u) Q E s) :
  Meets (QmT.«tuple.__lt__» ⟨[.ref l,.ref b],[]⟩)
   (λA R s=>s.heap.get? l=some { cls:=.type "tuple",dict:=dd,data:=.seq items n,slots:=sl }/\s.heap.get? b=some { cls:=.type "tuple",dict:=dd2,data:=.seq items2 n2,slots:=sl2 }/\Qc1 s.heap items.toList ds as/\Qc1 s.heap items2.toList es bs/\A.units+2*N+4<cLine /\
    R (.ok (.ret (.bool (Qvw ds es)))) s):=
 .of_wp λprog w A R s h=>by
  obtain⟨hp,g,d,tk,os⟩:=s;obtain⟨hl,hb,hr1,hr2,hu,h⟩:=h;have f2:=AutoSeq1.sub_tuple_tuple;have hu1:A.in1.units+2*N+2<cLine:=by show A.units+1+2*N+2<cLine;omega
  have z1:items.size=ds.length:=by rw[<- readsAll_len hr1];simp
  have z2:items2.size=es.length:=by rw[<- readsAll_len hr2];simp
  wp_walk using YW hl,YW hb,wpAny_forIn_list _ (λrest b s'=>b.1=none/\s'=⟨hp,g,d,tk,os⟩/\∃(vs ws:List Value)(xs ys:List PyData)(p q:List Addr),rest=vs.zip ws /\
   Qc1 hp vs xs p/\Qc1 hp ws ys q/\Qho xs ys=true/\JG xs=true/\JG ys=true/\Jx xs<=N/\xs.length+items2.size=ys.length+items.size/\R (.ok (.ret (.bool (Qvw xs ys)))) ⟨hp,g,d,tk,os⟩) _
  case turn=>
   rintro⟨y,x⟩ rest b s' ⟨hb',rfl,vs,ws,xs,ys,p,q,hz,hvi,hwi,hkk,c1,c2,hdd,hlen,hR⟩;cases hvi with
   |nil=>rw[List.zip_nil_left] at hz;cases hz
   |@cons v0 vs0 d1 ds1 as1 as2 r1 hvi'=>
    cases hwi with
    |nil=>rw[List.zip_nil_right] at hz;cases hz
    |@cons u0 us0 d2 ds2 bs1 bs2 r2 hwi'=>
     rw[QmO] at hz;injection hz with hyx hrest
     injection hyx with hy hx
     subst hy hx;have hkk:=Q3.mp (show(QmG d1 d2&&Qho ds1 ds2)=true from hkk);simp only[JG,JN] at c1 c2;have dm1:d1.depth<=N:=Q1 (Qgo (ds:=d1::ds1) (.head _)) hdd;have dm2:Jx ds1<=N:=Q1 (show Jx ds1<=max d1.depth (Jx ds1) from QtB _ _) hdd;simp only[QM] at hlen;have he:=QoS d1 d2 A.in1 ⟨hp,g,d,tk,os⟩ y x _ _ r1 r2 c1.1 c2.1 (by omega);have hR:R (.ok (.ret (.bool (isL (thn (QpJ d1 d2) (Qfr ds1 ds2)))))) ⟨hp,g,d,tk,os⟩:=hR;rw[Qpz d1 d2 hkk.1] at he;have hri:=λE Q=>ih d1 d2 A.in1 ⟨hp,g,d,tk,os⟩ y x _ _ r1 r2 c1.1 c2.1 hkk.1 dm1 hu1 prog w E Q
     unfold ltD at hri;cases e1:QpJ d1 d2 with
     |lt=>
      rw[e1] at he hR hri;refine wpAny_bind (he prog w _ _ ?_)
      wp_walk using hri
      exact⟨_,rfl,hR⟩
     |gt=>
      rw[e1] at he hR hri;refine wpAny_bind (he prog w _ _ ?_)
      wp_walk using hri
      exact⟨_,rfl,hR⟩
     |eq=>
      rw[e1] at he hR;refine wpAny_bind (he prog w _ _ ?_)
      wp_walk
      exact⟨rfl,rfl,_,_,_,_,_,_,hrest,hvi',hwi',hkk.2,c1.2,c2.2,dm2,by omega,hR⟩
  case fin=>
   rintro⟨b1,b2⟩ s' ⟨hb',rfl,vs,ws,xs,ys,p,q,hz,hvi,hwi,hkk,c1,c2,hdd,hlen,hR⟩;simp only at hb';subst hb';have hv:Qvw xs ys=decide (items.size<items2.size):=by
    cases hvi with
    |nil=>
     cases hwi with
     |nil=>
      simp only[QfF] at hlen;exact(decide_eq_false (by omega)).symm
     |cons r2 hw=>
      simp only[QfF,QM] at hlen;exact(decide_eq_true (by omega)).symm
    |cons r1 hv=>
     cases hwi with
     |nil=>
      simp only[QfF,QM] at hlen;exact(decide_eq_false (by omega)).symm
     |cons r2 hw=>
      rw[QmO] at hz;cases hz
   rw[hv] at hR
   wp_walk
   exact⟨_,rfl,by simpa [Qxd] using hR⟩
  case h=>
   exact⟨rfl,rfl,items.toList,items2.toList,ds,es,as,bs,rfl,hr1,hr2,hk,hc1,hc2,hd,by omega,h⟩
end
end Rt
namespace Rt
open PySem.Calls PySem.W Dl
mutual
def okK:PyData->Bool
 |.int _=>true
 |.tuple ds=>QwI ds
 |_=>false
def QwI:List PyData->Bool
 |[]=>true
 |d::ds=>okK d&&QwI ds
end
theorem Qxw:∀(N:Nat)(x y:PyData)(A:Jh)(s:Shared)(v u:Value)(p q:List Addr),QjN s.heap v x p->QjN s.heap u y q->x.canLay0=true->y.canLay0=true->QmG x y=true->x.depth<=N->A.units+2*N+2<cLine->∀(prog:QN)(w:Jj)(E Q:Value->Shared->Prop),Q (.bool (ltD x y)) s->wpAny (model prog w) A (richCompare .Lt v u) Q E s:=by
 intro N;have intz:∀(i j:Int)(A:Jh)(s:Shared)(v u:Value)(p q:List Addr),QjN s.heap v (.int i) p->QjN s.heap u (.int j) q->∀(prog:QN)(w:Jj)(E Q:Value->Shared->Prop),Q (.bool (ltD (.int i) (.int j))) s->wpAny (model prog w) A (richCompare .Lt v u) Q E s:=by
  intro i j A s v u p q r1 r2 prog w E Q h;cases r1;cases r2;refine HT.Qh4 A s i _ j _ prog w E Q ?_
  have e:ltD (.int i) (.int j)=decide (i<j):=by
   show isL (Ql9 i j)=_;unfold Ql9;by_cases z:i<j
   ·rw[if_pos z,decide_eq_true z];rfl
   ·rw[if_neg z,decide_eq_false z];split<;>rfl
  rw[e] at h;exact h
 induction N with
 |zero=>
  intro x y A s v u p q r1 r2 c1 c2 hk hd hu prog w E Q h;cases x<;>cases y<;>first | (cases hk;done) | skip
  ·exact intz _ _ A s v u p q r1 r2 prog w E Q h
  ·unfold Yx at hd;omega
 |succ N ih=>
  intro x y A s v u p q r1 r2 c1 c2 hk hd hu prog w E Q h;cases x<;>cases y<;>first | (cases hk;done) | skip
  ·exact intz _ _ A s v u p q r1 r2 prog w E Q h
  ·rename_i ds es
   cases r1 with
   |@tuple a o vs n _ _ ho hc hd' ra=>
    cases r2 with
    |@tuple b o2 vs2 n2 _ _ ho2 hc2 hd2 rb=>
     obtain⟨cls,dd,data,sl⟩:=o;obtain⟨cls2,dd2,data2,sl2⟩:=o2;simp only at hc hd' hc2 hd2;subst hc hd' hc2 hd2;have dd3:Jx ds<=N:=by unfold Yx at hd;omega
     exact richCompare_meets_room (op:=.Lt) ⟨_,ho,rfl⟩ ⟨_,ho2,rfl⟩ PySem.F.slot_tuple_lt PySem.F.entry_tuple_lt (PySem.F.args_tuple_lt_2 _ _) (QfR (N:=N) hk c1 c2 dd3 ih)
      ⟨ho,ho2,ra,rb,by omega,show Ye (Qvw ds es)≠Value.notImplemented/\Q (.bool (Qvw ds es)) s from⟨(λx=>nomatch x),h⟩⟩ (by omega)
section
variable{prog:QN}{w:Jj}{A:Jh}{E:Value->Shared->Prop}{s:Shared}
end
section
variable{M:Model}{A:Jh}{E:Value->Shared->Prop}{s:Shared}
end
section
variable{prog:QN}{w:Jj}{A:Jh}{E:Value->Shared->Prop}{s:Shared}
end
end Rt
namespace Rt
open PySem.Calls PySem.W Dl Rs
section
variable{prog:QN}{w:Jj}{A:Jh}{E:Value->Shared->Prop}{s:Shared}
end
end Rt
namespace L2
open PySem.Calls _root_.Rd _root_.Rk _root_.Rs Rt Dl
section
variable{X:Cx}
end
end L2
namespace Dl
open L2 _root_.Rd Rk Rt
mutual
theorem Qlc:∀(d:PyData),okK d=true->nd d=true
 |.int _,_=>rfl
 |.tuple ds,h=>Qlb ds h
 |.none,h=>by cases h
 |.bool _,h=>by cases h
 |.str _,h=>by cases h
 |.list _,h=>by cases h
 |.dict _,h=>by cases h
theorem Qlb:∀(ds:List PyData),QwI ds=true->nds ds=true
 |[],_=>rfl
 |d::ds,h=>by
  have h:=Q3.mp (show(okK d&&QwI ds)=true from h);show(nd d&&nds ds)=true;rw[Qlc d h.1,Qlb ds h.2];rfl
end
end Dl
namespace L2
open PySem.Calls _root_.Rd _root_.Rk Rt
section
variable{X:Cx}
theorem Qkz(bs:List Bool):((Qm bs.length).any λi=>(bs[i]?).getD false)=bs.any id:=by
 rw[Zd,Zj,Zj];constructor
 ·rintro⟨i,hi,h⟩;have hl:=Q9.mp hi;rw[Qg hl] at h;exact⟨bs[i],Qbo hl,h⟩
 ·rintro⟨b,hb,h⟩;obtain⟨i,hi⟩:=Jw.mp hb;exact⟨i,Q9.mpr (Qs.mp hi).1,by rw[hi];exact h⟩
theorem QoN:CallR X (.builtin "any") (λxs H Q=>∃(p:Addr)(bs:List Bool),xs=[.ref p]/\SqL X.K H p (bs.map V.bl)/\X.calm=true/\Q (.bl (bs.any id)) H):=by
 intro pins s σ H xs us Q I r h;obtain⟨p,bs,rfl,hp,hc,q⟩:=h;obtain⟨u,rfl,ru⟩:=vals1 r;cases ru;obtain⟨its,rv,pl,hz⟩:=I.list hp;have hl:=pl.isList;have hb:=Qiz rv;have hlt:p<s.heap.objs.size:=by obtain⟨_,e,_⟩:=hl;exact Qj e
 refine call_any_walk (QbA hl ?_);refine⟨s.heap.objs.size,[s.heap.objs.size,p],[s.heap.objs.size],its.toArray.size,_,_,λi=>(bs[i]?).getD false,rfl,Walks.list (A:=X.A.in1) (I.ok.hd hc) _ p (QF hlt) its.toArray,
  ⟨⟨_,Qv _ rfl,rfl,rfl⟩,hl.push _⟩,λi v s' Q' E' hP hQ=>?_,λh' tk hk=>?_⟩
 ·obtain⟨b,e,rfl⟩:=hb.get i v (by simpa using hP);simp only[e,QmL] at hQ;exact JB hQ
 ·have e:((Qm its.toArray.size).any λi=>(bs[i]?).getD false)=bs.any id:=by
   rw[Qq,hb.length];exact Qkz bs
  rw[e];exact⟨.bl _,H,I.kept (QiL hk),rfl,q⟩
def ddI(ns:List Int):List Int:=ns.foldl QbD []
theorem QoD(ns:List Int):firstMet (λi=>ns.getD i 0) ns.length=ddI ns:=by
 unfold firstMet ddI
 congr 1
 apply Yk
 intro i;rw[Qh];by_cases h:i<ns.length
 ·rw[Q6 h,Qg h];show some (ns.getD i 0)=_;rw[Qf,Qg h];rfl
 ·rw[QL (by simpa using h),QL (by omega)];rfl
def Qxy(K:PySem.W.Frag):List V->Hp->VK->Prop:=λxs H Q=>∃(l:Addr)(ns:List Int),xs=[.ref l]/\SqL K H l (ns.map V.int)/\ns.length<=4000 /\
 ∀(t:Addr)(H2:Hp),Same H H2->H t=none->H2 t=some (.set (λk=>(ddI ns).any (· == k)) (ddI ns).length)->Q (.ref t) H2
theorem Qmg(hc:X.calm=true):CallR X (.type "set") (Qxy X.K):=by
 intro pins s σ H xs us Q I r h;obtain⟨p,ns,rfl,hp,hn,q⟩:=h;obtain⟨u,rfl,ru⟩:=vals1 r;cases ru;obtain⟨its,rv,pl,hz⟩:=I.list hp;have hi:Qbp its ns:=intsAre_of rv;have hl:=hi.length;refine PySem.call_set_list (items:=its.toArray) (ns:=ns) (I.ok.hd hc) pl.isList (by simpa using hi) (by rw[Qq,hl];unfold scanBound;omega) λh' tk hS hk=>?_
 have ez:its.toArray.size=ns.length:=by rw[Qq];exact hl
 rw[ez,QoD] at hS;have hf:H s.heap.objs.size=none:=I.hok.fresh (Qi _);refine⟨.ref s.heap.objs.size,upd H s.heap.objs.size (.set (λk=>(ddI ns).any (· == k)) (ddI ns).length),I.laid (t':=tk) (λb x e=>hk b x (Qj e) e) (Qi _) hS,rfl,q _ _ (JI hf) hf Ju⟩
def QrB:List V->Hp->VK->Prop:=λxs H Q=>∃(a:Addr)(S:Int->Bool)(n:Nat),xs=[.ref a]/\H a=some (.set S n)/\n<=4000/\Q (.int n) H
theorem Qhu:CallR X (.builtin "len") QrB:=by
 intro pins s σ H xs us Q I r h;obtain⟨a,S,n,rfl,ha,hn,q⟩:=h;obtain⟨u,rfl,ru⟩:=vals1 r;cases ru;obtain⟨o,es,ep,t,ho,hex,hd,hel,hmem,hb,hf,hz⟩:=I.hok a _ ha;have hz:es.size=n:=hz;refine PySem.call_len_set ho hex hd hf (by
                       rw[hz];have:(4000:Int)<2^63:=by decide
                       omega) ?_
 rw[hz];exact⟨.int n,H,I.tok _,⟨_,rfl⟩,q⟩
theorem Qis:∀(ns σ:List Int),(ns.foldl QbD σ).length<=σ.length+ns.length/\(σ.Nodup->((ns.foldl QbD σ).length=σ.length+ns.length↔(σ++ns).Nodup))
 |[],σ=>⟨Qi _,λh=>by simp[h]⟩
 |n::ns,σ=>by
  rw[QfI,QM];by_cases z:σ.any (· == n)=true
  ·have e:QbD σ n=σ:=by unfold QbD;rw[if_pos z]
   rw[e];obtain⟨a,b⟩:=Qis ns σ;refine⟨by omega,λhs=>⟨λq=>by omega,λq=>?_⟩⟩;obtain⟨x,hx,hn⟩:=Zj.mp z;have hn:=beq_iff_eq.mp hn;subst hn;exact absurd rfl ((J7.mp q).2.2 x hx x (.head _))
  ·have e:QbD σ n=σ++[n]:=by unfold QbD;rw[if_neg z]
   rw[e];obtain⟨a,b⟩:=Qis ns (σ++[n]);rw[Qx] at a b;have nm:n∉σ:=λhx=>z (Zj.mpr ⟨n,hx,by simp⟩)
   refine⟨by simp only[QbO] at a;omega,λhs=>?_⟩;have hs2:(σ++[n]).Nodup:=J7.mpr ⟨hs,by simp,λx hx y hy=>by rw[QB.mp hy];exact λe=>nm (e ▸ hx)⟩;have:=b hs2;rw[QoW] at this;have e3:σ++n::ns=σ++([n]++ns):=rfl;rw[e3,<- this];simp only[QbO];omega
theorem Qyh(ns:List Int):(ddI ns).length<=ns.length:=by have:=(Qis ns []).1;unfold ddI;simpa using this
theorem Qir(ns:List Int):(ddI ns).length=ns.length↔ns.Nodup:=by have:=(Qis ns []).2 (by simp);unfold ddI;simpa using this
def QyD:R2:=λx y H Q=>∃d e,Dat H x d/\Dat H y e/\Dl.QmG d e=true/\d.depth<=20/\Q (.bl (Dl.ltD d e)) H
theorem Qva(hu:X.A.units+60<cLine):OpR X (compareOp .Lt) QyD:=by
 intro pins s σ H x y v u Q I rx ry h;obtain⟨d,e,qx,qy,hk,hd,q⟩:=h;obtain⟨⟨as,ra⟩,ca⟩:=Z4 I.hok d x v qx rx;obtain⟨⟨bs,rb⟩,cb⟩:=Z4 I.hok e y u qy ry;exact Qxw 20 d e X.A s v u as bs ra rb ca cb hk hd (by omega) _ _ _ _ ⟨.bl _,H,I,rfl,q⟩
end
end L2
namespace Dl
open L2 _root_.Rd Rk Rt
theorem bt_any:bootBuiltins "any" = some (.builtin "any"):=PyProof.Rows.boot_any
@[irreducible] def QwO:List PyData->(PyData->Prop)->Prop
 |[.list ds],Q=>∃bs,Qa5 ds=some bs/\Q (.bool (bs.any id))
 |_,_=>False
theorem Qwc{K:PySem.W.Frag}{cm:Bool}(hc:cm=true):QaK (λxs H Q=>∃(p:Addr)(bs:List Bool),xs=[.ref p]/\SqL K H p (bs.map V.bl)/\cm=true/\Q (.bl (bs.any id)) H) QwO:=λA P H vs ds R Q ln dm q h k=>by
 unfold QwO at h;split at h
 ·obtain⟨v,rfl,hv⟩:=pd1 q;obtain⟨bs,hb,hR⟩:=h;rw[bools_eq hb] at hv;obtain⟨l,xs,rfl,e,qq⟩:=hv.list;rw[QdG qq] at e;exact⟨l,bs,rfl,SqL.of e,hc,k _ hR _ H (Same.refl H) (.bl _) Yh⟩
 ·exact h.elim
theorem any_map{α:Type}(l:List α)(g:α->Bool):(l.map g).any id=l.any g:=by rw[QdW];rfl
theorem Qtv{ds:List PyData}{Q:PyData->Prop}{g:PyData->Bool}{items:List PyData}(h:ds=[.list (items.map λd=>.bool (g d))])(q:Q (.bool (items.any g))):QwO ds Q:=by
 subst h;unfold QwO;refine⟨items.map g,?_,by rw[any_map];exact q⟩;rw[show items.map (λd=>YQ (g d))=(items.map g).map YQ by rw[QY];rfl,Qgx]
def QzA:PyData->PyData->(PyData->Prop)->Prop:=λd e Q=>(okK d=true/\okK e=true/\QmG d e=true/\d.depth<=20)/\Q (.bool (ltD d e))
theorem Qvq:OpD QyD QzA:=λA P H x y d1 d2 R Q ln dm hx hy h k=>by
 obtain⟨⟨h1,h2,h3,h4⟩,hR⟩:=h;exact⟨d1,d2,hx.dat (Qlc d1 h1),hy.dat (Qlc d2 h2),h3,h4,k _ hR _ H (Same.refl H) (.bl _) Yh⟩
section
variable{X:Cx}{E:XK}
def Ql1(w:DE):DE:=λδ Q EX=>w δ (λd=>match d with
 |.list ds=>∃ns,Qaj ds=some ns/\ns.length<=4000/\Q (.int (ddI ns).length)
 |_=>False) EX
theorem bt_set:bootBuiltins "set" = some (.type "set"):=by decide +kernel
theorem QkX{e:QV}{w:DE}{p p2 pos pos2:Pos}(hg:Gl X "len")(hm:X.mg "len" = none)(hg2:Gl X "set")(hm2:X.mg "set" = none)(h:PE X e (tX .P X.K E w))(hc:X.calm=true)(hs:JH e=true):PE X (.Call (.Name "len" p) [.Call (.Name "set" p2) [e] [] pos2] [] pos) (tX .F X.K E (Ql1 w)):=by
 refine PE.imp (Qb0 Qhu hg hm Yi (QfL (Qgb (Qmg hc) hg2 hm2 bt_set (QfL h YF hs) (he:=Z1 hs)) YF)) λσ H Q ⟨F,δ,R,EX,rel,hw,k,o⟩=>?_
 refine⟨F,δ,_,EX,rel,hw,λd hd v H1 rel1 kp1 vk=>?_,o⟩;cases d<;>first | exact(show False from hd).elim | skip
 obtain⟨ns,hn,hl,hR⟩:=hd;rw[QbI hn] at vk;obtain⟨l,xs,rfl,e,q⟩:=DP.list vk;rw[QaB q] at e;refine⟨l,ns,rfl,SqL.of e,hl,λt H2 s2 n2 e2=>⟨t,_,_,rfl,e2,?_,?_⟩⟩
 ·have:=Qyh ns;omega
 ·exact k _ hR _ H2 (rel1.same s2) (kp1.trans (Kp.same rel1 s2)) ⟨.int _,ZT⟩
theorem Qh8{e:QV}{w:DE}{p p2 pos pos2:Pos}(hg:Gl X "len")(hm:X.mg "len" = none)(hg2:Gl X "set")(hm2:X.mg "set" = none)(h:QE .P X E e w)(hc:X.calm=true:=by rfl)(hs:JH e=true:=by rfl):QE .F X E (.Call (.Name "len" p) [.Call (.Name "set" p2) [e] [] pos2] [] pos) (Ql1 w):=⟨QkX hg hm hg2 hm2 h.h hc hs⟩
end
end Dl
namespace Rk
open L2 _root_.Rd Dl
def inW(d:PyData)(a b:Int):Bool:=match d with
 |.int i=>decide (a<=i)&&decide (i<=b)
 |_=>false
theorem Qjg{i a b:Int}(h1:a<=i)(h2:i<=b):inW (.int i) a b=true:=by
 show(decide (a<=i)&&decide (i<=b))=true;rw[decide_eq_true h1,decide_eq_true h2];rfl
theorem Qoz{d:PyData}{a b:Int}(h:inW d a b=true):∃i,d=.int i/\a<=i/\i<=b:=by
 cases d<;>first | (cases h;done) | skip
 rename_i i
 have h:=Q3.mp (show(decide (a<=i)&&decide (i<=b))=true from h);exact⟨i,rfl,of_decide_eq_true h.1,of_decide_eq_true h.2⟩
def QbE:DF:=λargs R _=>∃d a b,args=[.v d,.v (.int a),.v (.int b)]/\R (.bool (inW d a b))
theorem QtH(ns:List Int):(ns.map Qb).length=ns.length:=Qe _
theorem Qbe(ns:List Int):nds (ns.map Qb)=true:=Qlk.mpr λd hd=>by
 obtain⟨i,_,rfl⟩:=Qo.mp hd;rfl
theorem QoH(xs:List PyData)(k:Int)(h:0<=k):Dl.cutD xs none (some k)=xs.take k.toNat:=by
 unfold Dl.cutD;obtain⟨j,rfl⟩:∃j:Nat,k=j:=⟨k.toNat,by omega⟩
 rw[HT.Qh1,HT.Qkw,List.drop_zero,Nat.sub_zero,Jz];by_cases z:j<=xs.length
 ·rw[QtU z]
 ·rw[Nat.min_eq_right (by omega),J3,Qbt (by omega)]
end Rk
namespace Rx
open PySem.Calls L2
section
variable{X:Cx}{e:QV}{st:ZK}{rest:List ZK}{pos:Pos}{te:TX}{t u:TSX}
end
end Rx
namespace L2
open Dl
end L2
namespace Dl
open L2 _root_.Rd Rk
section
variable{X:Cx}
variable{k:Nat}{f:Addr}{fd:QK}{ps:List Str}{x:Str}{p pos:Pos}{e:QV}{es:List QV}{fD:DF}{wa:DSl}
end
end Dl
namespace Rk
open L2 _root_.Rd Dl Rt
def QcZ:List PyData->Bool
 |x::y::r=>ltD x y&&QcZ (y::r)
 |_=>true
def Qvv:PyData->Bool
 |.tuple [a,b]=>ltD a b
 |_=>false
theorem QoI(d:PyData)(ds:List PyData):Dl.cutD (d::ds) (some 1) none=ds:=by
 unfold Dl.cutD;rw[HT.Qh1,show(1:Int)=((1:Nat):Int) from rfl,HT.Qkw];rw[QtU (by rw[QM];omega),List.drop_one,List.tail_cons,QM,Nat.add_sub_cancel,J3]
theorem Qdh:∀ds:List PyData,(Qd5 ds (Dl.cutD ds (some 1) none)).all Qvv=QcZ ds
 |[]=>by
  have h:(Qd5 ([]:List PyData) (Dl.cutD [] (some 1) none))=[]:=by unfold Qd5;rfl
  rw[h];rfl
 |[x]=>by rw[QoI];rfl
 |x::y::r=>by
  have ih:=Qdh (y::r);rw[QoI] at ih ⊢;show(Qvv (.tuple [x,y])&&(Qd5 (y::r) r).all Qvv)=_;rw[ih];rfl
def QpR(ds:List PyData):Prop:=∀x∈ds,okK x=true/\x.depth<=20/\∀y∈ds,QmG x y=true
def QgZ:DF:=λargs R _=>∃ds:List PyData,(args=[.v (.tuple ds)]∨args=[.v (.list ds)])/\QpR ds/\R (.bool (QcZ ds))
def Qje(h w:Int):PyData->Bool
 |.tuple [a,b]=>inW a 0 (h - 1)&&inW b 0 (w - 1)
 |_=>false
theorem QvI{h w:Int}{d:PyData}(q:Qje h w d=true):∃p:Int×Int,d=pairD p/\0<=p.1/\p.1<h/\0<=p.2/\p.2<w:=by
 cases d<;>first | (cases q;done) | skip
 rename_i ds
 match ds,q with
 |[a,b],q=>
  have q:=Q3.mp (show(inW a 0 (h - 1)&&inW b 0 (w - 1))=true from q);obtain⟨i,rfl,i1,i2⟩:=Qoz q.1;obtain⟨j,rfl,j1,j2⟩:=Qoz q.2;exact⟨(i,j),rfl,i1,by show i<h;omega,j1,by show j<w;omega⟩
 |[],q=>cases q
 |[_],q=>cases q
 |_::_::_::_,q=>cases q
theorem QvH{h w:Int}{p:Int×Int}(h1:0<=p.1)(h2:p.1<h)(h3:0<=p.2)(h4:p.2<w):Qje h w (pairD p)=true:=by
 show(inW (.int p.1) 0 (h - 1)&&inW (.int p.2) 0 (w - 1))=true;rw[Qjg h1 (by omega),Qjg h3 (by omega)];rfl
def toP:PyData->Int×Int
 |.tuple [.int a,.int b]=>(a,b)
 |_=>(0,0)
theorem Qh9{h w:Int}{ds:List PyData}(q:ds.all (Qje h w)=true):∃L:List (Int×Int),ds=L.map pairD/\∀p∈L,0<=p.1/\p.1<h/\0<=p.2/\p.2<w:=by
 induction ds with
 |nil=>exact⟨[],rfl,λ_ h=>nomatch h⟩
 |cons d ds ih=>
  rw[Qwy,JN] at q;obtain⟨p,rfl,hp⟩:=QvI q.1;obtain⟨L,rfl,hL⟩:=ih q.2;refine⟨p::L,rfl,λx hx=>?_⟩;rcases Qt.mp hx with z | z
  ·rw[z];exact hp
  ·exact hL x z
theorem Qds(L:List (Int×Int)):(L.map pairD).map toP=L:=by
 rw[QY]
 conv=>rhs;rw[<- QcH L]
 rfl
theorem Qhm(p:Int×Int):(pairD p).depth<=1:=by
 show Jx [.int p.1,.int p.2]+1<=1;simp[Jx,Yx]
theorem QdF{n:Nat}:∀{ds:List PyData},(∀d∈ds,d.depth<=n)->Jx ds<=n
 |[],_=>Jm _
 |d::ds,h=>by
  show max d.depth (Jx ds)<=n;exact Nat.max_le.mpr ⟨h d (.head _),QdF λd hd=>h d (.tail _ hd)⟩
theorem Qgp(L:List (Int×Int)):QpR (L.map pairD):=λx hx=>by
 obtain⟨p,_,rfl⟩:=Qo.mp hx;refine⟨rfl,Q1 (Qhm p) (by decide),λy hy=>?_⟩;obtain⟨q,_,rfl⟩:=Qo.mp hy;rfl
def stT(L:List (Int×Int)):PyData:=.tuple (L.map pairD)
def plt(p q:Int×Int):Prop:=p.1<q.1∨(p.1=q.1/\p.2<q.2)
instance plt_dec (p q:Int×Int):Decidable (plt p q):=by unfold plt;exact inferInstance
theorem Qop(p q:Int×Int):ltD (pairD p) (pairD q)=decide (plt p q):=by
 show isL (thn (Ql9 p.1 q.1) (thn (Ql9 p.2 q.2) .eq))=_;unfold Ql9 plt;by_cases h1:p.1<q.1
 ·rw[if_pos h1];exact(decide_eq_true (.inl h1)).symm
 ·rw[if_neg h1];by_cases h2:p.1=q.1
  ·rw[if_pos h2];by_cases h3:p.2<q.2
   ·rw[if_pos h3];exact(decide_eq_true (.inr ⟨h2,h3⟩)).symm
   ·rw[if_neg h3];have:decide (p.1<q.1∨p.1=q.1/\p.2<q.2)=false:=decide_eq_false (by omega);rw[this];split<;>rfl
  ·rw[if_neg h2];exact(decide_eq_false (by omega)).symm
theorem Qgn(p q:Int×Int):Jf (pairD p) (pairD q)=decide (p=q):=by
 show((p.1 == q.1)&&((p.2 == q.2)&&true))=_;obtain⟨a,b⟩:=p;obtain⟨c,d⟩:=q;by_cases h1:a=c
 ·by_cases h2:b=d
  ·subst h1 h2;simp
  ·simp[h1,h2]
 ·simp[h1]
theorem Qmt(cs:List (Int×Int))(p:Int×Int):((cs.map pairD).any λc=>Jf c (pairD p))=decide (p∈cs):=by
 rw[QdW,Zd,Zj,decide_eq_true_iff];constructor
 ·rintro⟨c,hc,h⟩;have:c=p:=of_decide_eq_true (by rw[<- Qgn];exact h);rw[<- this];exact hc
 ·intro h;refine⟨p,h,?_⟩;show Jf (pairD p) (pairD p)=true;rw[Qgn];simp
def QzC(h w:Int):PyData->Bool
 |.tuple ds=>ds.all (Qje h w)&&QcZ ds
 |_=>false
def apB(L:List (Int×Int)):Bool:=decide (L.map (·.1)).Nodup&&decide (L.map (·.2)).Nodup
def bdD(h w:Int)(cs:List (Int×Int)):PyData:=.tuple [.int h,.int w,.tuple (cs.map pairD)]
def inC(cs:List (Int×Int))(e:PyData):Bool:=(cs.map pairD).any λc=>Jf c e
def QtI(h w:Int)(cs:List (Int×Int)):PyData->Bool
 |.tuple ds=>(ds.all (Qje h w)&&QcZ ds)&&(ds.all (inC cs)&&apB (ds.map toP))
 |_=>false
def QkO:DF:=λargs R _=>∃(h w:Int)(d:PyData),args=[.v (.int h),.v (.int w),.v d]/\R (.bool (Qje h w d))
def Qmd:DF:=λargs R _=>∃(h w:Int)(d:PyData),args=[.v (.int h),.v (.int w),.v d]/\R (.bool (QzC h w d))
def Qms:DF:=λargs R _=>∃L:List (Int×Int),args=[.v (.tuple (L.map pairD))]/\L.length<=4000/\R (.bool (apB L))
def Qkm(d:PyData):Prop:=∀ds,d=.tuple ds->ds.length<=1000
def Qkh:DF:=λargs R _=>∃(h w:Int)(cs:List (Int×Int))(d:PyData),args=[.v (bdD h w cs),.v d]/\Qkm d/\R (.bool (QtI h w cs d))
theorem Qrr{ds:List PyData}(h:ds.length<=1000):Qkm (.tuple ds):=λls e=>by cases e;exact h
theorem QcE(ns:List Int):Qaj (ns.map Qb)=some ns:=Dl.ints_map ns
def Qdq(r n:Nat)(f:Nat->Nat->Bool):List (Int×Int):=((Qm n).filter (f r)).map λ(c:Nat)=>((r:Int),(c:Int))
def ZF(h w:Nat)(f:Nat->Nat->Bool):List (Int×Int):=(Qm h).flatMap λr=>Qdq r w f
theorem Yn(h w:Nat)(f:Nat->Nat->Bool):ZF (h+1) w f=ZF h w f++Qdq h w f:=by
 unfold ZF;rw[Yb,QcI];simp
theorem QaA{r n:Nat}{f:Nat->Nat->Bool}{p:Int×Int}:p∈Qdq r n f↔∃c:Nat,c<n/\f r c=true/\p=((r:Int),(c:Int)):=by
 unfold Qdq;rw[Qo];constructor
 ·rintro⟨c,hc,rfl⟩;have hc:=Jc.mp hc;exact⟨c,Q9.mp hc.1,hc.2,rfl⟩
 ·rintro⟨c,hc,hf,rfl⟩;exact⟨c,Jc.mpr ⟨Q9.mpr hc,hf⟩,rfl⟩
theorem Qbg{h w:Nat}{f:Nat->Nat->Bool}{p:Int×Int}:p∈ZF h w f↔∃r c:Nat,r<h/\c<w/\f r c=true/\p=((r:Int),(c:Int)):=by
 unfold ZF;rw[J4];constructor
 ·rintro⟨r,hr,hp⟩;obtain⟨c,hc,hf,rfl⟩:=QaA.mp hp;exact⟨r,c,Q9.mp hr,hc,hf,rfl⟩
 ·rintro⟨r,c,hr,hc,hf,rfl⟩;exact⟨r,Q9.mpr hr,QaA.mpr ⟨c,hc,hf,rfl⟩⟩
theorem Qb5{h w:Nat}{f:Nat->Nat->Bool}{p:Int×Int}(q:p∈ZF h w f):0<=p.1/\p.1<h/\0<=p.2/\p.2<w:=by
 obtain⟨r,c,hr,hc,_,rfl⟩:=Qbg.mp q;exact⟨Qdg _,by show(r:Int)<h;omega,Qdg _,by show(c:Int)<w;omega⟩
theorem Qh2(r n:Nat)(f:Nat->Nat->Bool):(Qdq r n f).length<=n:=by
 unfold Qdq;rw[Qe];exact Q1 (Y1 _ _) (by rw[QD];exact Qi _)
theorem QeA(w:Nat)(f:Nat->Nat->Bool):∀h,(ZF h w f).length<=h*w
 |0=>Jm _
 |h+1=>by
  have:=QeA w f h;have:=Qh2 h w f;rw[Yn,Qx,QjQ];omega
theorem QdC(r n:Nat)(f:Nat->Nat->Bool):(Qdq r n f).filter (λp=>decide (p.1=(r:Int)))=Qdq r n f:=Qan.mpr λp hp=>by
 obtain⟨c,_,_,rfl⟩:=QaA.mp hp;exact decide_eq_true rfl
theorem QdD{r k n:Nat}(h:r≠k)(f:Nat->Nat->Bool):(Qdq r n f).filter (λp=>decide (p.1=(k:Int)))=[]:=Qbv.mpr λp hp=>by
 obtain⟨c,_,_,rfl⟩:=QaA.mp hp;show ¬decide ((r:Int)=(k:Int))=true;rw[decide_eq_false (by omega)];exact Qu
theorem Qez(w k:Nat)(f:Nat->Nat->Bool):∀h,(ZF h w f).filter (λp=>decide (p.1=(k:Int)))=if k<h then Qdq k w f else[]
 |0=>rfl
 |h+1=>by
  rw[Yn,Qc2,Qez w k f h];by_cases z:k=h
  ·subst z;rw[if_neg (by omega),QdC,if_pos (by omega)];rfl
  ·rw[QdD (λe=>z e.symm),Yc];by_cases z2:k<h
   ·rw[if_pos z2,if_pos (by omega)]
   ·rw[if_neg z2,if_neg (by omega)]
theorem QrI(r n:Nat)(f:Nat->Nat->Bool):(Qdq r n f).Pairwise plt:=by
 unfold Qdq;refine Qw9 (R:=λa b=>a<b) _ (λa b hab=>.inr ⟨rfl,by show(a:Int)<b;omega⟩) ?_
 exact J9 _ QiI
theorem Qf8(w:Nat)(f:Nat->Nat->Bool):∀h,(ZF h w f).Pairwise plt
 |0=>.nil
 |h+1=>by
  rw[Yn];refine ZL.mpr ⟨Qf8 w f h,QrI h w f,λp hp q hq=>?_⟩;obtain⟨r,c,hr,_,_,rfl⟩:=Qbg.mp hp;obtain⟨c',_,_,rfl⟩:=QaA.mp hq;exact .inl (by show(r:Int)<h;omega)
theorem QuH{p q:Int×Int}(h:plt p q):p≠q:=λe=>by subst e;rcases h with z | z<;>omega
def QgL(cs:List (Int×Int))(r:Int):List (Int×Int):=cs.filter λp=>decide (p.1=r)
def Qjh(cells L:List (Int×Int)):List (List (Int×Int)):=(cells.filter λc => !decide (c.2∈L.map (·.2))).map λc=>L++[c]
def Qdl(cs:List (Int×Int)):Nat->List (List (Int×Int))
 |0=>[[]]
 |i+1=>Qdl cs i++(Qdl cs i).flatMap (Qjh (QgL cs i))
theorem QoF(cells L:List (Int×Int)):(Qjh cells L).length<=cells.length:=by
 unfold Qjh;rw[Qe];exact Y1 _ _
theorem Qio{α β:Type}{f:α->List β}{k:Nat}:∀{xs:List α},(∀x∈xs,(f x).length<=k)->(xs.flatMap f).length<=xs.length*k
 |[],_=>Jm _
 |x::xs,h=>by
  have h1:=h x (.head _);have h2:=Qio (xs:=xs) λy hy=>h y (.tail _ hy)
  rw[ZO,Qx,QM,QjQ];omega
theorem QhS{cs:List (Int×Int)}{k:Nat}(h:∀r,(QgL cs r).length<=k):∀i,(Qdl cs i).length<=(k+1)^i
 |0=>Qi _
 |i+1=>by
  have h1:=QhS h i;have h2:=Qio (xs:=Qdl cs i) (k:=k) λL _=>Q1 (QoF (QgL cs i) L) (h i)
  show(Qdl cs i++(Qdl cs i).flatMap (Qjh (QgL cs i))).length<=_;rw[Qx,Nat.pow_succ,Nat.mul_add,Nat.mul_one];have h3:(Qdl cs i).length*k<=(k+1)^i*k:=Nat.mul_le_mul_right k h1;omega
theorem Qbf{cells L M:List (Int×Int)}:M∈Qjh cells L↔∃c∈cells,c.2∉L.map (·.2)/\M=L++[c]:=by
 unfold Qjh;rw[Qo];constructor
 ·rintro⟨c,hc,rfl⟩;have hc:=Jc.mp hc;exact⟨c,hc.1,by simpa using hc.2,rfl⟩
 ·rintro⟨c,hc,hn,rfl⟩;exact⟨c,Jc.mpr ⟨hc,by simpa using hn⟩,rfl⟩
theorem Qkf(cs:List (Int×Int)):∀i,[]∈Qdl cs i
 |0=>.head _
 |i+1=>Jn.mpr (.inl (Qkf cs i))
theorem Qtu(ns:List Int)(i:Int):((ns.map Qb).any λe=>Jf e (.int i))=decide (i∈ns):=by
 rw[QdW,Zd,Zj,decide_eq_true_iff];constructor
 ·rintro⟨c,hc,h⟩;have:c=i:=by simpa [Jf] using h
  rw[<- this];exact hc
 ·intro h;refine⟨i,h,?_⟩;show(i == i)=true;simp
theorem QgW(w h:Nat)(f:Nat->Nat->Bool)(r:Int):(QgL (ZF h w f) r).length<=w:=by
 by_cases z:0<=r
 ·obtain⟨k,rfl⟩:∃k:Nat,r=k:=⟨r.toNat,by omega⟩
  unfold QgL;rw[Qez];split
  ·exact Qh2 _ _ _
  ·exact Jm _
 ·have:QgL (ZF h w f) r=[]:=Qbv.mpr λp hp e=>by
   have:=Qb5 hp;have:=of_decide_eq_true e;omega
  rw[this];exact Jm _
theorem Qkl{ds:List PyData}{k:Nat}(h:ds.length<=k)(hk:k<=1000):Qkm (.tuple ds):=Qrr (Q1 h hk)
def toI:PyData->Int
 |.int i=>i
 |_=>0
theorem Qoy{ds:List PyData}{a b:Int}(h:ds.all (λd=>inW d a b)=true):ds=(ds.map toI).map Qb/\∀i∈ds.map toI,a<=i/\i<=b:=by
 constructor
 ·rw[QY]
  conv=>lhs;rw[<- QcH ds]
  refine QQ λd hd=>?_
  obtain⟨i,rfl,_⟩:=Qoz (JM.mp h d hd);rfl
 ·intro i hi;obtain⟨d,hd,rfl⟩:=Qo.mp hi;obtain⟨i,rfl,h1,h2⟩:=Qoz (JM.mp h d hd);exact⟨h1,h2⟩
theorem Qm2(ns:List Int):(ns.map Qb).map toI=ns:=by
 rw[QY]
 conv=>rhs;rw[<- QcH ns]
 rfl
def nfI:List Int->Bool
 |x::y::r=>decide (x<=y)&&nfI (y::r)
 |_=>true
def QwJ:PyData->Bool
 |.tuple [.int a,.int b]=>decide (a<=b)
 |_=>false
theorem QoZ:∀ns:List Int,(Qd5 (ns.map Qb) (Dl.cutD (ns.map Qb) (some 1) none)).all QwJ=nfI ns
 |[]=>by
  have h:(Qd5 ([]:List PyData) (Dl.cutD [] (some 1) none))=[]:=by unfold Qd5;rfl
  rw[Qjz,h];rfl
 |[x]=>by rw[Jl,QoI];rfl
 |x::y::r=>by
  have ih:=QoZ (y::r);rw[Jl,QoI] at ih ⊢;show(QwJ (.tuple [.int x,.int y])&&(Qd5 (Qb y::r.map Qb) (r.map Qb)).all QwJ)=_;rw[ih];rfl
theorem Qhf:∀{ns:List Int}{a:Int},nfI ns=true->(∀b,ns.getLast? = some b->b<=a)->nfI (ns++[a])=true
 |[],_,_,_=>rfl
 |[x],a,_,h=>by
  show(decide (x<=a)&&true)=true;rw[decide_eq_true (h x rfl)];rfl
 |x::y::r,a,hn,h=>by
  have hn:=Q3.mp (show(decide (x<=y)&&nfI (y::r))=true from hn);show(decide (x<=y)&&nfI (y::r++[a]))=true;rw[hn.1,Qhf hn.2 λb hb=>h b (by rw[QhE];exact hb)];rfl
def Qii:PyData->Bool
 |.tuple ds=>(decide ((1:Int)<=ds.length)&&decide ((ds.length:Int)<=6))&&(ds.all (λd=>inW d 0 6)&&nfI (ds.map toI))
 |_=>false
structure JQ (ns:List Int):Prop where
 l1:1<=ns.length
 l6:ns.length<=6
 bd:∀i∈ns,0<=i/\i<=6
 nf:nfI ns=true
def tI(ns:List Int):PyData:=.tuple (ns.map Qb)
theorem Qm9{ns:List Int}(h:JQ ns):Qii (tI ns)=true:=by
 show((decide ((1:Int)<=(ns.map Qb).length)&&decide (((ns.map Qb).length:Int)<=6))&&((ns.map Qb).all (λd=>inW d 0 6)&&nfI ((ns.map Qb).map toI)))=true;have a:=h.l1;have b:=h.l6;have e:(ns.map Qb).all (λd=>inW d 0 6)=true:=JM.mpr λd hd=>by
  obtain⟨i,hi,rfl⟩:=Qo.mp hd;exact Qjg (h.bd i hi).1 (h.bd i hi).2
 rw[Qe,Qm2,h.nf,decide_eq_true (by omega),decide_eq_true (by omega),e];rfl
def sH(ns:List Int):Nat:=(max (ns.getLastD 0) 1).toNat
def stF(ns:List Int):Nat->Nat->Bool:=λr c=>decide ((r:Int)<ns.getD c 0)
def stC(ns:List Int):List (Int×Int):=ZF (sH ns) ns.length (stF ns)
def sBd(ns:List Int):PyData:=bdD (sH ns) ns.length (stC ns)
def Qeu(L:List (Int×Int))(p:Int×Int):Bool := !(L.any λq=>(decide (q.2=p.2)&&decide (q.1≥p.1))||(decide (q.1=p.1)&&decide (q.2<p.2)))
def Qli:DF:=λargs R _=>∃ns:List Int,args=[.v (tI ns)]/\R (.bool (nfI ns))
def QgT:DF:=λargs R _=>∃d,args=[.v d]/\R (.bool (Qii d))
def Qhj:DF:=λargs R _=>∃(L:List (Int×Int))(p:Int×Int),args=[.v (stT L),.v (pairD p)]/\R (.bool (Qeu L p))
def Qvz(cs L:List (Int×Int)):PyData:=.tuple ((cs.filter (Qeu L)).map pairD)
def Qiw:DF:=λargs R _=>∃(h w:Int)(cs L:List (Int×Int)),args=[.v (bdD h w cs),.v (stT L)]/\R (Qvz cs L)
def Qyv(ns:List Int)(d:PyData):Bool:=QtI (sH ns) ns.length (stC ns) d
theorem Qkx:∀{L:List (Int×Int)},L.Pairwise plt->QcZ (L.map pairD)=true
 |[],_=>rfl
 |[_],_=>rfl
 |p::q::L,h=>by
  have h:=Qaw.mp h;show(ltD (pairD p) (pairD q)&&QcZ ((q::L).map pairD))=true;rw[Qop,decide_eq_true (h.1 q (.head _)),Qkx h.2];rfl
theorem Qrk{h w:Int}{cs L:List (Int×Int)}(hb:∀p∈cs,0<=p.1/\p.1<h/\0<=p.2/\p.2<w)(hin:∀p∈L,p∈cs)(ha:apB L=true)(hp:L.Pairwise plt):QtI h w cs (stT L)=true:=by
 show(((L.map pairD).all (Qje h w)&&QcZ (L.map pairD))&&((L.map pairD).all (inC cs)&&apB ((L.map pairD).map toP)))=true;have e1:(L.map pairD).all (Qje h w)=true:=JM.mpr λd hd=>by
  obtain⟨p,hp,rfl⟩:=Qo.mp hd;have:=hb p (hin p hp);exact QvH this.1 this.2.1 this.2.2.1 this.2.2.2
 have e2:(L.map pairD).all (inC cs)=true:=JM.mpr λd hd=>by
  obtain⟨p,hp,rfl⟩:=Qo.mp hd;unfold inC;rw[Qmt];exact decide_eq_true (hin p hp)
 rw[Qds,ha,Qkx hp,e1,e2];rfl
theorem QhT{ns:List Int}:∀p∈stC ns,0<=p.1/\p.1<(sH ns:Int)/\0<=p.2/\p.2<(ns.length:Int):=λp hp=>Qb5 hp
theorem Qrw{ns:List Int}(h:JQ ns):1<=sH ns/\sH ns<=6:=by
 unfold sH;have:ns.getLastD 0<=6:=by
  cases e:ns.getLast? with
  |none=>rw[Za,e];decide
  |some b=>rw[Za,e];exact(h.bd b (Qcb e)).2
 omega
theorem QeX{ns:List Int}(h:JQ ns):(stC ns).length<=36:=by
 have a:=QeA ns.length (stF ns) (sH ns);have b:sH ns*ns.length<=6*6:=Nat.mul_le_mul (Qrw h).2 h.l6;unfold stC;omega
theorem Qs3{α β:Type}{g:α->Option β}{p:α->Bool}{k:α->β}:∀{xs:List α},(∀x∈xs,g x=if p x=true then some (k x) else none)->xs.filterMap g=(xs.filter p).map k
 |[],_=>rfl
 |x::xs,h=>by
  have ih:=Qs3 (xs:=xs) λy hy=>h y (.tail _ hy)
  by_cases z:p x=true
  ·rw[List.filterMap_cons_some (by rw[h x (.head _),if_pos z]),ih,Qa9 z];rfl
  ·rw[List.filterMap_cons_none (by rw[h x (.head _),if_neg z]),ih,Qba z]
def QwE(r:Int):PyData->Option PyData
 |.tuple [.int c,.int m]=>if r<m then some (pairD (r,c)) else none
 |_=>none
theorem QoG(ns:List Int)(r:Nat):(QcC (ns.map Qb)).filterMap (QwE r)=(Qdq r ns.length (stF ns)).map pairD:=by
 unfold QcC Qdq;rw[Qc3,Qe,QY];refine Qs3 λc hc=>?_
 have hc:=Q9.mp hc;show QwE r (.tuple [.int c,(ns.map Qb).getD c .none])=_;have e1:(ns.map Qb).getD c .none=.int (ns.getD c 0):=by
  rw[Qf,Qh,Qf,Qg hc];rfl
 rw[e1];show(if(r:Int)<ns.getD c 0 then some (pairD ((r:Int),(c:Int))) else none)=if decide ((r:Int)<ns.getD c 0)=true then _ else _
 by_cases z:(r:Int)<ns.getD c 0
 ·rw[if_pos z,if_pos (decide_eq_true z)];rfl
 ·rw[if_neg z,if_neg (by simpa using z)]
theorem QlA{ns:List Int}(h:1<=ns.length):atI (ns.map Qb) (-1)=some (.int (ns.getLastD 0)):=by
 cases e:ns.getLast? with
 |none=>rw[QgG] at e;subst e;exact absurd h (by decide)
 |some b=>
  obtain⟨xs,rfl⟩:=QgF.mp e;rw[Jk,Za,e];exact QiB _ _
@[irreducible] def Qoo:List PyData->(PyData->Prop)->Prop:=QsM
@[irreducible] def Qon:List PyData->(PyData->Prop)->Prop:=QsK
theorem Qbk:QaK (λxs H Q=>∃i j,xs=[.int i,.int j]/\Q (.int (if j > i then j else i)) H) Qoo:=by unfold Qoo;exact Qto
theorem Qiy:QaK (λxs H Q=>∃i j,xs=[.int i,.int j]/\Q (.int (if j<i then j else i)) H) Qon:=by unfold Qon;exact Qtn
theorem Qcu{i j k:Int}{Q:PyData->Prop}(e:(if j > i then j else i)=k)(h:Q (.int k)):Qoo [.int i,.int j] Q:=by
 unfold Qoo;show Q (.int (if j > i then j else i));rw[e];exact h
theorem Qdt{i j k:Int}{Q:PyData->Prop}(e:(if j<i then j else i)=k)(h:Q (.int k)):Qon [.int i,.int j] Q:=by
 unfold Qon;show Q (.int (if j<i then j else i));rw[e];exact h
def Qry(ns:List Int):PyData->List PyData
 |.int r=>(Qdq r.toNat ns.length (stF ns)).map pairD
 |_=>[]
theorem Qh3(ns:List Int)(h:Nat):(Qnl 0 h).flatMap (Qry ns)=(ZF h ns.length (stF ns)).map pairD:=by
 unfold Qnl ZF;rw[Qp3,Qp1]
 congr 1
 funext r
 show(Qdq (0+(r:Int)).toNat ns.length (stF ns)).map pairD=_;rw[show(0+(r:Int)).toNat=r by omega]
theorem Qxv{ns:List Int}:(if(1:Int) > ns.getLastD 0 then 1 else ns.getLastD 0)=(sH ns:Int):=by
 unfold sH;split<;>omega
theorem Qin(g:Int×Int->Bool)(cs:List (Int×Int)):(cs.map pairD).filterMap (λd=>if g (toP d)=true then some d else none)=(cs.filter g).map pairD:=by
 rw[Qc3];exact Qs3 (p:=g) (k:=pairD) λp _=>rfl
theorem Qma{items:List PyData}{wg wg2:DG}{wt wt2:DT}{wi2:DI}{we:DE}{δ:Sts}{Q:PyData->Prop}(G:PyData->List PyData)(k:Nat)(hl:(items.flatMap G).length<=k)
  (h:∀d∈items,∀(acc:List PyData)(N:List PyData->Prop),acc.length+(G d).length<=k->N (acc++G d)->wg d δ λδ4=>wt δ4 (λb=>if b=true then wi2 δ4 (λitems2=>InR items2 wg2 wt2 we δ4 acc N) XF else N acc) XF)(q:Q (.list (items.flatMap G))) :
  QiD items wg wt wi2 wg2 wt2 we δ Q:=by
 unfold QiD;refine⟨λi acc=>acc=(items.take i).flatMap G,by simp,λi acc d hd e=>?_,λacc e=>by rw[e,J3];exact q⟩;have e:acc=(items.take i).flatMap G:=e;have hs:(items.take (i+1)).flatMap G=(items.take i).flatMap G++G d:=by
  rw[JR,hd,QcI];simp
 refine h d (Qz hd) acc _ ?_ (by show acc++G d=_;rw[hs,e])
 have h1:(items.flatMap G).length=((items.take (i+1)).flatMap G).length+((items.drop (i+1)).flatMap G).length:=by
  rw[<- Qx,<- QcI,List.take_append_drop]
 rw[hs,<- e,Qx] at h1;omega
end Rk
namespace Rv
section
variable{prog:QN}{w:Jj}{A:Jh}{E:Value->Shared->Prop}{s:Shared}
end
end Rv
namespace L2
section
variable{X:Cx}{tg:QV}
end
section
variable{X:Cx}
end
end L2
namespace Dl
open L2 _root_.Rd Rk
section
variable{X:Cx}{E:XK}{st:ZK}{i:Nat}{we:DE}
end
end Dl
namespace Rk
open L2 _root_.Rd Dl Rt
def Que(B:Nat->Nat->Int)(t:Nat):List Nat->Nat->Int
 |[],_=>0
 |c::cs,k=>(if t.testBit c=true then 0 else B (t ||| 2^c) k)+Que B t cs k
def QjK(h:Nat)(F:Nat->Int):List PyData:=(Qm (h+1)).map λ(k:Nat)=>.int (F k)
def Qrj(B:Nat->Nat->Int)(cols:List Nat)(t k:Nat):Int:=B t k+if k=0 then 0 else Que B t cols (k - 1)
def QtM(cs:List (Int×Int))(r:Nat):List Nat:=(QgL cs r).map λp=>p.2.toNat
def Wc(cs:List (Int×Int))(h:Nat):Nat->Nat->Nat->Int
 |0,_,k=>if k=0 then 1 else 0
 |i+1,t,k=>Qrj (Wc cs h i) (QtM cs (h - 1 - i)) t k
theorem Qe3{h k:Nat}{F:Nat->Int}(hk:k<=h):(QjK h F)[k]? = some (.int (F k)):=by
 unfold QjK;rw[Qh,Q6 (by omega)];rfl
theorem Qda(h:Nat)(F:Nat->Int):(QjK h F).length=h+1:=by unfold QjK;rw[Qe,QD]
theorem Qi3{h:Nat}{F G:Nat->Int}(e:∀k,k<=h->F k=G k):QjK h F=QjK h G:=by
 unfold QjK;refine QQ λk hk=>?_
 rw[e k (by have:=Q9.mp hk;omega)]
theorem Qnk{h j:Nat}{F:Nat->Int}{v:Int}(hj:j<=h):(QjK h F).set j (.int v)=QjK h (λk=>if k=j then v else F k):=by
 apply Yk
 intro k;rw[QaL];by_cases z:j=k
 ·subst z;rw[if_pos rfl,if_pos (by rw[Qda];omega),Qe3 hj,if_pos rfl]
 ·rw[if_neg z];by_cases z2:k<=h
  ·rw[Qe3 z2,Qe3 z2,if_neg (λe=>z e.symm)]
  ·rw[QL (by rw[Qda];omega),QL (by rw[Qda];omega)]
theorem Qrz(h:Nat):(QJ h [Qb 0]).flatten=QJ h (.int 0):=by
 induction h with
 |zero=>rfl
 |succ h ih=>rw[Ja,JS,ih];rfl
def sumZ{α:Type}(f:α->Int):List α->Int
 |[]=>0
 |x::xs=>f x+sumZ f xs
theorem QeT{α:Type}(f:α->Int):∀a b:List α,sumZ f (a++b)=sumZ f a+sumZ f b
 |[],b=>by show _=0+_;rw[ZD];rfl
 |x::a,b=>by show _+sumZ f (a++b)=_+sumZ f a+_;rw[QeT f a b];omega
theorem QfW{α β:Type}(f:β->Int)(g:α->List β):∀a:List α,sumZ f (a.flatMap g)=sumZ (λx=>sumZ f (g x)) a
 |[]=>rfl
 |x::a=>by rw[ZO,QeT,QfW f g a];rfl
theorem Zw{α:Type}{f g:α->Int}:∀{a:List α},(∀x∈a,f x=g x)->sumZ f a=sumZ g a
 |[],_=>rfl
 |x::a,h=>by show f x+_=g x+_;rw[h x (.head _),Zw λy hy=>h y (.tail _ hy)]
theorem Qc7{α:Type}(f g:α->Int):∀a:List α,sumZ (λx=>f x+g x) a=sumZ f a+sumZ g a
 |[]=>rfl
 |x::a=>by show(f x+g x)+sumZ _ a=f x+sumZ f a+(g x+sumZ g a);rw[Qc7 f g a];omega
theorem Z0{α:Type}(f:α->Int)(p:α->Bool):∀a:List α,sumZ f (a.filter p)=sumZ (λx=>if p x=true then f x else 0) a
 |[]=>rfl
 |x::a=>by
  by_cases z:p x=true
  ·rw[Qa9 z];show f x+_=(if p x=true then f x else 0)+_;rw[if_pos z,Z0 f p a]
  ·rw[Qba z];show _=(if p x=true then f x else 0)+_;rw[if_neg z,Z0 f p a,ZD]
theorem QhP{α β:Type}(f:β->Int)(g:α->β):∀a:List α,sumZ f (a.map g)=sumZ (λx=>f (g x)) a
 |[]=>rfl
 |x::a=>by show _+sumZ f (a.map g)=_+_;rw[QhP f g a]
theorem sumZ_zero{α:Type}:∀a:List α,sumZ (λ_=>0) a=0
 |[]=>rfl
 |x::a=>by show 0+sumZ _ a=0;rw[sumZ_zero a];rfl
theorem Qci{α:Type}(p:α->Bool):∀a:List α,sumZ (λx=>if p x=true then 1 else 0) a=((a.countP p:Nat):Int)
 |[]=>rfl
 |x::a=>by
  show(if p x=true then 1 else 0)+_=_;rw[Qci p a];by_cases z:p x=true
  ·rw[if_pos z,QhH z];omega
  ·rw[if_neg z,ZU z];omega
theorem Qdk{α:Type}(B:Nat->Nat->Int)(t k:Nat)(g:α->Nat):∀a:List α,Que B t (a.map g) k=sumZ (λx=>if t.testBit (g x)=true then 0 else B (t ||| 2^g x) k) a
 |[]=>rfl
 |x::a=>by show _+Que B t (a.map g) k=_+_;rw[Qdk B t k g a]
def mkL(L:List (Int×Int)):Nat:=L.foldl (λt p=>t ||| 2^p.2.toNat) 0
theorem Qol(L:List (Int×Int))(p:Int×Int):mkL (L++[p])=mkL L ||| 2^p.2.toNat:=by
 unfold mkL;rw[QaM];rfl
theorem QiA(c:Nat):∀(L:List (Int×Int))(t:Nat),(L.foldl (λt p=>t ||| 2^p.2.toNat) t).testBit c=(t.testBit c||decide (c∈L.map λp=>p.2.toNat))
 |[],t=>by simp
 |p::L,t=>by
  rw[QfI,QiA c L,Qwu,QmN,Bool.or_assoc]
  congr 1
  rw[Jl,Zd];simp only[QtF,decide_eq_true_eq,Qt];constructor
  ·rintro(z | z)
   ·exact .inl z.symm
   ·exact .inr z
  ·rintro(z | z)
   ·exact .inl z.symm
   ·exact .inr z
theorem Qtt(L:List (Int×Int))(c:Nat):(mkL L).testBit c=decide (c∈L.map λp=>p.2.toNat):=by
 unfold mkL;rw[QiA];simp
theorem QeV{cs:List (Int×Int)}:∀i,∀L∈Qdl cs i,∀p∈L,p∈cs
 |0,L,h,p,hp=>by rw[QB.mp h] at hp;cases hp
 |i+1,L,h,p,hp=>by
  rcases Jn.mp (show L∈Qdl cs i++(Qdl cs i).flatMap (Qjh (QgL cs i)) from h) with z | z
  ·exact QeV i L z p hp
  ·obtain⟨M,hM,hL⟩:=J4.mp z;obtain⟨c,hc,_,rfl⟩:=Qbf.mp hL;rcases Jn.mp hp with y | y
   ·exact QeV i M hM p y
   ·rw[QB.mp y];exact(Jc.mp hc).1
theorem QsL{L:List (Int×Int)}{c:Int×Int}(hL:∀p∈L,0<=p.2)(hc:0<=c.2):(c.2.toNat∈L.map λp=>p.2.toNat)↔c.2∈L.map (·.2):=by
 rw[Qo,Qo];constructor
 ·rintro⟨p,hp,e⟩;refine⟨p,hp,?_⟩;have:=hL p hp;have e:p.2.toNat=c.2.toNat:=e;show p.2=c.2;omega
 ·rintro⟨p,hp,e⟩;exact⟨p,hp,by show p.2.toNat=c.2.toNat;rw[show p.2=c.2 from e]⟩
def trm(cs:List (Int×Int))(h r k:Nat)(L:List (Int×Int)):Int:=if L.length<=k then Wc cs h (h - r) (mkL L) (k - L.length) else 0
theorem Qm1{cs:List (Int×Int)}{h r k:Nat}(hr:r<h)(hb:∀p∈cs,0<=p.2){L:List (Int×Int)}(hL:∀p∈L,p∈cs) :
  trm cs h r k L=trm cs h (r+1) k L+sumZ (trm cs h (r+1) k) (Qjh (QgL cs r) L):=by
 have e1:h - r=(h - (r+1))+1:=by omega
 have e2:h - 1 - (h - (r+1))=r:=by omega
 unfold Qjh;rw[QhP,Z0];unfold trm;rw[e1];by_cases z:L.length<=k
 ·rw[if_pos z,if_pos z];show Qrj (Wc cs h (h - (r+1))) (QtM cs (h - 1 - (h - (r+1)))) (mkL L) (k - L.length)=_;rw[e2];unfold Qrj
  congr 1
  by_cases z2:k - L.length=0
  ·rw[if_pos z2];refine(Qp8 (Zw (g:=λ_=>0) λc hc=>?_) (sumZ_zero _)).symm;rw[Qx,if_neg (show ¬(L.length+[c].length<=k) by show ¬(L.length+1<=k);omega)];split<;>rfl
  ·rw[if_neg z2];unfold QtM;rw[Qdk];refine Zw λc hc=>?_
   have hc':=hb c (Jc.mp hc).1;rw[Qtt,Qol,Qx,if_pos (show L.length+[c].length<=k by show L.length+1<=k;omega)];have em:=QsL (c:=c) (λp hp=>hb p (hL p hp)) hc';by_cases y:c.2∈L.map (·.2)
   ·rw[if_pos (decide_eq_true (em.mpr y)),if_neg (by simpa using y)]
   ·rw[if_neg (by rw[decide_eq_true_eq];exact λq=>y (em.mp q)),if_pos (by simpa using y)];show _=Wc cs h (h - (r+1)) _ (k - (L.length+1));rw[show k - L.length - 1=k - (L.length+1) by omega]
 ·rw[if_neg z,if_neg z,ZD];refine(Qp8 (Zw (g:=λ_=>0) λc hc=>?_) (sumZ_zero _)).symm;rw[Qx,if_neg (show ¬(L.length+[c].length<=k) by show ¬(L.length+1<=k);omega)];split<;>rfl
theorem QhK{cs:List (Int×Int)}{h k:Nat}(hb:∀p∈cs,0<=p.2):∀r,r<=h->sumZ (trm cs h r k) (Qdl cs r)=Wc cs h h 0 k
 |0,_=>by
  show(if 0<=k then Wc cs h (h - 0) (mkL []) (k - 0) else 0)+0=_;rw[if_pos (Jm _),Zf];rfl
 |r+1,hr=>by
  rw[<- QhK hb r (by omega)];show sumZ _ (Qdl cs r++(Qdl cs r).flatMap (Qjh (QgL cs r)))=_;rw[QeT,QfW,<- Qc7];exact(Zw λL hL=>Qm1 (by omega) hb (QeV r L hL)).symm
def Qyk(cs:List (Int×Int))(h k:Nat):Int:=(((Qdl cs h).countP λL=>L.length == k:Nat):Int)
theorem QoK{cs:List (Int×Int)}{h:Nat}(hb:∀p∈cs,0<=p.2)(k:Nat):Qyk cs h k=Wc cs h h 0 k:=by
 rw[<- QhK (k:=k) hb h (Qi _)];unfold Qyk;rw[<- Qci];refine Zw λL _=>?_
 unfold trm;rw[Nat.sub_self];show(if(L.length == k)=true then 1 else 0)=if L.length<=k then(if k - L.length=0 then 1 else 0) else 0
 by_cases z:L.length=k
 ·rw[if_pos (by simpa using z),if_pos (by omega),if_pos (by omega)]
 ·rw[if_neg (by simpa using z)];by_cases z2:L.length<=k
  ·rw[if_pos z2,if_neg (by omega)]
  ·rw[if_neg z2]
end Rk
namespace L2
section
variable{X:Cx}
end
end L2
namespace Dl
open L2 _root_.Rd Rk
end Dl
namespace Rk
open L2 _root_.Rd Dl Rt
theorem Qew{α β:Type}{f g:α->List β}:∀{xs:List α},(∀x∈xs,f x=g x)->xs.flatMap f=xs.flatMap g
 |[],_=>rfl
 |x::xs,h=>by rw[ZO,ZO,h x (.head _),Qew λy hy=>h y (.tail _ hy)]
def Bds(h w:Nat)(cs:List (Int×Int)):Prop:=h<=6/\w<=6/\∀p∈cs,0<=p.1/\p.1<h/\0<=p.2/\p.2<w
theorem Bds.nn{h w:Nat}{cs:List (Int×Int)}(b:Bds h w cs):∀p∈cs,0<=p.2:=λp hp=>(b.2.2 p hp).2.2.1
def QmF:List (Int×Int)->List (Int×Int)->Prop
 |[],[]=>False
 |[],_::_=>True
 |_::_,[]=>False
 |p::L,q::M=>plt p q∨(p=q/\QmF L M)
theorem QoL(p q:Int×Int):QpJ (pairD p) (pairD q)=if plt p q then .lt else if p=q then .eq else .gt:=by
 obtain⟨a,b⟩:=p;obtain⟨c,d⟩:=q;show thn (Ql9 a c) (thn (Ql9 b d) .eq)=_;unfold Ql9;by_cases h1:a<c
 ·rw[if_pos h1,if_pos (show plt (a,b) (c,d) from Q4 h1)];rfl
 ·rw[if_neg h1];by_cases h2:a=c
  ·subst h2;rw[if_pos rfl];by_cases h3:b<d
   ·rw[if_pos h3,if_pos (show plt (a,b) (a,d) from Q0 ⟨rfl,h3⟩)];rfl
   ·have hn:¬plt (a,b) (a,d):=λz=>by
     have z:a<a∨(a=a/\b<d):=z;omega
    rw[if_neg h3,if_neg hn];by_cases h4:b=d
    ·subst h4;rw[if_pos rfl,if_pos rfl];rfl
    ·rw[if_neg h4,if_neg (λe=>h4 (QaI e).2)];rfl
  ·have hn:¬plt (a,b) (c,d):=λz=>by
    have z:a<c∨(a=c/\b<d):=z;omega
   rw[if_neg h2,if_neg hn,if_neg (λe=>h2 (QaI e).1)];rfl
theorem Qlt:∀L M:List (Int×Int),ltD (stT L) (stT M)=true↔QmF L M
 |[],[]=>by
  constructor
  ·intro h;cases h
  ·intro h;exact h.elim
 |[],_::_=>⟨λ_=>trivial,λ_=>rfl⟩
 |_::_,[]=>by
  constructor
  ·intro h;cases h
  ·intro h;exact h.elim
 |p::L,q::M=>by
  have ih:=Qlt L M;show isL (thn (QpJ (pairD p) (pairD q)) (Qfr (L.map pairD) (M.map pairD)))=true↔_;have ih:isL (Qfr (L.map pairD) (M.map pairD))=true↔QmF L M:=ih;rw[QoL];by_cases z:plt p q
  ·rw[if_pos z];exact⟨λ_=>.inl z,λ_=>rfl⟩
  ·rw[if_neg z];by_cases y:p=q
   ·rw[if_pos y];show isL (Qfr (L.map pairD) (M.map pairD))=true↔_;rw[ih];exact⟨λh=>.inr ⟨y,h⟩,λh=>h.elim (λe=>absurd e z) λe=>e.2⟩
   ·rw[if_neg y];constructor
    ·intro h;cases h
    ·rintro(h | h)
     ·exact absurd h z
     ·exact absurd h.1 y
theorem Qhg:∀L:List (Int×Int),¬QmF L L
 |[],h=>h
 |p::L,h=>by
  rcases h with z | z
  ·rcases z with z | z<;>omega
  ·exact Qhg L z.2
theorem Qlx:∀{S T:List (Int×Int)}(c d:Int×Int),S.length=T.length->QmF S T->QmF (S++[c]) (T++[d])
 |[],[],_,_,_,h=>h.elim
 |[],_::_,_,_,e,_=>by cases e
 |_::_,[],_,_,e,_=>by cases e
 |p::S,q::T,c,d,e,h=>by
  rcases h with z | z
  ·exact .inl z
  ·exact .inr ⟨z.1,Qlx c d (by simpa using e) z.2⟩
theorem Qih:∀(S:List (Int×Int)){c d:Int×Int},plt c d->QmF (S++[c]) (S++[d])
 |[],c,d,h=>.inl h
 |p::S,c,d,h=>.inr ⟨rfl,Qih S h⟩
def rbI(S:List (Int×Int)):Int:=match S.getLast? with
 |some c=>c.1+1
 |none=>0
def fol(cs S:List (Int×Int)):List (Int×Int):=cs.filter λc=>decide (rbI S<=c.1) && !decide (c.2∈S.map (·.2))
def evS(cs:List (Int×Int)):Nat->List (List (Int×Int))
 |0=>[[]]
 |k+1=>(evS cs k).flatMap λS=>(fol cs S).map λc=>S++[c]
structure Std (cs L:List (Int×Int)):Prop where
 sub:∀p∈L,p∈cs
 rows:L.Pairwise λp q=>p.1<q.1
 cols:(L.map (·.2)).Nodup
theorem Std.nil{cs:List (Int×Int)}:Std cs []:=⟨λp hp=>(nomatch hp),.nil,.nil⟩
theorem Std.init{cs S:List (Int×Int)}{c:Int×Int}(h:Std cs (S++[c])):Std cs S/\c∈cs/\(∀p∈S,p.1<c.1)/\c.2∉S.map (·.2):=by
 have r:=ZL.mp h.rows;have k:=h.cols;rw[Jk] at k;have k:=J7.mp k;refine⟨⟨λp hp=>h.sub p (Qad _ hp),r.1,k.1⟩,h.sub c (by simp),λp hp=>r.2.2 p hp c (by simp),λz=>?_⟩;exact k.2.2 c.2 z c.2 (by simp) rfl
theorem Std.snoc{cs S:List (Int×Int)}{c:Int×Int}(h:Std cs S)(h1:c∈cs)(h2:∀p∈S,p.1<c.1)(h3:c.2∉S.map (·.2)):Std cs (S++[c]):=by
 refine⟨λp hp=>?_,ZL.mpr ⟨h.rows,by simp,λp hp q hq=>?_⟩,?_⟩
 ·rcases Jn.mp hp with z | z
  ·exact h.sub p z
  ·rw[QB.mp z];exact h1
 ·rw[QB.mp hq];exact h2 p hp
 ·rw[Jk];refine J7.mpr ⟨h.cols,by simp,λa ha b hb e=>?_⟩;have hb:b=c.2:=by simpa using hb
  rw[e,hb] at ha;exact h3 ha
theorem Qou{S:List (Int×Int)}(h:S.Pairwise λp q=>p.1<q.1){c:Int×Int}:(∀p∈S,p.1<c.1)∨¬rbI S<=c.1∨(S=[] ):=by
 by_cases z:S=[]
 ·exact .inr (.inr z)
 ·by_cases y:rbI S<=c.1
  ·refine .inl λp hp=>?_
   obtain⟨T,d,rfl⟩:∃T d,S=T++[d]:=⟨S.dropLast,S.getLast z,(Qae z).symm⟩
   have y:d.1+1<=c.1:=by unfold rbI at y;rw[Yo] at y;simpa using y
   rcases Jn.mp hp with q | q
   ·have:=(ZL.mp h).2.2 p q d (by simp);omega
   ·rw[QB.mp q];omega
  ·exact .inr (.inl y)
theorem Qxx{S:List (Int×Int)}{c:Int×Int}(h:∀p∈S,p.1<c.1)(h0:0<=c.1):rbI S<=c.1:=by
 unfold rbI;cases e:S.getLast? with
 |none=>exact h0
 |some d=>
  have:=h d (Qcb e);show d.1+1<=c.1;omega
theorem Qas{cs:List (Int×Int)}(h0:∀p∈cs,0<=p.1):∀(k:Nat)(L:List (Int×Int)),L∈evS cs k↔Std cs L/\L.length=k
 |0,L=>by
  constructor
  ·intro h;rw[QB.mp h];exact⟨.nil,rfl⟩
  ·rintro⟨_,h⟩;cases L with
   |nil=>exact .head _
   |cons a b=>cases h
 |k+1,L=>by
  show L∈(evS cs k).flatMap (λS=>(fol cs S).map λc=>S++[c])↔_;rw[J4];constructor
  ·rintro⟨S,hS,hL⟩;obtain⟨c,hc,rfl⟩:=Qo.mp hL;obtain⟨st,hl⟩:=(Qas h0 k S).mp hS;have hc:=Jc.mp hc;have hc2:=Q3.mp hc.2;refine⟨st.snoc hc.1 ?_ (by simpa using hc2.2),by rw[Qx,hl];rfl⟩;rcases Qou st.rows (c:=c) with z | z | z
   ·exact z
   ·exact absurd (of_decide_eq_true hc2.1) z
   ·rw[z];exact λp hp=>(nomatch hp)
  ·rintro⟨st,hl⟩;have hne:L≠[]:=λe=>by rw[e] at hl;cases hl
   obtain⟨S,c,rfl⟩:∃T d,L=T++[d]:=⟨L.dropLast,L.getLast hne,(Qae hne).symm⟩
   obtain⟨s1,s2,s3,s4⟩:=st.init;refine⟨S,(Qas h0 k S).mpr ⟨s1,by rw[Qx] at hl;exact Nat.succ.inj hl⟩,Qo.mpr ⟨c,Jc.mpr ⟨s2,?_⟩,rfl⟩⟩;rw[JN];exact⟨decide_eq_true (Qxx s3 (h0 c s2)),by simpa using s4⟩
theorem QdE{cs:List (Int×Int)}(hp:cs.Pairwise plt)(h0:∀p∈cs,0<=p.1):∀k,(evS cs k).Pairwise QmF
 |0=>Qa8 _ _
 |k+1=>by
  show((evS cs k).flatMap λS=>(fol cs S).map λc=>S++[c]).Pairwise QmF;rw[Qjy];refine⟨λS _=>?_,?_⟩
  ·exact Jy.mpr ((J9 _ hp).imp λh=>Qih S h)
  ·refine Qc5 (λ{S T} hS hT h=>?_) (QdE hp h0 k);intro x hx y hy;obtain⟨c,_,rfl⟩:=Qo.mp hx;obtain⟨d,_,rfl⟩:=Qo.mp hy;exact Qlx c d (by rw[((Qas h0 k S).mp hS).2,((Qas h0 k T).mp hT).2]) h
theorem Qct{cs:List (Int×Int)}(h0:∀p∈cs,0<=p.1):∀(i:Nat)(L:List (Int×Int)),L∈Qdl cs i↔Std cs L/\∀p∈L,p.1<(i:Int)
 |0,L=>by
  constructor
  ·intro h;rw[QB.mp h];exact⟨.nil,λp hp=>(nomatch hp)⟩
  ·rintro⟨s,h⟩;cases L with
   |nil=>exact .head _
   |cons a b=>
    have h1:=h a (.head _);have h2:=h0 a (s.sub a (.head _));exact absurd h1 (by show ¬a.1<0;omega)
 |i+1,L=>by
  show L∈Qdl cs i++(Qdl cs i).flatMap (Qjh (QgL cs i))↔_;rw[Jn,J4];constructor
  ·rintro(h | ⟨S,hS,hL⟩)
   ·obtain⟨a,b⟩:=(Qct h0 i L).mp h;exact⟨a,λp hp=>by have:=b p hp;omega⟩
   ·obtain⟨c,hc,hn,rfl⟩:=Qbf.mp hL;obtain⟨a,b⟩:=(Qct h0 i S).mp hS;have hc:=Jc.mp hc;have hr:c.1=(i:Int):=of_decide_eq_true hc.2;refine⟨a.snoc hc.1 (λp hp=>by rw[hr];exact b p hp) hn,λp hp=>?_⟩;rcases Jn.mp hp with z | z
    ·have:=b p z;omega
    ·rw[QB.mp z,hr];omega
  ·rintro⟨s,h⟩;by_cases z:L=[]
   ·left
    rw[z];exact Qkf cs i
   ·obtain⟨S,c,rfl⟩:∃T d,L=T++[d]:=⟨L.dropLast,L.getLast z,(Qae z).symm⟩
    obtain⟨s1,s2,s3,s4⟩:=s.init;have hc:=h c (by simp);by_cases y:c.1=(i:Int)
    ·right
     exact⟨S,(Qct h0 i S).mpr ⟨s1,λp hp=>by have:=s3 p hp;omega⟩,Qbf.mpr ⟨c,Jc.mpr ⟨s2,decide_eq_true y⟩,s4,rfl⟩⟩
    ·left
     refine(Qct h0 i _).mpr ⟨s,λp hp=>?_⟩;rcases Jn.mp hp with q | q
     ·have:=s3 p q;omega
     ·rw[QB.mp q];omega
theorem Qo6{cs:List (Int×Int)}(nd:cs.Nodup)(h0:∀p∈cs,0<=p.1):∀i,(Qdl cs i).Nodup
 |0=>by show[([]:List (Int×Int))].Nodup;simp
 |i+1=>by
  have ih:=Qo6 nd h0 i;show(Qdl cs i++(Qdl cs i).flatMap (Qjh (QgL cs i))).Nodup;refine J7.mpr ⟨ih,?_,λL hL M hM e=>?_⟩
  ·show List.Pairwise _ _;rw[Qjy];refine⟨λS _=>?_,ih.imp λ{S T} hne x hx y hy e=>?_⟩
   ·unfold Qjh;refine Jy.mpr ((J9 _ (J9 _ nd)).imp λ{c d} hne e=>hne ?_);have:=QiK e rfl
    simpa using this
   ·obtain⟨c,_,_,rfl⟩:=Qbf.mp hx;obtain⟨d,_,_,rfl⟩:=Qbf.mp hy;exact hne (QjG e rfl)
  ·obtain⟨S,hS,hM⟩:=J4.mp hM;obtain⟨c,hc,_,rfl⟩:=Qbf.mp hM;have hr:c.1=(i:Int):=of_decide_eq_true (Jc.mp hc).2;have:=((Qct h0 i L).mp hL).2 c (by rw[e];simp);omega
end Rk
namespace Dl
open L2 _root_.Rd Rk
section
variable{X:Cx}{E:XK}{st:ZK}{we:DE}
end
end Dl
namespace Rk
open L2 _root_.Rd Dl Rt
structure GB (h w:Nat) (cs:List (Int×Int)):Prop where
 bds:Bds h w cs
 srt:cs.Pairwise plt
 few:(Qdl cs h).length<=200000
theorem GB.r0{h w:Nat}{cs:List (Int×Int)}(g:GB h w cs):∀p∈cs,0<=p.1:=λp hp=>(g.bds.2.2 p hp).1
theorem GB.rh{h w:Nat}{cs:List (Int×Int)}(g:GB h w cs):∀p∈cs,p.1<(h:Int):=λp hp=>(g.bds.2.2 p hp).2.1
theorem QlP{h w:Nat}{cs:List (Int×Int)}(g:GB h w cs)(k:Nat):(evS cs k).Perm ((Qdl cs h).filter λL=>L.length == k):=by
 have nd:=Qo6 (g.srt.imp QuH) g.r0 h;have s2:=QdE g.srt g.r0 k;have n2:(evS cs k).Nodup:=Qxa (R:=QmF) (S:=λa b=>a≠b) (λ{S T} z (e:S=T)=>Qhg S (by rw[<- e] at z;exact z)) s2;refine(QfN n2 (J9 _ nd)).mpr λL=>?_
 rw[Jc,Qas g.r0,Qct g.r0];constructor
 ·rintro⟨a,b⟩;exact⟨⟨a,λp hp=>g.rh p (a.sub p hp)⟩,by simpa using b⟩
 ·rintro⟨⟨a,_⟩,b⟩;exact⟨a,by simpa using b⟩
theorem Qpw{h w:Nat}{cs:List (Int×Int)}(g:GB h w cs)(k:Nat):((evS cs k).length:Int)=Wc cs h h 0 k:=by
 rw[<- QoK g.bds.nn];unfold Qyk;rw[(QlP g k).length_eq,Zt]
theorem QvR{h w:Nat}{cs:List (Int×Int)}(g:GB h w cs)(k:Nat):(evS cs k).length<=200000:=by
 rw[(QlP g k).length_eq];exact Q1 (Y1 _ _) g.few
def stL:PyData->List (Int×Int)
 |.tuple ds=>ds.map toP
 |_=>[]
theorem Quf(L:List (Int×Int)):stL (stT L)=L:=Qds L
def Qrx:DF:=λargs R _=>∃S:List (Int×Int),args=[.v (stT S)]/\R (.int (rbI S))
def Qyc:DF:=λargs R _=>∃(h w:Nat)(cs S:List (Int×Int)),args=[.v (bdD h w cs),.v (stT S)]/\R (.list ((fol cs S).map pairD))
def evD:DF:=λargs R _=>∃(h w:Nat)(cs:List (Int×Int))(k:Nat),args=[.v (bdD h w cs),.v (.int k)]/\GB h w cs/\k<=6/\R (.list ((evS cs k).map stT))
theorem QsT{S:List (Int×Int)}{c:Int×Int}(h:S.getLast? = some c):atI (S.map pairD) (-1)=some (pairD c):=by
 obtain⟨xs,rfl⟩:=QgF.mp h;rw[Jk];exact QiB _ _
def evG(cs:List (Int×Int))(d:PyData):List PyData:=(fol cs (stL d)).map λc=>stT (stL d++[c])
theorem QlQ(cs:List (Int×Int))(k:Nat):((evS cs k).map stT).flatMap (evG cs)=(evS cs (k+1)).map stT:=by
 show _=((evS cs k).flatMap λS=>(fol cs S).map λc=>S++[c]).map stT;rw[Qp3,Qp1];refine Qew λS _=>?_
 unfold evG;rw[Quf,QY];rfl
end Rk
namespace L2
section
variable{X:Cx}
def Qul(K:PySem.W.Frag):List V->Hp->VK->Prop:=λxs H Q=>∃(p:Addr)(ns:List Int),xs=[.ref p]/\SqT K H p (ns.map V.int)/\Q (.int ns.sum) H
theorem QdK(hc:X.calm=true):CallR X (.builtin "sum") (Qul X.K):=by
 intro pins s σ H xs us Q I r h;obtain⟨p,ns,rfl,hp,q⟩:=h;obtain⟨u,rfl,ru⟩:=vals1 r;cases ru;obtain⟨its,rv,pl,hz⟩:=I.tuple hp;have hl:s.heap.IsTuple p its.toArray:=pl;have hi:Qbp its ns:=intsAre_of rv;obtain⟨ys,hx⟩:=hi.allInts.items;have hlt:p<s.heap.objs.size:=by obtain⟨_,e,_⟩:=hl;exact Qj e
 refine call_sum_walkG (ZJ hl ?_);refine⟨s.heap.objs.size,[s.heap.objs.size,p],[s.heap.objs.size],its.toArray.size,_,_,numAt ys,rfl,Walks.tuple (A:=X.A.in1) (I.ok.hd hc) _ p (QF hlt) its.toArray,⟨⟨_,Qv _ rfl,rfl,rfl⟩,?_⟩,?_,?_,λh' tk t' hk=>?_⟩
 ·obtain⟨o,e,r⟩:=hl;exact⟨o,Qd _ e,r⟩
 ·intro b hb;have:(s.heap.push { cls:=.type "tuple_iterator",data:=.fields #[.ref p,.int 0 0] }).objs.size=s.heap.objs.size+1:=by simp[Heap.push]
  show b<(s.heap.push { cls:=.type "tuple_iterator",data:=.fields #[.ref p,.int 0 0] }).objs.size;rw[this];rcases Qt.mp hb with e | e
  ·rw[e];exact QtA _
  ·rw[QB.mp e];exact QaO hlt
 ·intro i v hv;rw[hx] at hv;exact intItems_at hv
 ·have e1:ns=ys.toList.map (·.1):=by
   rw[<- nums_intItems,<- hx];exact(show numsOf its.toArray.toList=ns from hi.numsOf).symm
  have e2:preSum (numAt ys) its.toArray.size=ns.sum:=by
   have:its.toArray.size=ys.size:=by rw[hx];simp[intItems]
   rw[this,preSum_eq,Qbt (by simp),e1]
  rw[e2];exact⟨.int _,H,I.kept (QiL hk),⟨_,rfl⟩,q⟩
end
end L2
namespace Dl
open L2 _root_.Rd Rk Rt
@[irreducible] def Qm8:List PyData->(PyData->Prop)->Prop
 |[.tuple ds],Q=>∃ns,Qaj ds=some ns/\Q (.int ns.sum)
 |_,_=>False
theorem Qhs{K:PySem.W.Frag}:QaK (Qul K) Qm8:=λA P H vs ds R Q ln dm q h k=>by
 unfold Qm8 at h;split at h
 ·obtain⟨v,rfl,hv⟩:=pd1 q;obtain⟨bs,hb,hR⟩:=h;rw[QbI hb] at hv;obtain⟨l,xs,rfl,e,qq⟩:=hv.tuple;rw[QaB qq] at e;exact⟨l,bs,rfl,SqT.of e,k _ hR _ H (Same.refl H) (.int _) ZT⟩
 ·exact h.elim
theorem QgR{ds:List PyData}{Q:PyData->Prop}(ns:List Int)(h:ds=[.tuple (ns.map Qb)])(q:Q (.int ns.sum)):Qm8 ds Q:=by
 subst h;unfold Qm8;exact⟨ns,ints_map ns,q⟩
end Dl
namespace Rk
open L2 _root_.Rd Dl Rt
theorem Qlf{x:Int}{ns:List Int}(h:nfI (x::ns)=true):nfI ns=true:=by
 cases ns with
 |nil=>rfl
 |cons y r=>exact(Q3.mp (show(decide (x<=y)&&nfI (y::r))=true from h)).2
theorem Qfd:∀{ns:List Int},nfI ns=true->∀x∈ns,x<=ns.getLastD 0
 |[],_,_,h=>(nomatch h)
 |[a],_,x,h=>by rw[QB.mp h];exact Zm _
 |a::b::r,hn,x,hx=>by
  have h2:=Q3.mp (show(decide (a<=b)&&nfI (b::r))=true from hn);have ih:=Qfd (ns:=b::r) h2.2;have e:(a::b::r).getLastD 0=(b::r).getLastD 0:=by rw[Za,Za,QhE]
  rw[e];rcases Qt.mp hx with z | z
  ·rw[z];exact Y4 (of_decide_eq_true h2.1) (ih b (.head _))
  ·exact ih x z
theorem Ql7(p:Nat->Bool)(h:Nat):(Qm (h+1)).countP p=(Qm h).countP p+if p h=true then 1 else 0:=by
 rw[Yb,Qc4,List.countP_singleton]
theorem Qdi(g:Nat->Nat)(p:Nat->Bool):∀xs:List Nat,(xs.map λc=>g c+if p c=true then 1 else 0).sum=(xs.map g).sum+xs.countP p
 |[]=>rfl
 |x::xs=>by
  rw[Jl,Jd,Qdi g p xs,Jl,Jd,Qp5];omega
theorem Qdw(w:Nat)(f:Nat->Nat->Bool):∀h,(ZF h w f).length=((Qm w).map λc=>(Qm h).countP λr=>f r c).sum
 |0=>by
  show 0=_;have:((Qm w).map λc=>(Qm 0).countP λr=>f r c)=QJ w 0:=by
   rw[show(λc=>(Qm 0).countP λr=>f r c)=λ_=>0 from rfl,QtD,QD]
  rw[this];simp
 |h+1=>by
  rw[Yn,Qx,Qdw w f h];have:((Qm w).map λc=>(Qm (h+1)).countP λr=>f r c)=(Qm w).map λc=>((Qm h).countP λr=>f r c)+if f h c=true then 1 else 0:=QQ λc _=>Ql7 (λr=>f r c) h
  rw[this,Qdi]
  congr 1
  unfold Qdq;rw[Qe,Zt]
theorem QpH(m:Int)(h0:0<=m):∀h:Nat,m<=(h:Int)->(((Qm h).countP λ(r:Nat)=>decide ((r:Int)<m):Nat):Int)=m
 |0,hm=>by show(0:Int)=m;omega
 |h+1,hm=>by
  rw[Ql7];by_cases z:(h:Int)<m
  ·have e:(Qm h).countP (λ(r:Nat)=>decide ((r:Int)<m))=h:=by
    have:(Qm h).countP (λ(r:Nat)=>decide ((r:Int)<m))=(Qm h).length:=QjE.mpr λr hr=>decide_eq_true (by have:=Q9.mp hr;omega)
    rw[this,QD]
   rw[e,if_pos (decide_eq_true z)];omega
  ·rw[if_neg (by simpa using z),Nat.add_zero];exact QpH m h0 h (by omega)
theorem QfU:∀(ns:List Int)(g:Nat->Nat),(∀c,c<ns.length->((g c:Nat):Int)=ns.getD c 0)->((((Qm ns.length).map g).sum:Nat):Int)=ns.sum
 |[],_,_=>rfl
 |x::ns,g,h=>by
  rw[QM,List.range_succ_eq_map,Jl,Jd,QY,Jd];have ih:=QfU ns (g∘Nat.succ) λc hc=>by
   have:=h (c+1) (by rw[QM];omega);exact this
  have h0:=h 0 (by rw[QM];omega);have h0:((g 0:Nat):Int)=x:=h0;omega
theorem getD_mem{ns:List Int}{c:Nat}(h:c<ns.length):ns.getD c 0∈ns:=by
 rw[Qf,Qg h];exact Qbo h
theorem Qrm{ns:List Int}(h:JQ ns):ns.sum=((stC ns).length:Int):=by
 unfold stC;rw[Qdw];refine(QfU ns _ λc hc=>?_).symm;have hm:=getD_mem hc;have b:=h.bd _ hm;have l:=Qfd h.nf _ hm;exact QpH _ b.1 (sH ns) (by unfold sH;omega)
def dn1(n:Int):Int:=if n - 1 > 0 then n - 1 else 0
theorem Qta{a b:Int}(h:a<=b):dn1 a<=dn1 b:=by unfold dn1;split<;>split<;>omega
theorem Qpm:∀{ns:List Int},nfI ns=true->nfI (ns.map dn1)=true
 |[],_=>rfl
 |[_],_=>rfl
 |a::b::r,h=>by
  have h:=Q3.mp (show(decide (a<=b)&&nfI (b::r))=true from h);show(decide (dn1 a<=dn1 b)&&nfI ((b::r).map dn1))=true;rw[decide_eq_true (Qta (of_decide_eq_true h.1)),Qpm h.2];rfl
theorem Qf0{ns:List Int}(h:JQ ns):JQ (ns.map dn1):=by
 refine⟨by rw[Qe];exact h.l1,by rw[Qe];exact h.l6,λi hi=>?_,Qpm h.nf⟩;obtain⟨n,hn,rfl⟩:=Qo.mp hi;have:=h.bd n hn;unfold dn1;split<;>omega
theorem Qkc:∀{ns:List Int},(∀i∈ns,0<=i)->0<=ns.sum
 |[],_=>Zm _
 |x::ns,h=>by
  have:=Qkc (ns:=ns) λi hi=>h i (.tail _ hi)
  have:=h x (.head _);rw[Jd];omega
theorem Qo5:∀{ns:List Int},(∀i∈ns,0<=i)->(ns.map dn1).sum<=ns.sum/\(0<ns.sum->(ns.map dn1).sum<ns.sum)
 |[],_=>⟨Zm _,λh=>absurd h (by decide)⟩
 |x::ns,h=>by
  obtain⟨a,b⟩:=Qo5 (ns:=ns) λi hi=>h i (.tail _ hi)
  have h0:=h x (.head _);rw[Jl,Jd,Jd];have hx:dn1 x<=x/\(0<x->dn1 x<x):=by unfold dn1;split<;>omega
  refine⟨by omega,λhp=>?_⟩;by_cases z:0<x
  ·have:=hx.2 z;omega
  ·have:=b (by omega);omega
theorem Qa1{ns:List Int}(h:JQ ns):GB (sH ns) ns.length (stC ns):=by
 have a:=Qrw h;have b:=h.l6;refine⟨⟨a.2,b,λp hp=>Qb5 hp⟩,Qf8 ns.length (stF ns) (sH ns),Q1 (QhS (λr=>QgW ns.length (sH ns) (stF ns) r) (sH ns)) ?_⟩;have c:(ns.length+1)^sH ns<=7^sH ns:=Nat.pow_le_pow_left (by omega) _;have d:7^sH ns<=7^6:=Nat.pow_le_pow_right (by decide) a.2;have e:(7:Nat)^6=117649:=rfl;omega
def wt(cs L:List (Int×Int)):Nat:=(cs.filter (Qeu L)).length
def wtR(cs:List (Int×Int))(Ls:List (List (Int×Int))):List PyData:=QjK cs.length (λk=>((Ls.countP λL=>wt cs L == k:Nat):Int))
theorem QjW(cs L:List (Int×Int)):wt cs L<=cs.length:=Y1 _ _
theorem Qt0{cs L:List (Int×Int)}{Ls:List (List (Int×Int))}{j:Nat}(e:Ls[j]? = some L):(wtR cs (Ls.take j)).set (wt cs L) (.int ((((Ls.take j).countP λM=>wt cs M == wt cs L:Nat):Int)+1))=wtR cs (Ls.take (j+1)):=by
 unfold wtR;rw[Qnk (QjW cs L)];refine Qi3 λk _=>?_
 rw[JR,e,Qc4];show _=(((Ls.take j).countP (λM=>wt cs M == k)+[L].countP (λM=>wt cs M == k):Nat):Int);by_cases z:k=wt cs L
 ·subst z;rw[if_pos rfl,QhH (by simp)];show _=((_+1:Nat):Int);omega
 ·rw[if_neg z,ZU (by simpa using λe=>z e.symm)];rfl
theorem Qp9(cs:List (Int×Int)){n:Int}(hn:n=cs.length):(QJ ((n+1).toNat) [Qb 0]).flatten=wtR cs []:=by
 rw[Qrz,show(n+1).toNat=cs.length+1 by omega];unfold wtR QjK;rw[show(λ(k:Nat)=>Qb ((([]:List (List (Int×Int))).countP λL=>wt cs L == k:Nat):Int))=λ_=>.int 0 from rfl,QtD,QD]
theorem Qt1{cs:List (Int×Int)}{Ls:List (List (Int×Int))}(L:List (Int×Int)):(wtR cs Ls)[wt cs L]? = some (.int ((Ls.countP λM=>wt cs M == wt cs L:Nat):Int)):=Qe3 (QjW cs L)
theorem Qrc(cs:List (Int×Int))(Ls:List (List (Int×Int))):(wtR cs Ls).length=cs.length+1:=Qda _ _
def Qg0:DF:=λargs R _=>∃ns,args=[.v (tI ns)]/\JQ ns/\R .none
def Quj:DF:=λargs R _=>∃ns,args=[.v (tI ns)]/\JQ ns/\R (sBd ns)
def Qky:DF:=λargs R _=>∃ns,args=[.v (tI ns)]/\JQ ns/\ns.sum<=20/\R .none
def Qnm:DF:=λargs R _=>∃(ns:List Int)(k:Nat),args=[.v (tI ns),.v (.int k)]/\k<=ns.length/\R .none
def wtD:DF:=λargs R _=>∃(h w:Int)(cs L:List (Int×Int)),args=[.v (bdD h w cs),.v (stT L)]/\R (.int (wt cs L))
def QwN:DF:=λargs R _=>∃(ns:List Int)(k:Nat),args=[.v (tI ns),.v (.int k)]/\JQ ns/\ns.sum<=20/\k<=ns.length/\R (.list (wtR (stC ns) (evS (stC ns) k)))
def frR(S:List (Int×Int))(b:Nat):List Nat:=(Qm b).filter λr => !decide ((r:Int)∈S.map (·.1))
def hN(ns:List Int)(j:Nat):Nat:=(ns.getD j 0).toNat
def QpK(ns:List Int):Nat->List (List (Int×Int))
 |0=>[[]]
 |j+1=>(QpK ns j).flatMap λS=>S::(frR S (hN ns j)).map λ(r:Nat)=>S++[((r:Int),(j:Int))]
structure StC (ns:List Int) (j:Nat) (S:List (Int×Int)):Prop where
 bd:∀p∈S,∃r c:Nat,c<j/\r<hN ns c/\p=((r:Int),(c:Int))
 cols:S.Pairwise λp q=>p.2<q.2
 rows:(S.map (·.1)).Nodup
theorem Qls{S:List (Int×Int)}{b r:Nat}:r∈frR S b↔r<b/\(r:Int)∉S.map (·.1):=by
 unfold frR;rw[Jc,Q9,QoY,decide_eq_false_iff_not]
theorem Qah{ns:List Int}:∀{j:Nat}{S:List (Int×Int)},S∈QpK ns j↔StC ns j S
 |0,S=>by
  constructor
  ·intro h;rw[QB.mp h];exact⟨λp hp=>(nomatch hp),.nil,.nil⟩
  ·intro h;cases S with
   |nil=>exact .head _
   |cons p r=>
    obtain⟨_,c,hc,_⟩:=h.bd p (.head _);exact absurd hc (YM _)
 |j+1,S=>by
  show S∈(QpK ns j).flatMap (λS=>S::(frR S (hN ns j)).map λ(r:Nat)=>S++[((r:Int),(j:Int))])↔_;rw[J4];constructor
  ·rintro⟨S0,h0,hS⟩;have st:=Qah.mp h0;rcases Qt.mp hS with rfl | hS
   ·exact⟨λp hp=>by obtain⟨r,c,h1,h2,h3⟩:=st.bd p hp;exact⟨r,c,by omega,h2,h3⟩,st.cols,st.rows⟩
   ·obtain⟨r,hr,rfl⟩:=Qo.mp hS;obtain⟨r1,r2⟩:=Qls.mp hr;refine⟨λp hp=>?_,ZL.mpr ⟨st.cols,by simp,λp hp q hq=>?_⟩,?_⟩
    ·rcases Jn.mp hp with z | z
     ·obtain⟨r,c,h1,h2,h3⟩:=st.bd p z;exact⟨r,c,by omega,h2,h3⟩
     ·exact⟨r,j,by omega,r1,QB.mp z⟩
    ·rw[QB.mp hq];obtain⟨r,c,h1,h2,h3⟩:=st.bd p hp;rw[h3];show(c:Int)<(j:Int);omega
    ·rw[Jk];refine J7.mpr ⟨st.rows,by simp,λa ha b hb e=>?_⟩;have hb:b=(r:Int):=by simpa using hb
     rw[e,hb] at ha;exact r2 ha
  ·intro h;rcases QjC S with rfl | ⟨S0,p,rfl⟩
   ·exact⟨[],Qah.mpr ⟨λp hp=>(nomatch hp),.nil,.nil⟩,.head _⟩
   ·rw[QjF] at h ⊢;obtain⟨r,c,h1,h2,rfl⟩:=h.bd p (by simp);obtain⟨p1,_,p3⟩:=ZL.mp h.cols;have hr:=h.rows;rw[Jk] at hr;obtain⟨q1,_,q3⟩:=J7.mp hr;have lt:∀q∈S0,q.2<(c:Int):=λq hq=>p3 q hq ((r:Int),(c:Int)) (QB.mpr rfl)
    by_cases z:c=j
    ·subst z;refine⟨S0,Qah.mpr ⟨λq hq=>?_,p1,q1⟩,Jr _ (Qo.mpr ⟨r,Qls.mpr ⟨h2,λy=>q3 _ y (r:Int) (by simp) rfl⟩,rfl⟩)⟩;obtain⟨r',c',k1,k2,k3⟩:=h.bd q (Qad _ hq);have:=lt q hq;rw[k3] at this;have this:(c':Int)<(c:Int):=this;exact⟨r',c',by omega,k2,k3⟩
    ·refine⟨S0++[((r:Int),(c:Int))],Qah.mpr ⟨λq hq=>?_,h.cols,h.rows⟩,.head _⟩;obtain⟨r',c',k1,k2,k3⟩:=h.bd q hq;refine⟨r',c',?_,k2,k3⟩;rcases Jn.mp hq with y | y
     ·have:=lt q y;rw[k3] at this;have this:(c':Int)<(c:Int):=this;omega
     ·have:=QB.mp y;rw[k3] at this;have:(c':Int)=(c:Int):=(QaI this).2;omega
theorem QpG(ns:List Int):∀j,(QpK ns j).Nodup
 |0=>by simp[QpK]
 |j+1=>by
  have key:∀L:List (List (Int×Int)),L.Nodup->(∀S∈L,StC ns j S)->(L.flatMap λS=>S::(frR S (hN ns j)).map λ(r:Nat)=>S++[((r:Int),(j:Int))]).Nodup:=λL=>by
   induction L with
   |nil=>intro _ _;exact QtV
   |cons S L ih=>
    intro nd hs;obtain⟨n1,n2⟩:=Zv.mp nd;have st:=hs S (.head _);have nj:∀T,StC ns j T->∀(U:List (Int×Int))(r:Nat),T≠U++[((r:Int),(j:Int))]:=λT ht U r e=>by
     obtain⟨_,c,hc,_,e2⟩:=ht.bd ((r:Int),(j:Int)) (by rw[e];simp);have:(j:Int)=(c:Int):=(QaI e2).2;omega
    rw[ZO];refine J7.mpr ⟨Zv.mpr ⟨λz=>?_,?_⟩,ih n2 λT hT=>hs T (.tail _ hT),λa ha b hb e=>?_⟩
    ·obtain⟨r,_,e⟩:=Qo.mp z;exact nj S st S r e.symm
    ·exact Jy.mpr ((Yy.filter _).imp λ{a b} hne e=>hne (by
      have:=QiK e rfl;have:=(QaI (QmR this).1).1;omega))
    ·obtain⟨T,hT,hb⟩:=J4.mp hb;have sT:=hs T (.tail _ hT);rw[e] at ha;rcases Qt.mp ha with za | za
     ·rcases Qt.mp hb with zb | zb
      ·rw[<- za,zb] at n1;exact n1 hT
      ·obtain⟨r,_,e2⟩:=Qo.mp zb;exact nj S st T r (by rw[<- za,e2])
     ·obtain⟨r,_,e1⟩:=Qo.mp za;rcases Qt.mp hb with zb | zb
      ·exact nj T sT S r (by rw[<- zb,e1])
      ·obtain⟨r2,_,e2⟩:=Qo.mp zb;have:=QjG (e1.trans e2.symm) rfl;rw[this] at n1;exact n1 hT
  exact key _ (QpG ns j) λS hS=>Qah.mp hS
def gsN(B:Int):Nat->Int
 |0=>0
 |n+1=>gsN B n+B^n
theorem QlL(B:Int)(c:Nat):∀a,gsN B (a+c)=B^c*gsN B a+gsN B c
 |0=>by rw[Nat.zero_add];show _=B^c*0+_;omega
 |a+1=>by
  rw[show a+1+c=(a+c)+1 by omega];show gsN B (a+c)+B^(a+c)=B^c*(gsN B a+B^a)+gsN B c;rw[QlL B c a,Qbr,QfO,JU (B^a)];omega
theorem QbW{α:Type}[DecidableEq α]:∀{P Q:List α},P.Nodup->(∀p∈P,p∈Q)->P.length<=Q.length
 |[],_,_,_=>Jm _
 |p::P,Q,nd,h=>by
  obtain⟨n1,n2⟩:=Zv.mp nd;have hp:=h p (.head _);have ih:=QbW (P:=P) (Q:=Q.erase p) n2 λx hx=>(List.mem_erase_of_ne (λe=>n1 (by rw[<- e];exact hx))).mpr (h x (.tail _ hx))
  have e:=List.length_erase_of_mem hp;have:=QiJ hp;rw[QM];omega
theorem QoE(r w:Nat)(f:Nat->Nat->Bool)(p:Int×Int->Bool):(Qdq r w f).filter p=Qdq r w λr c=>f r c&&p ((r:Int),(c:Int)):=by
 unfold Qdq;rw[List.filter_map,ZB]
 congr 1
 refine ZP λc _=>?_
 show(p ((r:Int),(c:Int))&&f r c)=_;rw[Qbb]
theorem Qex(w:Nat)(f:Nat->Nat->Bool)(p:Int×Int->Bool):∀h,(ZF h w f).filter p=ZF h w λr c=>f r c&&p ((r:Int),(c:Int))
 |0=>rfl
 |h+1=>by rw[Yn,Yn,Qc2,Qex w f p h,QoE]
theorem Ql8(q:Nat->Bool)(m:Nat):∀d,(Qm (m+d)).countP (λr=>decide (r<m)&&q r)=(Qm m).countP q
 |0=>by
  rw[Nat.add_zero];exact YU λr hr=>by rw[decide_eq_true (Q9.mp hr),YL]
 |d+1=>by
  rw[show m+(d+1)=(m+d)+1 by omega,Yb,Qc4,Ql8 q m d];have:[m+d].countP (λr=>decide (r<m)&&q r)=0:=by
   rw[ZU (by rw[decide_eq_false (by omega),QaD];exact Qu)];rfl
  omega
def lfC(ns:List Int)(S:List (Int×Int))(c:Nat):Nat:=(Qm (hN ns c)).countP λ(r:Nat)=>Qeu S ((r:Int),(c:Int))
def wtJ(ns:List Int)(S:List (Int×Int)):Nat->Nat
 |0=>0
 |j+1=>wtJ ns S j+lfC ns S j
theorem Qkb(ns:List Int)(S:List (Int×Int)):∀j,((Qm j).map λc=>lfC ns S c).sum=wtJ ns S j
 |0=>rfl
 |j+1=>by
  rw[Yb,Jk,List.sum_append_nat,Qkb ns S j];show _+(lfC ns S j+0)=_;rfl
theorem Qrb{ns:List Int}(hs:JQ ns)(S:List (Int×Int)):wt (stC ns) S=wtJ ns S ns.length:=by
 unfold wt stC;rw[Qex,Qdw,<- Qkb]
 congr 1
 refine QQ λc hc=>?_
 have hm:=getD_mem (Q9.mp hc);have b:=hs.bd _ hm;have l:=Qfd hs.nf _ hm;have hle:hN ns c<=sH ns:=by unfold hN sH;omega
 obtain⟨d,hd⟩:∃d,sH ns=hN ns c+d:=⟨sH ns - hN ns c,by omega⟩
 unfold lfC;rw[hd,<- Ql8 (λ(r:Nat)=>Qeu S ((r:Int),(c:Int))) (hN ns c) d];refine YU λr _=>?_
 have e:stF ns r c=decide (r<hN ns c):=by
  unfold stF hN;exact decide_eq_decide.mpr (by omega)
 rw[e]
section
variable{ns:List Int}{j:Nat}{S:List (Int×Int)}
theorem Qvx(r r':Nat){c:Nat}(hc:c<j):Qeu (S++[((r:Int),(j:Int))]) ((r':Int),(c:Int))=Qeu S ((r':Int),(c:Int)):=by
 unfold Qeu;rw[QtE];have:([((r:Int),(j:Int))].any λq=>(decide (q.2=(c:Int))&&decide (q.1≥(r':Int)))||(decide (q.1=(r':Int))&&decide (q.2<(c:Int))))=false:=by
  show(((decide ((j:Int)=(c:Int))&&decide ((r:Int)≥(r':Int)))||(decide ((r:Int)=(r':Int))&&decide ((j:Int)<(c:Int))))||false)=false;rw[decide_eq_false (show ¬(j:Int)=(c:Int) by omega),decide_eq_false (show ¬(j:Int)<(c:Int) by omega),QaD,QtY];rfl
 rw[this,QhI]
theorem any_rows(st:StC ns j S)(r':Nat):(S.any λq=>(decide (q.2=(j:Int))&&decide (q.1≥(r':Int)))||(decide (q.1=(r':Int))&&decide (q.2<(j:Int))))=decide ((r':Int)∈S.map (·.1)):=by
 rw[Zd,Zj,decide_eq_true_eq,Qo];constructor
 ·rintro⟨q,hq,h⟩;obtain⟨r,c,h1,h2,h3⟩:=st.bd q hq;refine⟨q,hq,?_⟩;rw[h3] at h ⊢;have h:((decide ((c:Int)=(j:Int))&&decide ((r:Int)≥(r':Int)))||(decide ((r:Int)=(r':Int))&&decide ((c:Int)<(j:Int))))=true:=h;rw[decide_eq_false (show ¬(c:Int)=(j:Int) by omega),QaD,QhJ] at h;exact of_decide_eq_true (Q3.mp h).1
 ·rintro⟨q,hq,e⟩;obtain⟨r,c,h1,h2,h3⟩:=st.bd q hq;refine⟨q,hq,?_⟩;rw[e,show q.2=(c:Int) by rw[h3],decide_eq_true rfl,decide_eq_true (show(c:Int)<(j:Int) by omega),YL,Bool.or_true]
theorem Qvy(st:StC ns j S)(r':Nat):Qeu S ((r':Int),(j:Int)) = !decide ((r':Int)∈S.map (·.1)):=by
 unfold Qeu;exact congrArg _ (any_rows st r')
theorem QsQ(st:StC ns j S)(r r':Nat):Qeu (S++[((r:Int),(j:Int))]) ((r':Int),(j:Int))=(!decide ((r':Int)∈S.map (·.1))&&decide (r<r')):=by
 unfold Qeu;rw[QtE];have e:([((r:Int),(j:Int))].any λq=>(decide (q.2=(j:Int))&&decide (q.1≥(r':Int)))||(decide (q.1=(r':Int))&&decide (q.2<(j:Int)))) = !decide (r<r'):=by
  show(((decide ((j:Int)=(j:Int))&&decide ((r:Int)≥(r':Int)))||(decide ((r:Int)=(r':Int))&&decide ((j:Int)<(j:Int))))||false)=_;rw[decide_eq_true rfl,decide_eq_false (show ¬(j:Int)<(j:Int) by omega),YL,QtY,QhI,QhI];by_cases z:r<r'
  ·rw[decide_eq_true z,decide_eq_false (by omega)];rfl
  ·rw[decide_eq_false z,decide_eq_true (by omega)];rfl
 have a:=any_rows st r';rw[show(S.any λq=>(decide (q.2=((r':Int),(j:Int)).2)&&decide (q.1≥((r':Int),(j:Int)).1))||(decide (q.1=((r':Int),(j:Int)).1)&&decide (q.2<((r':Int),(j:Int)).2)))=decide ((r':Int)∈S.map (·.1)) from a];rw[show([((r:Int),(j:Int))].any λq=>(decide (q.2=((r':Int),(j:Int)).2)&&decide (q.1≥((r':Int),(j:Int)).1))||(decide (q.1=((r':Int),(j:Int)).1)&&decide (q.2<((r':Int),(j:Int)).2))) = !decide (r<r') from e];rw[Bool.not_or,Bool.not_not]
theorem QjV(r:Nat):∀i,i<=j->wtJ ns (S++[((r:Int),(j:Int))]) i=wtJ ns S i
 |0,_=>rfl
 |i+1,hi=>by
  show wtJ ns _ i+lfC ns _ i=wtJ ns S i+lfC ns S i;rw[QjV r i (by omega)]
  congr 1
  unfold lfC;exact YU λr' _=>by rw[Qvx r r' (show i<j by omega)]
theorem QsR(st:StC ns j S):lfC ns S j=(frR S (hN ns j)).length:=by
 unfold lfC frR;rw[Zt]
 congr 1
 exact ZP λr' _=>Qvy st r'
theorem Qot(st:StC ns j S)(r:Nat):lfC ns (S++[((r:Int),(j:Int))]) j=(frR S (hN ns j)).countP λr'=>decide (r<r'):=by
 unfold lfC frR;rw[List.countP_filter];exact YU λr' _=>by rw[QsQ st r r',Qbb]
theorem Qrl(st:StC ns j S){b:Nat}(hb:∀c,c<j->hN ns c<=b):∀x∈S.map (·.1),∃r:Nat,r<b/\x=(r:Int):=λx hx=>by
 obtain⟨p,hp,rfl⟩:=Qo.mp hx;obtain⟨r,c,h1,h2,rfl⟩:=st.bd p hp;exact⟨r,by have:=hb c h1;omega,rfl⟩
theorem Qpv(st:StC ns j S){b:Nat}(hb:∀c,c<j->hN ns c<=b):(frR S b).length+S.length=b:=by
 have hr:=Qrl st hb;have nr:((Qm b).map λ(r:Nat)=>(r:Int)).Nodup:=Jy.mpr (Yy.imp λ{a b} h e=>h (by omega));have nf:(((Qm b).filter λ(r:Nat)=>decide ((r:Int)∈S.map (·.1))).map λ(r:Nat)=>(r:Int)).Nodup:=Jy.mpr ((Yy.filter _).imp λ{a b} h e=>h (by omega));have l1:=QbW st.rows (Q:=((Qm b).filter λ(r:Nat)=>decide ((r:Int)∈S.map (·.1))).map λ(r:Nat)=>(r:Int)) λx hx=>by
  obtain⟨r,h1,rfl⟩:=hr x hx;exact Qo.mpr ⟨r,Jc.mpr ⟨Q9.mpr h1,decide_eq_true hx⟩,rfl⟩
 have l2:=QbW nf (Q:=S.map (·.1)) λx hx=>by
  obtain⟨r,h1,rfl⟩:=Qo.mp hx;exact of_decide_eq_true (Jc.mp h1).2
 rw[Qe,Qe] at l1 l2;have l3:((Qm b).filter λ(r:Nat)=>decide ((r:Int)∈S.map (·.1))).length+(frR S b).length=b:=by
  unfold frR;rw[<- Zt,<- Zt];have:=List.length_eq_countP_add_countP (λ(r:Nat)=>decide ((r:Int)∈S.map (·.1))) (l:=Qm b);rw[QD] at this;have e:(Qm b).countP (λ(r:Nat) => !decide ((r:Int)∈S.map (·.1)))=(Qm b).countP (λ(a:Nat)=>decide ¬(decide ((a:Int)∈S.map (·.1)))=true):=YU λr _=>by simp
  rw[e];omega
 omega
theorem Qo7(st:StC ns j S):S.length<=j:=by
 have nc:(S.map (·.2)).Nodup:=Jy.mpr (st.cols.imp λ{a b} h e=>by omega);have:=QbW nc (Q:=(Qm j).map λ(c:Nat)=>(c:Int)) λx hx=>by
  obtain⟨p,hp,rfl⟩:=Qo.mp hx;obtain⟨r,c,h1,h2,rfl⟩:=st.bd p hp;exact Qo.mpr ⟨c,Q9.mpr h1,rfl⟩
 rw[Qe,Qe,QD] at this;exact this
end
theorem Qyb(S:List (Int×Int))(b:Nat):(frR S b).Pairwise (· < ·):=by
 unfold frR;exact Qw7 List.filter_sublist QiI
theorem geo(B:Int):∀F:List Nat,F.Pairwise (· < ·)->(F.map λr=>B^(F.countP λr'=>decide (r<r'))).sum=gsN B F.length
 |[],_=>rfl
 |x::F,h=>by
  obtain⟨h1,h2⟩:=Qaw.mp h;rw[Jl,Jd];have e1:(x::F).countP (λr'=>decide (x<r'))=F.length:=by
   rw[ZU (by simp),QjE];exact λa ha=>decide_eq_true (h1 a ha)
  have e2:(F.map λr=>B^((x::F).countP λr'=>decide (r<r')))=F.map λr=>B^(F.countP λr'=>decide (r<r')):=QQ λr hr=>by
   rw[ZU (by have:=h1 r hr;simpa using by omega)]
  rw[e1,e2,geo B F h2,QM];show _=gsN B F.length+B^F.length;omega
theorem Qkd{α β:Type}(g:α->List β)(f:β->Int):∀L:List α,((L.flatMap g).map f).sum=(L.map λx=>((g x).map f).sum).sum
 |[]=>rfl
 |x::L=>by rw[ZO,Jk,QmB,Qkd g f L,Jl,Jd]
theorem Qc6{α:Type}(a:Int)(f:α->Int):∀L:List α,(L.map λx=>a*f x).sum=a*(L.map f).sum
 |[]=>by show(0:Int)=a*0;omega
 |x::L=>by rw[Jl,Jd,Qc6 a f L,Jl,Jd,Qbr]
def Zs(B:Int)(ns:List Int)(j:Nat)(φ:Nat->Int):Int:=((QpK ns j).map λS=>B^wtJ ns S j*φ S.length).sum
theorem Qwj(B:Int){ns:List Int}{j:Nat}(hb:∀c,c<j->hN ns c<=hN ns j)(φ:Nat->Int):Zs B ns (j+1) φ=Zs B ns j λm=>B^(hN ns j - m)*φ m+gsN B (hN ns j - m)*φ (m+1):=by
 unfold Zs;show(((QpK ns j).flatMap λS=>S::(frR S (hN ns j)).map λ(r:Nat)=>S++[((r:Int),(j:Int))]).map λS=>B^wtJ ns S (j+1)*φ S.length).sum=_;rw[Qkd]
 congr 1
 refine QQ λS hS=>?_
 have st:=Qah.mp hS;have fl:=Qpv st hb;rw[Jl,Jd,QY];have e1:wtJ ns S (j+1)=wtJ ns S j+(hN ns j - S.length):=by
  show wtJ ns S j+lfC ns S j=_;rw[QsR st];omega
 have e2:((frR S (hN ns j)).map ((λS=>B^wtJ ns S (j+1)*φ S.length)∘λ(r:Nat)=>S++[((r:Int),(j:Int))])).sum=B^wtJ ns S j*φ (S.length+1)*gsN B (hN ns j - S.length):=by
  have e3:((frR S (hN ns j)).map ((λS=>B^wtJ ns S (j+1)*φ S.length)∘λ(r:Nat)=>S++[((r:Int),(j:Int))]))=(frR S (hN ns j)).map λr=>(B^wtJ ns S j*φ (S.length+1))*B^((frR S (hN ns j)).countP λr'=>decide (r<r')):=QQ λr _=>by
   show B^(wtJ ns (S++[((r:Int),(j:Int))]) j+lfC ns (S++[((r:Int),(j:Int))]) j)*φ (S++[((r:Int),(j:Int))]).length=_;rw[QjV r j (Qi _),Qot st r,Qx,QfO];show B^wtJ ns S j*_*φ (S.length+1)=_;rw[JC,JC,JU (φ (S.length+1))]
  rw[e3,Qc6,geo B _ (Qyb _ _),show(frR S (hN ns j)).length=hN ns j - S.length by omega]
 rw[e1,e2,QfO,Qbr,JC,JC,JU (φ (S.length+1))]
def Qbs(B:Int)(x:Nat):Nat->Int
 |0=>1
 |t+1=>Qbs B x t*gsN B (x - t)
theorem Qgm(B:Int)(x:Nat):∀d,x<d->Qbs B x d=0
 |d+1,h=>by
  show Qbs B x d*gsN B (x - d)=0;by_cases z:x<d
  ·rw[Qgm B x d z,ZV]
  ·rw[show x - d=0 by omega];exact JT _
def gsI(B:Int)(n:Int):Int:=gsN B n.toNat
def prZ(B:Int)(ns:List Int)(x:Nat):Nat->Int
 |0=>1
 |j+1=>prZ B ns x j*gsI B ((x:Int)+(hN ns j:Int) - (j:Int))
theorem QpQ(B:Int){ns:List Int}(x:Nat):∀j,(∀c d,c<=d->d<j->hN ns c<=hN ns d)->Zs B ns j (λm=>Qbs B x (j - m))=prZ B ns x j
 |0,_=>by
  show(B^0*Qbs B x (0 - 0))+0=1;rw[Qd4];rfl
 |j+1,hm=>by
  rw[Qwj B (λc hc=>hm c j (by omega) (by omega))];show _=prZ B ns x j*gsI B ((x:Int)+(hN ns j:Int) - (j:Int));rw[<- QpQ B x j λc d h1 h2=>hm c d h1 (by omega),JU];unfold Zs;rw[<- Qc6]
  congr 1
  refine QQ λS hS=>?_
  have st:=Qah.mp hS;have fl:=Qpv st (b:=hN ns j) (λc hc=>hm c j (by omega) (by omega));have sl:=Qo7 st;have e:B^(hN ns j - S.length)*Qbs B x (j+1 - S.length)+gsN B (hN ns j - S.length)*Qbs B x (j+1 - (S.length+1))=gsI B ((x:Int)+(hN ns j:Int) - (j:Int))*Qbs B x (j - S.length):=by
   rw[show j+1 - (S.length+1)=j - S.length by omega,show j+1 - S.length=(j - S.length)+1 by omega];show B^(hN ns j - S.length)*(Qbs B x (j - S.length)*gsN B (x - (j - S.length)))+_=_;by_cases z:x<j - S.length
   ·rw[Qgm B x _ z,ZV,JT,JT,JT,Zf]
   ·have g:=QlL B (hN ns j - S.length) (x - (j - S.length));unfold gsI;rw[show((x:Int)+(hN ns j:Int) - (j:Int)).toNat=x - (j - S.length)+(hN ns j - S.length) by omega,g,QmS,JU (Qbs B x (j - S.length)) (gsN B (x - (j - S.length))),JC]
  dsimp only
  rw[e,<- JC,<- JC,JU (B^wtJ ns S j)]
def QtK(k:Int×Int->Int)(p:Int×Int):List (Int×Int)->List (Int×Int)
 |[]=>[p]
 |q::r=>if k p<=k q then p::q::r else q::QtK k p r
def QiS(k:Int×Int->Int):List (Int×Int)->List (Int×Int)
 |[]=>[]
 |p::r=>QtK k p (QiS k r)
theorem QdA(k:Int×Int->Int)(p:Int×Int):∀l:List (Int×Int),(QtK k p l).Perm (p::l)
 |[]=>.refl _
 |q::r=>by
  unfold QtK;split
  ·exact .refl _
  ·exact((QdA k p r).cons q).trans (.swap _ _ _)
theorem Yf(k:Int×Int->Int):∀l:List (Int×Int),(QiS k l).Perm l
 |[]=>.nil
 |p::r=>(QdA k p _).trans ((Yf k r).cons p)
theorem QlG(k:Int×Int->Int)(p:Int×Int):∀l:List (Int×Int),l.Pairwise (λa b=>k a<=k b)->(QtK k p l).Pairwise λa b=>k a<=k b
 |[],_=>Qa8 _ _
 |q::r,h=>by
  obtain⟨h1,h2⟩:=Qaw.mp h;unfold QtK;split
  ·rename_i z
   exact .cons (λy hy=>(Qt.mp hy).elim (λe=>e ▸ z) λhy=>Y4 z (h1 y hy)) h
  ·rename_i z
   refine .cons (λy hy=>?_) (QlG k p r h2);rcases Qt.mp ((QdA k p r).mem_iff.mp hy) with e | e
   ·rw[e];omega
   ·exact h1 y e
theorem Qkj(k:Int×Int->Int):∀l:List (Int×Int),(QiS k l).Pairwise λa b=>k a<=k b
 |[]=>.nil
 |p::r=>QlG k p _ (Qkj k r)
theorem QgV(k:Int×Int->Int){l:List (Int×Int)}(nd:(l.map k).Nodup):(QiS k l).Pairwise λa b=>k a<k b:=by
 have n2:((QiS k l).map k).Nodup:=((Yf k l).map k).nodup_iff.mpr nd;exact(Jy.mp n2).imp₂ (λa b h1 h2=>by omega) (Qkj k l)
theorem QhU(k:Int×Int->Int){a b:List (Int×Int)}(p:a.Perm b)(h1:a.Pairwise λx y=>k x<k y)(h2:b.Pairwise λx y=>k x<k y):a=b:=
 Qd3 (le:=λx y=>k x<k y) (λx y _ _ h1 h2=>by omega) h1 h2 p
theorem Qki{ns:List Int}(hs:JQ ns){p:Int×Int}:p∈stC ns↔∃r c:Nat,c<ns.length/\r<hN ns c/\p=((r:Int),(c:Int)):=by
 unfold stC;rw[Qbg];constructor
 ·rintro⟨r,c,h1,h2,h3,rfl⟩;refine⟨r,c,h2,?_,rfl⟩;have:=of_decide_eq_true (show decide ((r:Int)<ns.getD c 0)=true from h3);unfold hN;omega
 ·rintro⟨r,c,h2,h3,rfl⟩;have hm:=getD_mem h2;have b:=hs.bd _ hm;have l:=Qfd hs.nf _ hm;refine⟨r,c,?_,h2,?_,rfl⟩
  ·unfold hN at h3;unfold sH;omega
  ·show decide ((r:Int)<ns.getD c 0)=true;unfold hN at h3;exact decide_eq_true (by omega)
theorem Qkg{ns L:List _}(hs:JQ ns)(h:Std (stC ns) L):StC ns ns.length (QiS (·.2) L):=by
 have pm:=Yf (·.2) L;refine⟨λp hp=>?_,QgV _ h.cols,(pm.map _).nodup_iff.mpr (Jy.mpr (h.rows.imp λ{a b} h e=>by omega))⟩;exact(Qki hs).mp (h.sub p (pm.mem_iff.mp hp))
theorem Qtk{ns S:List _}(hs:JQ ns)(h:StC ns ns.length S):Std (stC ns) (QiS (·.1) S)/\QiS (·.2) (QiS (·.1) S)=S:=by
 have pm:=Yf (·.1) S;have nc:(S.map (·.2)).Nodup:=Jy.mpr (h.cols.imp λ{a b} h e=>by omega);have st:Std (stC ns) (QiS (·.1) S):=⟨λp hp=>(Qki hs).mpr (h.bd p (pm.mem_iff.mp hp)),QgV _ h.rows,(pm.map _).nodup_iff.mpr nc⟩;exact⟨st,QhU (·.2) ((Yf _ _).trans pm) (QgV _ st.cols) h.cols⟩
def QtN(ns:List Int):List (List (Int×Int)):=(Qm (ns.length+1)).flatMap λk=>evS (stC ns) k
theorem Qi4(ns:List Int):∀p∈stC ns,0<=p.1:=λp hp=>by
 obtain⟨r,c,_,_,_,rfl⟩:=Qbg.mp hp;show(0:Int)<=(r:Int);omega
theorem Qfg{ns L:List _}(hs:JQ ns):L∈QtN ns↔Std (stC ns) L:=by
 unfold QtN;rw[J4];constructor
 ·rintro⟨k,_,h⟩;exact((Qas (Qi4 ns) k L).mp h).1
 ·intro h;refine⟨L.length,?_,(Qas (Qi4 ns) _ L).mpr ⟨h,rfl⟩⟩;have:=Qo7 (Qkg hs h);rw[(Yf _ L).length_eq] at this;exact Q9.mpr (by omega)
theorem Qwg{ns:List Int}(hp:(stC ns).Pairwise plt):(QtN ns).Nodup:=by
 have key:∀L:List Nat,L.Nodup->(L.flatMap λk=>evS (stC ns) k).Nodup:=λL=>by
  induction L with
  |nil=>intro _;exact QtV
  |cons k L ih=>
   intro nd;obtain⟨n1,n2⟩:=Zv.mp nd;rw[ZO];refine J7.mpr ⟨(QdE hp (Qi4 ns) k).imp λ{a b} h e=>?_,ih n2,λa ha b hb e=>?_⟩
   ·rw[e] at h;have:=(Qlt b b).mpr h;exact absurd h (λz=>Qhg _ z)
   ·obtain⟨m,hm,hb⟩:=J4.mp hb;have e1:=((Qas (Qi4 ns) k a).mp ha).2;have e2:=((Qas (Qi4 ns) m b).mp hb).2;rw[e,e2] at e1;rw[e1] at hm;exact n1 hm
 exact key _ Yy
theorem QoO{ns:List Int}(hs:JQ ns)(hp:(stC ns).Pairwise plt):((QtN ns).map (QiS (·.2))).Perm (QpK ns ns.length):=by
 refine(QfN ?_ (QpG ns _)).mpr λS=>?_
 ·refine Jy.mpr (Qc5 (λ{a b} ha hb hn e=>hn ?_) (Qwg hp));have sa:=(Qfg hs).mp ha;have sb:=(Qfg hs).mp hb;have pab:a.Perm b:=(Yf (·.2) a).symm.trans (by rw[e];exact Yf (·.2) b);exact QhU (·.1) pab sa.rows sb.rows
 ·rw[Qah,Qo];constructor
  ·rintro⟨L,hL,rfl⟩;exact Qkg hs ((Qfg hs).mp hL)
  ·intro h;obtain⟨h1,h2⟩:=Qtk hs h;exact⟨_,(Qfg hs).mpr h1,h2⟩
theorem Qra{cs L M:List (Int×Int)}(p:L.Perm M):wt cs L=wt cs M:=by
 unfold wt
 congr 1
 refine ZP λq _=>?_
 unfold Qeu
 congr 1
 rw[Zd,Zj,Zj];exact⟨λ⟨x,h1,h2⟩=>⟨x,p.mem_iff.mp h1,h2⟩,λ⟨x,h1,h2⟩=>⟨x,p.mem_iff.mpr h1,h2⟩⟩
def evW(B:Int)(cs:List (Int×Int))(k:Nat):Int:=((evS cs k).map λL=>B^wt cs L).sum
theorem QbZ:∀{a b:List Int},a.Perm b->a.sum=b.sum
 |_,_,.nil=>rfl
 |_,_,.cons x p=>by rw[Jd,Jd,QbZ p]
 |_,_,.swap x y l=>by rw[Jd,Jd,Jd,Jd];omega
 |_,_,.trans p q=>(QbZ p).trans (QbZ q)
theorem QzG(B:Int){ns:List Int}(hs:JQ ns)(hp:(stC ns).Pairwise plt)(φ:Nat->Int):((Qm (ns.length+1)).map λk=>φ k*evW B (stC ns) k).sum=Zs B ns ns.length φ:=by
 have e1:((QtN ns).map λL=>B^wt (stC ns) L*φ L.length).sum=((Qm (ns.length+1)).map λk=>φ k*evW B (stC ns) k).sum:=by
  unfold QtN;rw[Qkd]
  congr 1
  refine QQ λk _=>?_
  unfold evW;rw[<- Qc6]
  congr 1
  refine QQ λL hL=>?_
  rw[((Qas (Qi4 ns) k L).mp hL).2,JU]
 rw[<- e1];unfold Zs;rw[<- QbZ ((QoO hs hp).map λS=>B^wtJ ns S ns.length*φ S.length),QY]
 congr 1
 refine QQ λL _=>?_
 show _=B^wtJ ns (QiS (·.2) L) ns.length*φ (QiS (·.2) L).length;rw[<- Qrb hs,Qra (Yf (·.2) L),(Yf (·.2) L).length_eq]
theorem Qhe:∀{ns:List Int}{c:Nat},nfI ns=true->c+1<ns.length->ns.getD c 0<=ns.getD (c+1) 0
 |[],_,_,hl=>absurd hl (YM _)
 |[_],c,_,hl=>absurd hl (by show ¬c+1<1;omega)
 |a::b::r,0,h,_=>of_decide_eq_true (Q3.mp (show(decide (a<=b)&&nfI (b::r))=true from h)).1
 |a::b::r,c+1,h,hl=>Qhe (ns:=b::r) (c:=c) (Qlf h) (by have:c+1+1<(b::r).length+1:=hl;omega)
theorem Qlg{ns:List Int}(h:nfI ns=true){c:Nat}:∀{d:Nat},c<=d->d<ns.length->ns.getD c 0<=ns.getD d 0
 |0,h1,_=>by rw[show c=0 by omega];exact Zm _
 |d+1,h1,h2=>by
  by_cases z:c=d+1
  ·rw[z];exact Zm _
  ·exact Y4 (Qlg h (d:=d) (by omega) (by omega)) (Qhe h h2)
theorem Qux(B:Int){ns:List Int}(hs:JQ ns)(hp:(stC ns).Pairwise plt)(x:Nat):((Qm (ns.length+1)).map λk=>Qbs B x (ns.length - k)*evW B (stC ns) k).sum=prZ B ns x ns.length:=by
 rw[QzG B hs hp];exact QpQ B x _ λc d h1 h2=>by
  have:=Qlg hs.nf h1 h2;unfold hN;omega
end Rk
namespace L2
section
variable{κ:Type}[DecidableEq κ]
end
section
variable{P:QN}{w:Jj}{H:Hp}{h:J8}{a:Addr}
end
section
variable{X:Cx}{pins:List (Addr×Obj)}{σ:St}{H:Hp}{s:Shared}{a:Addr}{y v:V}{u r:Value}{o:Option V}{A:Jh}{E:Value->Shared->Prop}
end
section
variable{X:Cx}{pins:List (Addr×Obj)}{σ:St}{H:Hp}{s:Shared}{a:Addr}{kvs:List (Key×V)}{k:Key}{u:Value}{A:Jh}{E:Value->Shared->Prop}
end
section
variable{X:Cx}{o i e value:QV}{pos pos' tpos:Pos}{td ty tv:TE}
end
section
variable{X:Cx}{pos:Pos}
end
section
variable{X:Cx}{pins:List (Addr×Obj)}{σ:St}{H:Hp}{s:Shared}{a:Addr}{y d:V}{u r:Value}{o:Option V}{A:Jh}{E:Value->Shared->Prop}
end
section
variable{X:Cx}{o e f:QV}{apos cpos:Pos}{td ty tx:TE}
end
section
variable{X:Cx}{pins:List (Addr×Obj)}{σ:St}{H:Hp}{s:Shared}{a:Addr}{kvs:List (Key×V)}{A:Jh}{E:Value->Shared->Prop}
end
section
variable{X:Cx}{pins:List (Addr×Obj)}{σ:St}{H:Hp}{s:Shared}{a:Addr}{y:V}{u:Value}{A:Jh}{E:Value->Shared->Prop}
end
end L2
namespace Dz
section
variable{prog:QN}{w:Jj}{A:Jh}{E:Value->Shared->Prop}{s:Shared}
end
end Dz
namespace L2
open Dz
section
variable{X:Cx}
end
end L2
namespace Dz
section
variable{prog:QN}{w:Jj}{A:Jh}{E:Value->Shared->Prop}{s:Shared}
end
end Dz
namespace L2
open Dz
section
variable{X:Cx}
end
section
variable{X:Cx}
end
end L2
namespace Rk
end Rk
namespace L2
open _root_.Rd
section
variable{X:Cx}
end
end L2
namespace Dl
open L2 _root_.Rd Rk Rt
section
variable{X:Cx}{E:XK}
end
end Dl
namespace Rk
open L2 _root_.Rd Dl Rt
def wo1(C:List Nat)(c:Nat):List Nat:=C.filter λd => !decide (d=c)
def Pf(f:Nat->Nat->Bool):List Nat->List Nat->Nat->Int
 |[],_,k=>if k=0 then 1 else 0
 |r::R,C,k=>Pf f R C k+(if k=0 then 0 else sumZ (λc=>Pf f R (wo1 C c) (k - 1)) (C.filter (f r)))
theorem Qrd(C:List Nat)(c d:Nat):wo1 (wo1 C c) d=wo1 (wo1 C d) c:=by
 unfold wo1;rw[ZB,ZB];exact ZP λx _=>Qbb _ _
theorem Qlr{C:List Nat}{c d:Nat}:d∈wo1 C c↔d∈C/\d≠c:=by
 unfold wo1;rw[Jc,QoY,decide_eq_false_iff_not]
theorem Qvs{C:List Nat}(h:C.Nodup)(c:Nat):(wo1 C c).Nodup:=J9 _ h
theorem Qxh{C:List Nat}{c:Nat}(h:c∉C):wo1 C c=C:=by
 unfold wo1;rw[Qan];intro d hd;rw[decide_eq_false (λe=>h (by rw[<- e];exact hd))];rfl
theorem Qly:∀{C:List Nat}{c:Nat},C.Nodup->c∈C->(wo1 C c).length+1=C.length
 |d::C,c,nd,hc=>by
  have nd:=Zv.mp nd;by_cases z:d=c
  ·subst z;have e:wo1 (d::C) d=wo1 C d:=by unfold wo1;rw[Qba (by simp)]
   rw[e,Qxh nd.1];rfl
  ·have e:wo1 (d::C) c=d::wo1 C c:=by unfold wo1;rw[Qa9 (by simp[z])]
   have hc:c∈C:=by
    rcases Qt.mp hc with y | y
    ·exact absurd y.symm z
    ·exact y
   rw[e,QM,Qly nd.2 hc];rfl
theorem QfV{α β:Type}(g:α->β->Int):∀(C:List α)(D:List β),sumZ (λc=>sumZ (g c) D) C=sumZ (λd=>sumZ (λc=>g c d) C) D
 |[],D=>(sumZ_zero D).symm
 |c::C,D=>by
  show sumZ (g c) D+sumZ _ C=sumZ (λd=>g c d+sumZ (λc=>g c d) C) D;rw[QfV g C D,Qc7]
theorem QfX{α:Type}(f:α->Int)(x:Int):∀a:List α,sumZ (λy=>x*f y) a=x*sumZ f a
 |[]=>by show(0:Int)=x*0;rw[JT]
 |y::a=>by show x*f y+_=x*(f y+_);rw[QfX f x a,Qbr]
theorem Qke{α:Type}(F:α->Int)(p q:α->Bool)(a:List α):sumZ F ((a.filter p).filter q)=sumZ (λx=>if p x=true then(if q x=true then F x else 0) else 0) a:=by
 rw[Z0 F q,Z0 _ p]
theorem QhA(f:Nat->Nat->Bool):∀(R C:List Nat)(j:Nat),C.Nodup->sumZ (λc=>Pf f R (wo1 C c) j) C=((C.length:Int) - j)*Pf f R C j
 |[],C,j,_=>by
  show sumZ (λ_=>if j=0 then(1:Int) else 0) C=_*(if j=0 then 1 else 0);by_cases z:j=0
  ·subst z;rw[if_pos rfl];have:sumZ (λ_:Nat=>(1:Int)) C=(C.length:Int):=by
    have:=Qci (λ_:Nat=>true) C;simp only[if_true] at this;rw[this,List.countP_true]
   rw[this];omega
  ·rw[if_neg z,sumZ_zero,JT]
 |r::R,C,j,nd=>by
  show sumZ (λc=>Pf f R (wo1 C c) j+(if j=0 then 0 else sumZ (λd=>Pf f R (wo1 (wo1 C c) d) (j - 1)) ((wo1 C c).filter (f r)))) C=_*(Pf f R C j+(if j=0 then 0 else _));rw[Qc7,QhA f R C j nd,Qbr]
  congr 1
  by_cases z:j=0
  ·rw[if_pos z,JT];rw[Zw (g:=λ_=>0) λc _=>if_pos z,sumZ_zero]
  ·rw[if_neg z];rw[Zw (g:=λc=>sumZ (λd=>if(!decide (d=c))=true then(if f r d=true then Pf f R (wo1 (wo1 C c) d) (j - 1) else 0) else 0) C) λc _=>by rw[if_neg z];exact Qke _ _ _ C];rw[QfV,<- QfX,Z0];refine Zw λd hd=>?_
   by_cases y:f r d=true
   ·rw[if_pos y];have e:=QhA f R (wo1 C d) (j - 1) (Qvs nd d);have l:=Qly nd hd;rw[show((wo1 C d).length:Int) - ((j - 1:Nat):Int)=(C.length:Int) - j by omega] at e;rw[<- e];show _=sumZ _ (C.filter λx => !decide (x=d));rw[Z0];refine Zw λc hc=>?_
    by_cases x:c=d
    ·subst x;have n0:¬(!decide (c=c))=true:=by simp
     rw[if_neg n0,if_neg n0]
    ·have n1:(!decide (d=c))=true:=by simp;exact λe=>x e.symm
     have n2:(!decide (c=d))=true:=by simp[x]
     rw[if_pos n1,if_pos y,if_pos n2,Qrd]
   ·rw[if_neg y];refine Qp8 (Zw (g:=λ_=>0) λc _=>?_) (sumZ_zero C);rw[if_neg y];split<;>rfl
def Qf4(h:Nat):Nat->List Nat
 |0=>[]
 |i+1=>(h - 1 - i)::Qf4 h i
def Qfp(w t:Nat):List Nat:=(Qm w).filter λc => !t.testBit c
theorem QoJ(w t c:Nat):Qfp w (t ||| 2^c)=wo1 (Qfp w t) c:=by
 unfold Qfp wo1;rw[ZB];refine ZP λd _=>?_
 rw[Qwu,QmN,Bool.not_or,Qbb]
 congr 1
 rw[show decide (c=d)=decide (d=c) from decide_eq_decide.mpr ⟨λe=>e.symm,λe=>e.symm⟩]
theorem Qjm(w:Nat):Qfp w 0=Qm w:=by
 unfold Qfp;rw[Qan];intro c _;simp
theorem Qpa(w:Nat)(f:Nat->Nat->Bool){r:Nat}:∀h,r<h->QgL (ZF h w f) r=Qdq r w f
 |h+1,hr=>by
  unfold QgL;rw[Yn,Qc2];have no:∀(q:Nat)(L:List (Int×Int)),(∀p∈L,p.1≠(r:Int))->L.filter (λp=>decide (p.1=(r:Int)))=[]:=λq L hL=>by
   rw[Qbv];intro p hp;rw[decide_eq_false (hL p hp)];exact Qu
  by_cases z:r<h
  ·have ih:=Qpa w f h z;unfold QgL at ih;rw[ih,no 0 _ λp hp=>?_,Yc];obtain⟨c,_,_,rfl⟩:=QaA.mp hp;show(h:Int)≠r;omega
  ·have e:r=h:=by omega
   subst e;rw[no 0 (ZF r w f) λp hp=>?_,QfD,Qan.mpr λp hp=>?_]
   ·obtain⟨c,_,_,rfl⟩:=QaA.mp hp;exact decide_eq_true rfl
   ·have:=(Qb5 hp).2.1;omega
theorem Qwa{h w r:Nat}(f:Nat->Nat->Bool)(hr:r<h):QtM (ZF h w f) r=(Qm w).filter (f r):=by
 unfold QtM;rw[Qpa w f h hr];unfold Qdq;rw[QY]
 conv=>rhs;rw[<- QcH ((Qm w).filter (f r))]
 exact QQ λc _=>by show((c:Int)).toNat=c;omega
theorem Qym{h w:Nat}(f:Nat->Nat->Bool):∀(i t k:Nat),i<=h->Wc (ZF h w f) h i t k=Pf f (Qf4 h i) (Qfp w t) k
 |0,t,k,_=>rfl
 |i+1,t,k,hi=>by
  show Wc (ZF h w f) h i t k+(if k=0 then 0 else Que (Wc (ZF h w f) h i) t (QtM (ZF h w f) (h - 1 - i)) (k - 1))=Pf f (Qf4 h i) (Qfp w t) k+(if k=0 then 0 else sumZ (λc=>Pf f (Qf4 h i) (wo1 (Qfp w t) c) (k - 1)) ((Qfp w t).filter (f (h - 1 - i))));rw[Qym f i t k (by omega)]
  congr 1
  by_cases z:k=0
  ·rw[if_pos z,if_pos z]
  ·rw[if_neg z,if_neg z,Qwa f (by omega)];have e:=Qdk (Wc (ZF h w f) h i) t (k - 1) (λc:Nat=>c) ((Qm w).filter (f (h - 1 - i)));rw[List.map_id'] at e;rw[e,Z0];show _=sumZ _ (((Qm w).filter λc => !t.testBit c).filter (f (h - 1 - i)));rw[Qke];refine Zw λc _=>?_
   cases hb:t.testBit c with
   |true=>simp
   |false=>
    rw[if_neg Qu,if_pos (show(!false)=true from rfl),Qym f i (t ||| 2^c) (k - 1) (by omega),QoJ]
theorem Qtx{h w:Nat}(f:Nat->Nat->Bool)(k:Nat):Wc (ZF h w f) h h 0 k=Pf f (Qf4 h h) (Qm w) k:=by
 rw[Qym f h 0 k (Qi _),Qjm]
theorem QgQ{α:Type}{F G:α->Int}:∀{l:List α},(∀x∈l,F x=G x)->sumZ F l=sumZ G l
 |[],_=>rfl
 |x::l,h=>by show F x+_=G x+_;rw[h x (.head _),QgQ λy hy=>h y (.tail _ hy)]
section
variable(K:PySem.W.Frag)(P:QN)(W:Jj)(u:Nat)
end
def cIw(f:Nat->Nat->Bool)(h w:Nat):List Int:=(Qm (min h w+1)).map λk=>Wc (ZF h w f) h h 0 k
theorem Qo0(C:List Nat)(p:Nat->Bool)(c:Nat):wo1 (C.filter p) c=(wo1 C c).filter p:=by
 unfold wo1;rw[ZB,ZB];exact ZP λd _=>Qbb _ _
theorem QiC(f:Nat->Nat->Bool)(p:Nat->Bool):∀(R C:List Nat)(k:Nat),(∀r∈R,∀c∈C,f r c=true->p c=true)->Pf f R (C.filter p) k=Pf f R C k
 |[],C,k,_=>rfl
 |r::R,C,k,h=>by
  show Pf f R (C.filter p) k+(if k=0 then 0 else sumZ (λc=>Pf f R (wo1 (C.filter p) c) (k - 1)) ((C.filter p).filter (f r)))=Pf f R C k+(if k=0 then 0 else sumZ (λc=>Pf f R (wo1 C c) (k - 1)) (C.filter (f r)));rw[QiC f p R C k λr' hr'=>h r' (.tail _ hr')]
  congr 1
  by_cases z:k=0
  ·rw[if_pos z,if_pos z]
  ·rw[if_neg z,if_neg z];have e:(C.filter p).filter (f r)=C.filter (f r):=by
    rw[ZB];refine ZP λc hc=>?_
    cases q:f r c with
    |false=>rfl
    |true=>rw[h r (.head _) c hc q];rfl
   rw[e];refine QgQ λc _=>?_
   rw[Qo0];exact QiC f p R (wo1 C c) (k - 1) λr' hr' c' hc'=>h r' (.tail _ hr') c' (Qlr.mp hc').1
theorem Qwm(f:Nat->Nat->Bool)(r:Nat)(R C:List Nat)(k:Nat)(nd:C.Nodup)(h:∀r'∈R,∀c∈C,f r' c=true->f r c=true):Pf f (r::R) C k=Pf f R C k+(if k=0 then 0 else(((C.filter (f r)).length:Int) - ((k - 1:Nat):Int))*Pf f R C (k - 1)):=by
 show Pf f R C k+(if k=0 then 0 else sumZ (λc=>Pf f R (wo1 C c) (k - 1)) (C.filter (f r)))=_
 congr 1
 by_cases z:k=0
 ·rw[if_pos z,if_pos z]
 ·rw[if_neg z,if_neg z,<- QiC f (f r) R C (k - 1) h,<- QhA f R (C.filter (f r)) (k - 1) (J9 _ nd)];refine QgQ λc _=>?_
  rw[Qo0];exact(QiC f (f r) R (wo1 C c) (k - 1) λr' hr' c' hc'=>h r' hr' c' (Qlr.mp hc').1).symm
def ccI(t:List Int)(n:Int):List Int:=(Qm (t.length+1)).map λk=>t.getD k 0+(if k=0 then 0 else t.getD (k - 1) 0*(n - ((k - 1:Nat):Int)))
def hcI(ns:List Int):List Int:=ns.foldl ccI [1]
theorem QdJ(t:List Int)(n:Int):(ccI t n).length=t.length+1:=by unfold ccI;rw[Qe,QD]
theorem QpM(t:List Int)(n:Int)(k:Nat):(ccI t n).getD k 0=t.getD k 0+(if k=0 then 0 else t.getD (k - 1) 0*(n - ((k - 1:Nat):Int))):=by
 by_cases h:k<t.length+1
 ·rw[Qf];unfold ccI;rw[Qh,Q6 h];rfl
 ·have a:(ccI t n).getD k 0=0:=by rw[Qf,QL (by rw[QdJ];omega)];rfl
  have b:t.getD k 0=0:=by rw[Qf,QL (by omega)];rfl
  have c:t.getD (k - 1) 0=0:=by rw[Qf,QL (by omega)];rfl
  rw[a,b,c,ZV,ZD];split<;>rfl
def szR(ns:List Int)(r:Nat):Int:=((Qm ns.length).filter (stF ns r)).length
def Qv9(ns:List Int)(h:Nat):Nat->List Int
 |0=>[]
 |i+1=>Qv9 ns h i++[szR ns (h - 1 - i)]
theorem QhB{ns:List Int}(h:Nat):∀(i k:Nat),i<=h->Pf (stF ns) (Qf4 h i) (Qm ns.length) k=(hcI (Qv9 ns h i)).getD k 0
 |0,k,_=>by
  show(if k=0 then(1:Int) else 0)=([1]:List Int).getD k 0;cases k with
  |zero=>rfl
  |succ k=>rfl
 |i+1,k,hi=>by
  show Pf (stF ns) ((h - 1 - i)::Qf4 h i) _ k=((Qv9 ns h i++[szR ns (h - 1 - i)]).foldl ccI [1]).getD k 0;rw[QaM];show _=(ccI (hcI (Qv9 ns h i)) (szR ns (h - 1 - i))).getD k 0;rw[QpM,Qwm _ _ _ _ _ Yy,QhB h i k (by omega),QhB h i (k - 1) (by omega)]
  ·congr 1
   split
   ·rfl
   ·rw[JU];rfl
  ·intro r' hr' c hc q;have lt:∀i,i<=h->∀r'∈Qf4 h i,h - i<=r':=λi=>by
    induction i with
    |zero=>intro _ r' hr';cases hr'
    |succ i ih=>
     intro hi r' hr';rcases Qt.mp hr' with z | z
     ·omega
     ·have:=ih (by omega) r' z;omega
   have:=lt i (by omega) r' hr';have q:=of_decide_eq_true (show decide ((r':Int)<ns.getD c 0)=true from q);exact decide_eq_true (by omega)
def Qyw:List Int:=[0,1,2,3,4,5,6]
def Qrn:Nat->List (List Int)
 |0=>[[]]
 |n+1=>Qyw.flatMap λa=>((Qrn n).filter λs=>match s with | []=>true | b::_=>decide (a<=b)).map (a::·)
theorem Qgk:∀{ns:List Int},(∀i∈ns,0<=i/\i<=6)->nfI ns=true->ns∈Qrn ns.length
 |[],_,_=>.head _
 |a::ns,hb,hn=>by
  have h7:a∈Qyw:=by
   have:=hb a (.head _);have:a=0∨a=1∨a=2∨a=3∨a=4∨a=5∨a=6:=by omega
   rcases this with rfl | rfl | rfl | rfl | rfl | rfl | rfl<;>decide
  refine J4.mpr ⟨a,h7,Qo.mpr ⟨ns,Jc.mpr ⟨Qgk (λi hi=>hb i (.tail _ hi)) (Qlf hn),?_⟩,rfl⟩⟩;cases ns with
  |nil=>rfl
  |cons b r=>exact(Q3.mp (show(decide (a<=b)&&nfI (b::r))=true from hn)).1
def QzF(ns:List Int):Bool:=decide ((Qm (min (sH ns) ns.length+1)).map (λk=>(hcI (Qv9 ns (sH ns) (sH ns))).getD k 0)++QJ (ns.length+1 - (min (sH ns) ns.length+1)) 0=hcI ns)
theorem QvN:∀n:Fin 7,∀ns∈Qrn n,0<ns.length->QzF ns=true:=by decide +kernel
theorem QlK{ns:List Int}(hs:JQ ns):cIw (stF ns) (sH ns) ns.length++QJ (ns.length+1 - (min (sH ns) ns.length+1)) 0=hcI ns:=by
 have l6:=hs.l6;have:=QvN ⟨ns.length,by omega⟩ ns (Qgk hs.bd hs.nf) hs.l1;rw[<- of_decide_eq_true this]
 congr 1
 unfold cIw;refine QQ λk _=>?_
 rw[Qtx,QhB (sH ns) (sH ns) k (Qi _)]
def hdL(ns:List Int):List Int:=(Qm ns.length).map λi=>ns.getD i 0 - (i:Int)
def prI(x:Int):List Int->Int
 |[]=>1
 |h::hs=>(x+h)*prI x hs
theorem Qg8(x:Int):∀a b:List Int,prI x (a++b)=prI x a*prI x b
 |[],b=>by show _=1*_;rw[YY];rfl
 |h::a,b=>by show(x+h)*prI x (a++b)=(x+h)*prI x a*prI x b;rw[Qg8 x a b,JC]
theorem Qnv(x:Int){a b:List Int}(p:a.Perm b):prI x a=prI x b:=by
 induction p with
 |nil=>rfl
 |cons h _ ih=>show(x+h)*_=(x+h)*_;rw[ih]
 |swap h k l=>show(x+k)*((x+h)*prI x l)=(x+h)*((x+k)*prI x l);rw[<- JC,<- JC,JU (x+k)]
 |trans _ _ h1 h2=>rw[h1,h2]
end Rk
namespace Dl
open L2 _root_.Rd Rk
section
variable{X:Cx}{E:XK}
end
@[irreducible] def QwQ(t:DT)(wb:DS)(D:QdS)(δ:Sts):Prop:=∃Iv:Nat->Sts->Prop,(∃m,Iv m δ)/\∀m δ,Iv m δ->t δ (λb=>if b=true then wb { D with nx:=λδ'=>∃m',m'<m/\Iv m' δ',ct:=λδ'=>∃m',m'<m/\Iv m' δ',bk:=D.nx } δ else D.nx δ) D.ex
def Ql0(t:DT)(wb:DS):DS:=λD δ=>QwQ t wb D δ
section
variable{X:Cx}{E:XK}
theorem QkR{c:QV}{body:List ZK}{pos:Pos}{t:DT}{wb:DS}(hp:QeL (model X.prog X.w) X.A X.env X.xe)(hc:PT X c (tT X.K E t))(hb:PSs X body (tS X.K E wb)):PS X (.While c body [] pos) (tS X.K E (Ql0 t wb)):=by
 refine PS.imp (Qnt hp hc hb) λD σ H ⟨F,δ,DD,rel,hw,en⟩=>?_
 unfold Ql0 QwQ at hw;obtain⟨Iv,⟨m0,i0⟩,step⟩:=hw;refine⟨λm σ' H'=>∃δ',Iv m δ'/\Rel X.K F σ' H' δ'/\Stp F σ H δ σ' H' δ',⟨m0,δ,i0,rel,Stp.refl⟩,?_⟩;rintro m σ' H' ⟨δ',iv,r',st'⟩;refine⟨F,δ',_,DD.ex,r',step m δ' iv,λb hb H1 rel1 kp1=>?_,en.ex⟩;have st1:Stp F σ H δ σ' H1 δ':=st'.trans (Stp.kp kp1);cases b with
 |true=>
  rw[if_pos rfl] at hb;show if true=true then _ else _
  rw[if_pos rfl];refine⟨λσ2 H2=>∃δ2,(∃m',m'<m/\Iv m' δ2)/\Rel X.K F σ2 H2 δ2/\Stp F σ H δ σ2 H2 δ2,λσ2 H2 ⟨δ2,⟨m',hm,h2⟩,r2,s2⟩=>⟨m',hm,δ2,h2,r2,s2⟩,F,δ',_,rel1,hb,?_⟩;exact⟨⟨λδ6 h6 σ6 H6 r6 s6=>⟨δ6,h6,r6,st1.trans s6⟩⟩,en.rt,en.rtF,(en.step st1).nx,⟨λδ6 h6 σ6 H6 r6 s6=>⟨δ6,h6,r6,st1.trans s6⟩⟩,en.ex⟩
 |false=>
  rw[if_neg Qu] at hb;show if false=true then _ else _
  rw[if_neg Qu];exact(en.step st1).nx.go δ' hb σ' H1 rel1 Stp.refl
theorem Qh6{c:QV}{body:List ZK}{pos:Pos}{t:DT}{wb:DS}(hp:QeL (model X.prog X.w) X.A X.env X.xe)(hc:QT X E c t)(hb:QSs X E body wb):QS X E (.While c body [] pos) (Ql0 t wb):=⟨QkR hp hc.h hb.h⟩
end
theorem Qo1{t:DT}{wb:DS}{D:QdS}{δ:Sts}(Iv:Nat->Sts->Prop)(m0:Nat)(h0:Iv m0 δ)
  (hs:∀m δ,Iv m δ->t δ (λb=>if b=true then wb { D with nx:=λδ'=>∃m',m'<m/\Iv m' δ',ct:=λδ'=>∃m',m'<m/\Iv m' δ',bk:=D.nx } δ else D.nx δ) D.ex):QwQ t wb D δ:=by
 unfold QwQ;exact⟨Iv,⟨m0,h0⟩,hs⟩
end Dl
namespace Rm
open AutoSeq1 (wpAny_loadPart')
open MeetsSeq
end Rm
namespace L2
open _root_.Rd
section
variable{X:Cx}
end
end L2
namespace Dl
open L2 _root_.Rd Rk Rt
section
variable{X:Cx}{E:XK}{st:ZK}{i:Nat}{we:DE}
end
end Dl
namespace Dl
open L2 _root_.Rd Rk
section
variable{X:Cx}{E:XK}{st:ZK}{i j:Nat}{we:DE}
end
section
variable{X:Cx}{E:XK}{st:ZK}{i:Nat}
def Qtf(i:Nat):DS:=λD δ=>match δ[i]? with
 |some (.own ds)=>ds≠[]/\D.nx (δ.set i (.own ds.dropLast))
 |_=>False
theorem QnM(h:PS X st (Qri (Qyt X.K "list" QyA (Qj8 i)))):PS X st (tS X.K E (Qtf i)):=by
 refine PS.imp h λD σ H ⟨F,δ,DD,rel,hw,en⟩=>?_
 unfold Qtf at hw;split at hw
 ·rename_i ds hd
  obtain⟨ne,hn⟩:=hw;obtain⟨x,hx⟩:=rel.lt hd;obtain⟨l,xs,rfl,e,q,f⟩:=rel.sl i _ _ hx hd;have ql:=q.length;have n0:0<xs.length:=by rw[ql];exact JP.mpr ne
  have dd:DAs (Av F σ δ) H xs.dropLast ds.dropLast:=by
   rw[QjD,QjD,ql];exact q.take _
  obtain⟨r2,st2⟩:=rel.mut hd hx dd;exact⟨.ref l,hx,.inl ⟨rfl,_,SqL.of e⟩,l,xs,_,rfl,rfl,e,Qg (by omega),en.nx.go _ hn _ _ r2 st2⟩
 ·exact hw.elim
theorem QrF{y:Str}{apos cpos pos npos:Pos}(i:Nat)(hN:X.N[i]? = some y:=by rfl)(hv:Vis X.env.scope y:=by first | exact Q4 rfl | exact Q0 (Q4 rfl) | exact Q0 (Q0 rfl))(hd:(y == ("__debug__" : Str))=false:=by decide)(hcd:(y == ("__classdict__" : Str))=false:=by decide)(hbase:attributeBase (.Name y npos) "pop" X.env (eval (.Name y npos) X.env)=eval (.Name y npos) X.env:=by rfl)(hline:(apos.endLine == cpos.line)=true:=by rfl)(hsw:swapsWith (.Call (.Attribute (.Name y npos) "pop" apos) [] [] cpos) none pos.line X.env=pure false:=by rfl):QS X E (.Expr (.Call (.Attribute (.Name y npos) "pop" apos) [] [] cpos) pos) (Qtf i):=⟨QnM (QkJ (QuO PySem.F.plainAttrs_list PySem.F.slot_list_pop PySem.F.type_list_pop Qvt (pv i hN hv hd hcd) hbase hline) hsw)⟩
end
end Dl
namespace L2
section
variable{X:Cx}{pins:List (Addr×Obj)}{σ:St}{l it S fa:Addr}{xs:List V}{kw:List (Str×Value)}{val:Nat->Int}{H0:Hp}{R:QpX->Shared->Prop}
def bstI(val:Nat->Int)(j:Nat):Nat:=argBest (λa b=>decide (val a<val b)) j
def YS(S:Addr)(H0 H:Hp):Prop:=∀b o,b≠S->H0 b=some o->H b=some o
def QfA(X:Cx)(σ:St)(S fa:Addr)(xs:List V)(val:Nat->Int)(H0:Hp):Prop:=
 ∀(i:Nat)(x:V)(u:Value)(pins':List (Addr×Obj))(s:Shared)(H:Hp)(E:Value->Shared->Prop),xs[i]? = some x->RelV x u->Inv X pins' σ H s->YS S H0 H ->
  wpAny (model X.prog X.w) X.A.in1 (call (.ref fa) [u]) (λr s'=>∃t H',r=.int (val i) t/\Inv X pins' σ H' s'/\Same H H') E s
theorem Qg3{s:Shared}{H:Hp}{ys zs:List V}{vs:List Value}(I:Inv X pins σ H s)(e:H S=some (.lst ys))(r:Vals zs vs)(hz:zs.length<=sizeLine):Inv X pins σ (upd H S (.lst zs)) { s with heap:=s.heap.update S (Qb9 λ_=>vs.toArray) }:=by
 obtain⟨_,its,n,rv,ln,ho⟩:=I.lstM e;refine I.write (t':=s.toks) (x:=S) (e:=S) (by rw[e];exact QbS) (.inl rfl) (λb u hb z=>(Z5 _ _ (Qca hb)).trans z) ⟨_,Y2 _ ho rfl⟩ ⟨hz,vs,_,r,Y2 _ ho rfl⟩
theorem Qgj(hl:H0 l=some (.lst xs))(hlS:l≠S)(hkey:QfA X σ S fa xs val H0)(hc:X.calm=true)
  (hR:∀u s' H' x,xs[bstI val (xs.length - 1)]? = some x->RelV x u->Inv X pins σ H' s'->YS S H0 H'->R (.ok (.ret u)) s') :
  ∀(k j:Nat)(s:Shared)(H:Hp)(x:V),xs.length - (j+1)=k->j+1<=xs.length->Inv X pins σ H s->FpOk X pins H it->s.heap.IsListIter it l (j+1)->YS S H0 H->H S=some (.lst [x,.int (val (bstI val j))])->xs[bstI val j]? = some x ->
  codeAny (model X.prog X.w) X.A (.builtin "min.loop" ⟨[.ref it,.ref fa,.ref S],kw⟩) R s:=by
 have hname:(toString "min" ++ toString ".loop" : String) = "min.loop" := by decide
 intro k;induction k with
 |zero=>
  intro j s H x hk hj I hf st kp eS hx;have hin:j+1=xs.length:=by omega
  obtain⟨_,its,n,rv,ln,ho⟩:=I.lstM eS;obtain⟨u,w',e2,r1,r2⟩:∃u w',its=[u,w']/\RelV x u/\RelV (.int (val (bstI val j))) w':=by
   match its,rv with
   |[u,w'],.cons a (.cons b .nil)=>exact⟨u,w',rfl,a,b⟩
  subst e2;obtain⟨hz,its,n2,rl,ll,hol⟩:=I.lstM (kp _ _ hlS hl);obtain⟨f0,f1,f2,f3,f4,f5⟩:=hf;refine QcW QbQ ?_
  rw[Y6 ZI _];show wpAny _ X.A.in1 (seqItems? (.ref S) >>= _) _ _ s;refine wpAny_bind (J5 ho rfl ?_);show wpAny _ X.A.in1 (tryCatch (pyNext (.ref it)) _ >>= _) _ _ s;refine wpAny_bind (YH (QcT (I.ok.hd hc) st ⟨_,hol,rfl,_,rfl⟩ (by simp;omega) λh' eb=>?_));have I1:Inv X pins σ H { s with heap:=h' }:=I.turned (t':=s.toks) (λb o hb e=>eb b o hb e) f0 f1 f3 f4 f5;have ho1:h'.get? S=_:=eb S _ (λz=>by rw[z,f0] at eS;cases eS) ho;show wpAny _ X.A.in1 (updateSeq S (λ_=>#[]) >>= _) _ _ _;refine wpAny_bind ?_
  refine QiE ho1 rfl (wpAny_bind (QaG (Qp ?_)));refine hR u _ _ x (by rw[<- hin];exact hx) r1 (Qg3 (vs:=[]) (zs:=[]) I1 eS .nil (Jm _)) λb o hb e=>?_
  rw[Jq hb];exact kp b o hb e
 |succ k ih=>
  intro j s H x hk hj I hf st kp eS hx;have hlt:j+1<xs.length:=by omega
  obtain⟨_,its,n,rv,ln,ho⟩:=I.lstM eS;obtain⟨u,w',e2,r1,r2⟩:∃u w',its=[u,w']/\RelV x u/\RelV (.int (val (bstI val j))) w':=by
   match its,rv with
   |[u,w'],.cons a (.cons b .nil)=>exact⟨u,w',rfl,a,b⟩
  subst e2;obtain⟨tw,rfl⟩:=r2;obtain⟨hz,its,n2,rl,ll,hol⟩:=I.lstM (kp _ _ hlS hl);obtain⟨v,hv,rv2⟩:=rl.get (i:=j+1) (x:=xs[j+1]) (Qg hlt);obtain⟨f0,f1,f2,f3,f4,f5⟩:=id hf;have nS:S≠it:=λz=>by rw[z,f0] at eS;cases eS
  refine QcW QbQ ?_
  rw[Y6 ZI _];show wpAny _ X.A.in1 (seqItems? (.ref S) >>= _) _ _ s;refine wpAny_bind (J5 ho rfl ?_);show wpAny _ X.A.in1 (tryCatch (pyNext (.ref it)) _ >>= _) _ _ s;refine wpAny_bind (YH (Qcd st ⟨_,hol,rfl,_,rfl⟩ (x:=v) (by simpa using hv) λh' st' sb=>?_));have I1:Inv X pins σ H { s with heap:=h' }:=I.turned (t':=s.toks) (λb o hb e=>(sb.2 b hb).trans e) f0 f1 f3 f4 f5;have pn:∀b∈[it],∃o,h'.get? b=some o/\∀v,o.data≠.cell v:=λb hb=>by
   have e:b=it:=by simpa using hb
   subst e;obtain⟨o,e,c,d⟩:=st';exact⟨o,e,λv z=>by rw[d] at z;cases z⟩
  have hfA:∀b∈[it],FpOk X pins H b:=λb hb=>by
   have e:b=it:=by simpa using hb
   rw[e];exact hf
  have I1p:=I1.pinned (fp:=[it]) hfA pn;show wpAny _ X.A.in1 (tryCatch (holding [v] (call (.ref fa) [v])) _ >>= _) _ _ _;refine wpAny_bind (YH (Zx (wpAny_mono (hkey (j+1) _ v _ _ H _ (Qg hlt) rv2 I1p kp) (λr s2 ⟨t,H2,er,I2p,s12⟩=>?_) λ_ _ e=>e)));subst er;have I2:=I2p.unpinned;have it2:s2.heap.IsListIter it l (j+1+1):=st'.at λo e=>(I2p.pin (it,o) (QR _ (QR _ (Ys (QB.mpr rfl) e)))).1
  have f02:H2 it=none:=by
   obtain⟨o,e,_⟩:=id st';exact(I2p.pin (it,o) (QR _ (QR _ (Ys (QB.mpr rfl) e)))).2.1
  have hf2:FpOk X pins H2 it:=⟨f02,f1,f2,f3,f4,f5⟩;have kp2:YS S H0 H2:=λb o hb e=>s12 _ _ (kp b o hb e)
  have eS2:=s12 _ _ eS;obtain⟨_,its2,n3,rv3,ln3,ho2⟩:=I2.lstM eS2;show wpAny _ X.A.in1 (tryCatch (holding [v,.int (val (j+1)) t] (richCompare .Lt (.int (val (j+1)) t) (.int (val (bstI val j)) tw) >>= _)) _ >>= _) _ _ _;refine wpAny_bind (YH (Zx (wpAny_bind (HT.Qh4 _ _ _ _ _ _ _ _ _ _ ?_))));refine wpAny_bind (Zx (JB ?_));refine wpAny_bind (QaG (Qp ?_));have eb:bstI val (j+1)=if decide (val (j+1)<val (bstI val j))=true then j+1 else bstI val j:=rfl
  cases hb:decide (val (j+1)<val (bstI val j)) with
  |true=>
   rw[hb,if_pos rfl] at eb;simp only[if_true];refine wpAny_bind ?_
   refine QiE ho2 rfl (wpAny_bind (QaG ?_));rw[hname];have I3:=Qg3 (vs:=[v,.int (val (j+1)) t]) (zs:=[xs[j+1],.int (val (j+1))]) I2 eS2 (.cons rv2 (.cons ⟨t,rfl⟩ .nil)) (by show 2<=sizeLine;decide);refine Qp ⟨QeE ZI _,ih (j+1) _ _ xs[j+1] (by omega) hlt I3 ⟨by rw[Jq (Qca nS)];exact f02,f1,f2,f3,f4,f5⟩ (it2.at λo e=>(Z5 _ _ nS).trans e) (λb o hb e=>by rw[Jq hb];exact kp2 b o hb e) (by rw[eb];exact Ju) (by rw[eb];exact Qg hlt)⟩
  |false=>
   rw[hb,if_neg Qu] at eb;simp only[Bool.false_eq_true,if_false];refine wpAny_bind (QaG ?_);rw[hname];exact Qp ⟨QeE ZI _,ih (j+1) _ _ x (by omega) hlt I2 hf2 it2 kp2 (by rw[eb];exact eS2) (by rw[eb];exact hx)⟩
theorem Qff(hl:H0 l=some (.lst xs))(hlS:l≠S)(hkey:QfA X σ S fa xs val H0)(hc:X.calm=true)(hn:0<xs.length)
  (hR:∀u s' H' x,xs[bstI val (xs.length - 1)]? = some x->RelV x u->Inv X pins σ H' s'->YS S H0 H'->R (.ok (.ret u)) s'){s:Shared}{H:Hp}(I:Inv X pins σ H s)(hf:FpOk X pins H it)(st:s.heap.IsListIter it l 0)(kp:YS S H0 H)(eS:H S=some (.lst [])) :
  codeAny (model X.prog X.w) X.A (.builtin "min.loop" ⟨[.ref it,.ref fa,.ref S],kw⟩) R s:=by
 have hname:(toString "min" ++ toString ".loop" : String) = "min.loop" := by decide
 obtain⟨_,its,n,rv,ln,ho⟩:=I.lstM eS;cases rv;obtain⟨hz,its,n2,rl,ll,hol⟩:=I.lstM (kp _ _ hlS hl);obtain⟨v,hv,rv2⟩:=rl.get (i:=0) (x:=xs[0]) (Qg hn);obtain⟨f0,f1,f2,f3,f4,f5⟩:=id hf;have nS:S≠it:=λz=>by rw[z,f0] at eS;cases eS
 refine QcW QbQ ?_
 rw[Y6 ZI _];show wpAny _ X.A.in1 (seqItems? (.ref S) >>= _) _ _ s;refine wpAny_bind (J5 ho rfl ?_);show wpAny _ X.A.in1 (tryCatch (pyNext (.ref it)) _ >>= _) _ _ s;refine wpAny_bind (YH (Qcd st ⟨_,hol,rfl,_,rfl⟩ (x:=v) (by simpa using hv) λh' st' sb=>?_));have I1:Inv X pins σ H { s with heap:=h' }:=I.turned (t':=s.toks) (λb o hb e=>(sb.2 b hb).trans e) f0 f1 f3 f4 f5;have pn:∀b∈[it],∃o,h'.get? b=some o/\∀v,o.data≠.cell v:=λb hb=>by
  have e:b=it:=by simpa using hb
  subst e;obtain⟨o,e,c,d⟩:=st';exact⟨o,e,λv z=>by rw[d] at z;cases z⟩
 have hfA:∀b∈[it],FpOk X pins H b:=λb hb=>by
  have e:b=it:=by simpa using hb
  rw[e];exact hf
 have I1p:=I1.pinned (fp:=[it]) hfA pn;show wpAny _ X.A.in1 (tryCatch (holding [v] (call (.ref fa) [v])) _ >>= _) _ _ _;refine wpAny_bind (YH (Zx (wpAny_mono (hkey 0 _ v _ _ H _ (Qg hn) rv2 I1p kp) (λr s2 ⟨t,H2,er,I2p,s12⟩=>?_) λ_ _ e=>e)));subst er;have I2:=I2p.unpinned;have it2:s2.heap.IsListIter it l (0+1):=st'.at λo e=>(I2p.pin (it,o) (QR _ (QR _ (Ys (QB.mpr rfl) e)))).1
 have f02:H2 it=none:=by
  obtain⟨o,e,_⟩:=id st';exact(I2p.pin (it,o) (QR _ (QR _ (Ys (QB.mpr rfl) e)))).2.1
 have eS2:=s12 _ _ eS;obtain⟨_,its2,n3,rv3,ln3,ho2⟩:=I2.lstM eS2;show wpAny _ X.A.in1 (updateSeq S (λ_=>#[v,.int (val 0) t]) >>= _) _ _ _;refine wpAny_bind ?_
 refine QiE ho2 rfl ?_
 rw[hname];have I3:=Qg3 (vs:=[v,.int (val 0) t]) (zs:=[xs[0],.int (val 0)]) I2 eS2 (.cons rv2 (.cons ⟨t,rfl⟩ .nil)) (by show 2<=sizeLine;decide);exact Qp ⟨QeE ZI _,Qgj hl hlS hkey hc hR _ 0 _ _ xs[0] rfl hn I3 ⟨by rw[Jq (Qca nS)];exact f02,f1,f2,f3,f4,f5⟩ (it2.at λo e=>(Z5 _ _ nS).trans e) (λb o hb e=>by rw[Jq hb];exact s12 _ _ (kp b o hb e)) Ju (Qg hn)⟩
theorem Qgi(hl:H0 l=some (.lst []))(hlS:l≠S)(hc:X.calm=true){d:Value}{kn:Str}{s:Shared}{H:Hp}(I:Inv X pins σ H s)(hf:FpOk X pins H it)(st:s.heap.IsListIter it l 0)(kp:YS S H0 H)(eS:H S=some (.lst []))(hR:∀s',Inv X pins σ H s'->R (.ok (.ret d)) s') :
  codeAny (model X.prog X.w) X.A (.builtin "min.loop" ⟨[.ref it,.ref fa,.ref S],[(kn,d)]⟩) R s:=by
 obtain⟨_,its,n,rv,ln,ho⟩:=I.lstM eS;cases rv;obtain⟨hz,its,n2,rl,ll,hol⟩:=I.lstM (kp _ _ hlS hl);cases rl;obtain⟨f0,f1,f2,f3,f4,f5⟩:=id hf;refine QcW QbQ ?_
 rw[Y6 ZI _];show wpAny _ X.A.in1 (seqItems? (.ref S) >>= _) _ _ s;refine wpAny_bind (J5 ho rfl ?_);show wpAny _ X.A.in1 (tryCatch (pyNext (.ref it)) _ >>= _) _ _ s;refine wpAny_bind (YH (QcT (I.ok.hd hc) st ⟨_,hol,rfl,_,rfl⟩ (by simp) λh' eb=>?_));have I1:Inv X pins σ H { s with heap:=h' }:=I.turned (t':=s.toks) (λb o hb e=>eb b o hb e) f0 f1 f3 f4 f5;show wpAny _ X.A.in1 (rule _ >>= _) _ _ _;exact wpAny_bind (wpAny_rule (Qp (hR _ I1)))
end
section
variable{prog:QN}{w:Jj}{A:Jh}{E:Value->Shared->Prop}{s:Shared}
theorem Qgr{id:String}{b:QmT}{args:List Value}{kw:List (Str×Value)}{Q:Value->Shared->Prop}(hk:builtinKind id=none)(hp:plainId id=true)
  (hb:entryFor table id=some b)(ha:argsOk id ⟨args,kw⟩)
  (hc:wpAny (model prog w) A.in1 (b ⟨args,kw⟩) (λfin s'=>match fin with
   |.done f=>(match (Except.ok f:QpX) with | .ok (.ret v)=>Q v s' | .ok _=>False | .error e=>E e s')
   |.again c'=>c'.quiet=true/\codeAny (model prog w) A c' (λr s'=>match r with | .ok (.ret v)=>Q v s' | .ok _=>False | .error e=>E e s') s') E s) :
  wpAny (model prog w) A (call (.builtin id) args kw) Q E s:=by
 refine QwS (codeAny_call_builtin hp hb ?_);simp only[checkBuiltinCall,hk];cases hsig:Manifest.signature? id with
 |none=>exact Qp hc
 |some sig=>
  have ha':Bind.checkArgs id sig ⟨args,kw⟩=pure ():=by simpa only[argsOk,hsig] using ha
  simp only[ha'];exact Qp hc
end
theorem Qjr(a f:Value):argsOk "min" ⟨[a],[("key",f)]⟩:=by unfold argsOk;kernel_rfl
theorem Qhy(a f d:Value):argsOk "min" ⟨[a],[("key",f),("default",d)]⟩:=by unfold argsOk;kernel_rfl
section
variable{X:Cx}{pins:List (Addr×Obj)}{σ:St}{l fa:Addr}{xs:List V}{val:Nat->Int}
theorem Qgs{dv:Option (V×Value)}{H:Hp}{s:Shared}{Q:VK}{E:Value->Shared->Prop}(hc:X.calm=true)(I:Inv X pins σ H s)(hl:H l=some (.lst xs))(hd:∀p,dv=some p->RelV p.1 p.2)(hkey:∀S,H S=none->QfA X σ S fa xs val H)
  (h0:xs=[]->∃p,dv=some p/\∀H',Same H H'->Q p.1 H')(h1:∀x,xs[bstI val (xs.length - 1)]? = some x->∀H',Same H H'->Q x H') :
  wpAny (model X.prog X.w) X.A (call (.builtin "min") [.ref l] (("key",.ref fa)::dv.toList.map λp=>("default",p.2))) (EP X pins σ Q) E s:=by
 have hname:(toString "min" ++ toString ".loop" : String) = "min.loop" := by decide
 refine Qgr F.kind_min F.plain_min F.entry_min (by cases dv with | none=>exact Qjr _ _ | some p=>exact Qhy _ _ _) ?_
 show wpAny _ X.A.in1 (QbR "min" ["key", "default"] 0 ⟨[],("key",.ref fa)::dv.toList.map λp=>("default",p.2)⟩ >>= _) _ _ s;refine wpAny_bind (wpAny_of_eq (show QbR "min" ["key", "default"] 0 ⟨[],("key",.ref fa)::dv.toList.map λp=>("default",p.2)⟩=pure [some (.ref fa),dv.map (·.2)] by cases dv<;>rfl) ?_);refine wpAny_bind (Qp ?_);obtain⟨hz,its,n,rl,ll,hol⟩:=I.lstM hl;refine wpAny_bind (QbA (l:=l) ⟨_,hol,rfl,_,rfl⟩ ?_);have I1:Inv X pins σ H { s with heap:=s.heap.push { cls:=.type "list_iterator",data:=.fields #[.ref l,.int 0 0] } }:=I.kept (t':=s.toks) λb o e=>Qd _ e
 have hf:FpOk X pins H s.heap.objs.size:=I.fpOk (Qi _) (I.hok.fresh (Qi _));generalize hs1:({ s with heap:=s.heap.push { cls:=.type "list_iterator",data:=.fields #[.ref l,.int 0 0] } }:Shared)=s1 at I1;have st1:s1.heap.IsListIter s.heap.objs.size l 0:=by rw[<- hs1];exact⟨_,Qv _ rfl,rfl,rfl⟩
 have z1:s1.heap.objs.size=s.heap.objs.size+1:=by rw[<- hs1];exact ZH ..
 refine wpAny_bind (JW ?_);have I2:=I1.lnew (t':=s1.toks) (ys:=[]) (its:=[]) .nil (Jm _);have fS:H s1.heap.objs.size=none:=I1.hok.fresh (Qi _);have nl:l≠s1.heap.objs.size:=λz=>by rw[z,fS] at hl;cases hl
 have nit:s.heap.objs.size≠s1.heap.objs.size:=by rw[z1];exact QF (QtA _)
 have kp:YS s1.heap.objs.size H (upd H s1.heap.objs.size (.lst [])):=λb o hb e=>by rw[Jq hb];exact e
 obtain⟨f0,f1,f2,f3,f4,f5⟩:=hf;have hf2:FpOk X pins (upd H s1.heap.objs.size (.lst [])) s.heap.objs.size:=⟨by rw[Jq nit];exact f0,f1,f2,f3,f4,f5⟩;have st2:(s1.heap.push { cls:=.type "list",data:=.seq ([]:List Value).toArray }).IsListIter s.heap.objs.size l 0:=st1.at λo e=>Qd _ e
 have sm:∀{H':Hp},YS s1.heap.objs.size H H'->Same H H':=λk b o e=>k b o (λz=>by rw[z,fS] at e;cases e) e
 rw[hname];refine Qp ⟨QeE ZI _,?_⟩;cases xs with
 |nil=>
  obtain⟨p,ep,hq⟩:=h0 rfl;subst ep;exact Qgi (R:=λr s'=>match r with | .ok (.ret v)=>EP X pins σ Q v s' | .ok _=>False | .error e=>E e s') hl nl hc I2 hf2 st2 kp Ju λs' I'=>⟨p.1,_,I',hd p rfl,hq _ (sm kp)⟩
 |cons x0 xr=>
  exact Qff (R:=λr s'=>match r with | .ok (.ret v)=>EP X pins σ Q v s' | .ok _=>False | .error e=>E e s') hl nl (hkey _ fS) hc (by show 0<xr.length+1;omega) (λu s' H' x hx r I' k=>⟨x,H',I',r,h1 x hx H' (sm k)⟩) I2 hf2 st2 kp Ju
end
end L2
namespace L2
open PySem.Calls _root_.Rd _root_.Rk
section
variable{X:Cx}{k:Nat}{fa:Addr}{fd:QK}{pn:Str}{sp:Sp}{E0:XK}
end
end L2
namespace L2
open PySem.Calls _root_.Rd _root_.Rk Dl
def Qbz(base:J8)(mg:Str->Option Value):Prop:=∃bm ob,mg "__builtins__" = some (.ref bm)/\bm≠builtinsNs/\base.get? bm=some ob/\ob.cls=.type "module" /\ ob.dict=some builtinsNs/\ob.data=.plain
def TH(P:Addr)(q:Str)(H:Hp):Prop:=∃t more,H P=some (.tbl (#[.str q t]++more))
theorem Qj7{q:Str}{t:Tok}{more:Array Value}:Qxn (#[.str q t]++more)=q:=by
 unfold Qxn;rw[Qcg];rfl
section
variable{X:Cx}{pins:List (Addr×Obj)}{σ:St}{H:Hp}{s:Shared}
theorem Inv.th{P:Addr}{q:Str}(I:Inv X pins σ H s)(h:TH P q X.H₀):TH P q H:=by
 obtain⟨t,more,e⟩:=h;obtain⟨m2,e2⟩:=I.base.tbls P _ e;exact⟨t,more++m2,by rw[e2,QmD]⟩
def QvA(X:Cx)(R:QpX->Shared->Prop)(env:Env)(pn bn:Str)(s:Shared)(H:Hp):Cx where
 prog:=X.prog
 w:=X.w
 K:=X.K
 mg:=X.mg
 base:=X.base
 A:=X.A.in1.deeper env
 N:=[pn,bn]
 s₀:=s
 H₀:=H
 env:=env
 outer:=X.stack
 stack:=env::X.stack
 ex:=[]
 fn:=λx=>x != bn
 calm:=true
 pn:=[]
 xe:=λe s'=>wpAny (model X.prog X.w) (X.A.in1.deeper env) (leaving env e) (λ_ s''=>R (.error e) s'') (λe'' s''=>R (.error e'') s'') s'
theorem QlB{R:QpX->Shared->Prop}{qual pn bn:Str}{lsc:Yl}{f cb:Addr}{cdv:Value}{h₁:J8}{tk:Tok}{u:Value}{x bv:V}{ib:Nat}
  (I:Inv X pins σ H s)(hc:X.calm=true)(rx:RelV x u)(hib:X.N[ib]? = some bn)(hσ:σ[ib]? = some (some bv))(hkb:X.env.scope.names.lookup bn=some .cell)(hcb:X.env.cells.lookup bn=some cb)
  (sk:lsc.kind=.function)(hcell:∀y∈lsc.names,y.2≠.cell)(hpn:lsc.names.lookup pn=some .local)(hbn:lsc.names.lookup bn=some .free)(hfr:∀y,lsc.names.lookup y=some .free->y=bn)
  (hns:h₁.Ns s.heap.objs.size (λy=>[(pn,u)].reverse.lookup y))(hk₁:∀b o,s.heap.get? b=some o->h₁.get? b=some o) :
  Inv (QvA X R (newEnv lsc s.heap.objs.size mainGlobals [(bn,cb)] (qual ++ ".<locals>.") (some f) cdv none builtinsNs) pn bn s H) [] [some x,some bv] H { s with heap:=h₁,toks:=tk }:=by
 have cb1:∀y c,([(bn,cb)]:List (Str×Addr)).lookup y=some c->y=bn/\c=cb:=λy c e=>by
  rw[Q2] at e;split at e
  ·rename_i q
   exact⟨beq_iff_eq.mp q,(Qr e).symm⟩
  ·cases e
 have cb0:([(bn,cb)]:List (Str×Addr)).lookup bn=some cb:=by rw[Q2,beq_self_eq_true]
 refine⟨⟨I.ok.mod,sk,rfl,rfl,Qi _,λy z c h1 h2=>?_,λy hy=>?_,λy c hy h=>?_,λ_=>I.ok.hd hc,QiN I.env0.in1.frames,.inr ⟨rfl,rfl⟩,λb z=>absurd (show b∈([]:List Addr) from z) (by simp),I.bs,Q1 I.ok.bsz I.sz,λb _ _ z=>absurd (show b∈([]:List Addr) from z) (by simp),λb z=>absurd (show b∈([]:List Addr) from z) (by simp),I.stack,I.stkFree⟩,
  rfl,I.bare,Un.kept hk₁,⟨_,hns,λi y v h1 h2 h3=>?_⟩,λy c h=>?_,I.hok.fresh (Qi _),λy c h=>?_,λp hp=>absurd (show p∈([]:List (Addr×Obj)) from hp) (by simp),I.hok.kept hk₁,rfl⟩
 ·exact(cb1 y c h1).1.trans (cb1 z c h2).1.symm
 ·have hy:lsc.names.lookup y=some .cell∨lsc.names.lookup y=some .free:=hy;rcases hy with hy | hy
  ·exact absurd rfl (hcell _ (PySem.mem_of_lookup hy))
  ·rw[hfr y hy];exact⟨cb,cb0⟩
 ·have hy:(y != bn)=true:=hy;rw[(cb1 y c h).1] at hy;simp at hy
 ·match i,h1,h2 with
  |0,h1,h2=>
   have e1:y=pn:=(Qr h1).symm;have e2:v=x:=(Qr (Qr h2)).symm;subst e1;subst e2;exact⟨u,rx,.inl ⟨hpn,by show([(y,u)]:List (Str×Value)).lookup y=some u;rw[Q2,beq_self_eq_true]⟩⟩
  |1,h1,h2=>
   have e1:y=bn:=(Qr h1).symm;have e2:v=bv:=(Qr (Qr h2)).symm;subst e1;subst e2;obtain⟨m,hn,hl⟩:=I.loc;obtain⟨ub,rb,l⟩:=hl ib y v hib hσ (.inr (.inl hkb));refine⟨ub,rb,.inr ⟨.inr hbn,cb,cb0,?_⟩⟩;rcases l with⟨k1,_⟩ | ⟨_,c,e,o,ho,hd⟩
   ·have k1:X.env.scope.names.lookup y=some .local:=k1;rw[hkb] at k1;cases k1
   ·rw[hcb] at e;cases e;exact⟨o,hk₁ _ _ ho,hd⟩
  |i+2,h1,h2=>cases h1
 ·rw[(cb1 y c h).2];obtain⟨v,o,ho,hd⟩:=I.cell bn cb hcb;exact⟨v,o,hk₁ _ _ ho,hd⟩
 ·have:=(cb1 y c h).2;rw[this];exact I.freeC bn cb hcb
theorem Qov{S f c' cb:Addr}{oc:Obj}{vs:Array Value}{t:Tok}{xs:List V}{val:Nat->Int}{H0:Hp}{name qual pn bn wn:Str}{params:QeQ}{lsc:Yl}{pm ctv:Value}{bv:V}{ib k:Nat}{fw:Addr}{fdw:QK}{sp:Sp}{E0:XK}{p1 p2 p3 pos:Pos}{ps2:List Str}
  (F:FnOk X.prog X.w X.K X.mg X.base CX0 k fw fdw ps2 sp)(hr:Room (k+2) X.A)(hb:Binds X.K fdw ps2 [])(hmw:X.mg wn=some (.ref fw))(hkw:PySem.W.keepIn X.K (.ref fw)=true)(hc:X.calm=true)
  (hf:H0 f=some (.frz (PySem.W.kla_obj name qual params (.Call (.Name wn p1) [.Name bn p2,.Name pn p3] [] pos) lsc [(bn,cb)] pm c' ctv) (.own f)))
  (hcd:H0 c'=some (.frz oc (.own c')))(hd:oc.data=.fields vs)(hv:vs[1]? = some (.str qual t))(hS:H0 S=none)
  (hib:X.N[ib]? = some bn)(hσ:σ[ib]? = some (some bv))(hkb:X.env.scope.names.lookup bn=some .cell)(hcb:X.env.cells.lookup bn=some cb)
  (sk:lsc.kind=.function)(sco:lsc.isCoroutine=false)(sge:lsc.isGenerator=false)(hcell:∀y∈lsc.names,y.2≠.cell)(hpn:lsc.names.lookup pn=some .local)(hbn:lsc.names.lookup bn=some .free)(hfr:∀y,lsc.names.lookup y=some .free->y=bn)
  (hwn:lsc.names.lookup wn=some .globalImplicit)(dp:(pn == ("__debug__" : Str))=false)(db:(bn == ("__debug__" : Str))=false)(dw:(wn == ("__debug__" : Str))=false)(dp2:(pn == ("__classdict__" : Str))=false)(db2:(bn == ("__classdict__" : Str))=false)
  (hbind:∀u:Value,bindArgs (PySem.W.kla_fn name qual params (.Call (.Name wn p1) [.Name bn p2,.Name pn p3] [] pos) lsc [(bn,cb)] pm (.ref c') ctv) ⟨[u],[]⟩=pure [(pn,u)])
  (h:∀(i:Nat)(x:V),xs[i]? = some x->∀H,YS S H0 H->sp [bv,x] H (λv H'=>v=.int (val i)/\Same H H') E0):QfA X σ S f xs val H0:=by
 intro i x u pins' s H E hx rx I kb;have nS:∀b o,H0 b=some o->b≠S:=λb o e z=>by rw[z,hS] at e;cases e
 have gf:=(I.hok f _ (kb f _ (nS _ _ hf) hf)).1;have gc:=(I.hok c' _ (kb c' _ (nS _ _ hcd) hcd)).1;refine QwS (QcV (R:=CR CX0 X.stack X.prog X.w H s (λv H'=>v=.int (val i)/\Same H H') E0) ?_ λr s' hq=>?_)
 ·refine PySem.W.kla_callFunE hr.in1.depth gf rfl sco sge rfl ⟨c',oc,vs,t,rfl,gc,hd,hv⟩ ?_
  rw[hbind u];refine Qp (Qau hcell (λy hy=>by rw[QB.mp hy];exact hpn) (λh₁ hns hsb=>⟨(I.mod.nolimit.keeps I.bk).fresh _ hsb,?_⟩) sk);have hk₁:∀b o,s.heap.get? b=some o->h₁.get? b=some o:=λb o e=>hsb.extBut b o (QF (Qj e)) (Qd _ e)
  refine PySem.W.kla_codeExpr ?_
  have I':=QlB (R:=CR CX0 X.stack X.prog X.w H s (λv H'=>v=.int (val i)/\Same H H') E0) (qual:=qual) (f:=f) (cdv:=.ref c') (tk:=s.toks+1) I hc rx hib hσ hkb hcb sk hcell hpn hbn hfr hns hk₁;refine wpAny_mono ((Qdr (X:=QvA X (CR CX0 X.stack X.prog X.w H s (λv H'=>v=.int (val i)/\Same H H') E0) (newEnv lsc s.heap.objs.size mainGlobals [(bn,cb)] (qual ++ ".<locals>.") (some f) (.ref c') none builtinsNs) pn bn s H) (pos:=pos) (p:=p1) (x:=wn) (E:=E0) F (hr.in1.deeper _) hwn hmw hkw hb .nil JK
   (QaX (e:=.Name bn p2) (QkP (i:=1) rfl (.inr (.inr hbn)) db db2) (QaX (e:=.Name pn p3) (QkP (i:=0) rfl (.inl hpn) dp dp2) YF)) dw) [] _ [some x,some bv] H _ I' ⟨bv,rfl,x,rfl,h i x hx H kb⟩) (λv s' hq=>?_) λe s' y=>y
  obtain⟨v',H',J,rv,q⟩:=hq;exact⟨v',H',J.os,J.bare,J.base,J.hok,rv,q⟩
 ·cases r with
  |error e=>exact Zg hq
  |ok fl=>
   cases fl with
   |ret u'=>
    obtain⟨v,H',I',rv,rfl,sm⟩:=I.after hq;obtain⟨t,rfl⟩:∃t,u'=.int (val i) t:=by
     first
     |exact rv
     |(cases rv;exact⟨_,rfl⟩)
    exact⟨t,H',rfl,I',sm⟩
   |next=>exact Zg hq
   |brk=>exact Zg hq
   |cont=>exact Zg hq
end
theorem Qfq{pos:Pos}{a b:Int}{c v:Value}(l:List Value)(h:TriplesOk l)(hn:codeAmong pos (l++[rawInt a,rawInt b,c])=some v):codeAmong pos l=some v∨v=c:=by
 fun_induction TriplesOk l with
 |case1=>
  simp only[QfD,codeAmong,rawInt] at hn;split at hn
  ·exact .inr (Qr hn).symm
  ·cases hn
 |case2 a' t b' u x rest ih=>
  simp only[List.cons_append,codeAmong] at hn ⊢;split at hn
  ·rename_i hc;rw[if_pos hc];exact .inl hn
  ·rename_i hc;rw[if_neg hc];exact ih h hn
 |case3 l h1 h2=>exact h.elim
section
variable{X:Cx}{pins:List (Addr×Obj)}{σ:St}{H:Hp}{s:Shared}
theorem Qow{P c cb:Addr}{q bn:Str}{params:QeQ}{body:QV}{lsc:Yl}{pos:Pos}{E:Value->Shared->Prop}
  (I:Inv X pins σ H s)(hT:TH P q X.H₀)(hq:q=X.env.qual ++ "<lambda>")(hC:PySem.W.CodeHd X.base c P)(hcode:X.env.code=.ref c)(hB:Qbz X.base X.mg)
  (hcl:closureFor lsc X.env=pure [(bn,cb)])(hdef:defaultsOf params X.env=([],[])) :
  wpAny (model X.prog X.w) X.A (eval (.Lambda params body lsc pos) X.env) (λv s'=>∃f c' oc vs t pm ctv H',v=.ref f/\Inv X pins σ H' s'/\Same H H'/\H' f=some (.frz (PySem.W.kla_obj "<lambda>" q params body lsc [(bn,cb)] pm c' ctv) (.own f)) /\
   H' c'=some (.frz oc (.own c'))/\oc.data=.fields vs/\vs[1]? = some (.str q t)) E s:=by
 obtain⟨t0,more,eP⟩:=I.th hT;obtain⟨qs,gP,tri,cods⟩:=I.hok P _ eP;simp only[Qj7] at cods;have hgs:s.heap.Ns mainGlobals X.mg:=I.mod.glob.keeps I.bk;have neB:∀b o,X.base.get? b=some o->b≠P:=λb o e z=>by
  rw[z] at e;have:=(I.bs P o e).2;rw[eP] at this;cases this
 have hgP:mainGlobals≠P:=by
  obtain⟨o,es,ep,e,_⟩:=I.mod.glob;exact neB _ _ e
 obtain⟨bm,ob,b1,b2,b3,b4,b5,b6⟩:=hB;have hbG:bm≠mainGlobals:=λz=>by
  obtain⟨o,es,ep,e,hd,_⟩:=I.mod.glob;rw[z,e] at b3;cases b3;rw[hd] at b6;cases b6
 have bat:s.heap.BuiltinsAt X.mg P:=⟨bm,ob,b1,b2,hbG,neB _ _ b3,I.bk _ _ b3,b4,b5,b6⟩;refine PySem.W.kla_eval hdef ?_
 rw[<- hq];cases hca:codeAmong pos qs.toList with
 |none=>
  refine PySem.W.kla_makeFunction (mg:=X.mg) hcl I.ok.glob hgs hcode (hC.keeps I.bk) gP tri hca hgP bat λc' ctv h' tk hx hge hlt hrec htb=>?_
  obtain⟨c₂,oc,vs,t,e2,hoc,hd,hv⟩:=hrec;cases e2;have hc0:H c'=none:=I.hok.fresh hge;have hf0:H h'.objs.size=none:=I.hok.fresh (Q1 hge (ZC hlt));have ncf:c'≠h'.objs.size:=QF hlt;generalize ho:(PySem.W.kla_obj "<lambda>" q params body lsc [(bn,cb)] ((X.mg "__name__").getD .none) c' ctv)=fo;generalize hH:upd (upd H c' (.frz oc (.own c'))) h'.objs.size (.frz fo (.own h'.objs.size))=H2;have H2s:∀b u,H b=some u->H2 b=some u:=λb u e=>by
   rw[<- hH,Jq (JL e hf0),Jq (JL e hc0)];exact e
  have H2f:H2 h'.objs.size=some (.frz fo (.own h'.objs.size)):=by rw[<- hH];exact Ju
  have H2c:H2 c'=some (.frz oc (.own c')):=by rw[<- hH,Jq ncf];exact Ju
  have H2n:∀b,b≠h'.objs.size->b≠c'->H2 b=H b:=λb h1 h2=>by rw[<- hH,Jq h1,Jq h2]
  have kp:∀b o,b≠P->s.heap.get? b=some o->(h'.push fo).get? b=some o:=λb o hb e=>Qd _ (hx b o hb e)
  have nP:∀b,H b=none->b≠P:=λb n z=>by rw[z,eP] at n;cases n
  have gP':(h'.push fo).get? P=some _:=Qd _ htb;have old:∀b o,s.heap.get? b=some o->b≠h'.objs.size/\b≠c':=λb o e=>by
   have:=Qj e;exact⟨QF (QU this (Q1 hge (ZC hlt))),QF (QU this hge)⟩
  refine⟨h'.objs.size,c',oc,vs,t,_,ctv,H2,rfl,?_,H2s,by rw[ho];exact H2f,H2c,hd,hv⟩;refine I.un (h':=h'.push fo) (t':=tk) ⟨λb o e n _ _=>kp b o (nP b n) e,λb o e n _ _=>⟨o.slots,kp b o (nP b n) e⟩,λb o e n _=>?_,λb o e _=>?_,λb xs e=>H2s _ _ e,λb o u e=>H2s _ _ e,λb ps e=>⟨#[],by rw[H2s _ _ e];simp⟩⟩ λb u e=>?_
  ·obtain⟨o1,o2⟩:=old b o e;rw[H2n b o1 o2];exact n
  ·by_cases z:b=P
   ·rw[z];exact⟨_,gP'⟩
   ·exact⟨o,kp b o z e⟩
  ·by_cases z1:b=h'.objs.size
   ·rw[z1] at e ⊢;rw[H2f] at e;cases e;have fr:fo.isFreed=false:=by rw[<- ho];rfl
    exact⟨Qv _ fr,_,Qv _ fr⟩
   ·by_cases z2:b=c'
    ·rw[z2] at e ⊢;rw[H2c] at e;cases e;exact⟨Qd _ hoc,_,Qd _ hoc⟩
    ·rw[H2n b z1 z2] at e;by_cases z3:b=P
     ·rw[z3] at e ⊢;rw[eP] at e;cases e;refine⟨_,gP',?_,λpos' v hv'=>?_⟩
      ·rw[Qcg];exact TriplesOk_snoc _ _ _ _ tri
      ·rw[Qcg] at hv';rw[Qj7];rcases Qfq _ tri hv' with y | y
       ·obtain⟨c3,oc3,vs3,t3,e1,e2,e3,e4⟩:=cods pos' v y;exact⟨c3,oc3,vs3,t3,e1,H2s _ _ e2,e3,e4⟩
       ·exact⟨c',oc,vs,t,y,H2c,hd,hv⟩
     ·refine(I.hok b u e).stay (λc v hc q=>kp c v ?_ q) (λc r=>H2s _ _ r) (λc xs r=>H2s _ _ r) λc z u r=>H2s _ _ r
      rcases hc with rfl | hc
      ·exact z3
      ·exact λy=>by rw[y,eP] at hc;cases hc
 |some cv=>
  obtain⟨c',oc,vs,t,rfl,Hc,hd,hv⟩:=cods pos cv hca;refine PySem.W.kla_makeFunctionHit (mg:=X.mg) hcl I.ok.glob hgs hcode (hC.keeps I.bk) gP tri hca bat λctv h' tk hx hsz=>?_
  have hf0:H h'.objs.size=none:=I.hok.fresh hsz;refine⟨h'.objs.size,c',oc,vs,t,((X.mg "__name__").getD .none),ctv,upd H h'.objs.size (.frz (PySem.W.kla_obj "<lambda>" q params body lsc [(bn,cb)] ((X.mg "__name__").getD .none) c' ctv) (.own h'.objs.size)),rfl,?_,λb u e=>by rw[Jq (JL e hf0)];exact e,Ju,by rw[Jq (JL Hc hf0)];exact Hc,hd,hv⟩;exact I.laid (h':=h'.push _) (t':=tk) (λb u e=>Qd _ (hx b u e)) hsz ⟨Qv _ rfl,_,Qv _ rfl⟩
end
section
variable{X:Cx}{k:Nat}{fw:Addr}{fdw:QK}{ps2:List Str}{sp:Sp}{E0:XK}
def Qrh(sp:Sp)(E0:XK)(ib:Nat)(t:TE):TE:=λσ H Q=>t σ H λv H1=>∃(l:Addr)(xs:List V)(val:Nat->Int)(bv:V),v=.ref l/\H1 l=some (.lst xs)/\σ[ib]? = some (some bv) /\
 (∀(S:Addr)(i:Nat)(x:V),H1 S=none->xs[i]? = some x->∀H,YS S H1 H->sp [bv,x] H (λv H'=>v=.int (val i)/\Same H H') E0)/\(xs=[]->∀H',Same H1 H'->Q .non H')/\∀x,xs[bstI val (xs.length - 1)]? = some x->∀H',Same H1 H'->Q x H'
theorem QkQ{e:QV}{t:TE}{P c cb:Addr}{q bn pn wn:Str}{params:QeQ}{lsc:Yl}{ib:Nat}{p lp kp cp kp2 pos p1 p2 p3 bp:Pos}
  (F:FnOk X.prog X.w X.K X.mg X.base CX0 k fw fdw ps2 sp)(hr:Room (k+2) X.A)(hg:Gl X "min")(hm:X.mg "min" = none)(hb:Binds X.K fdw ps2 [])(hmw:X.mg wn=some (.ref fw))(hkw:PySem.W.keepIn X.K (.ref fw)=true)(hc:X.calm=true)
  (hT:TH P q X.H₀)(hq:q=X.env.qual ++ "<lambda>")(hC:PySem.W.CodeHd X.base c P)(hcode:X.env.code=.ref c)(hB:Qbz X.base X.mg)(hcl:closureFor lsc X.env=pure [(bn,cb)])(hdef:defaultsOf params X.env=([],[]))
  (hib:X.N[ib]? = some bn)(hkb:X.env.scope.names.lookup bn=some .cell)(hcb:X.env.cells.lookup bn=some cb)
  (sk:lsc.kind=.function)(sco:lsc.isCoroutine=false)(sge:lsc.isGenerator=false)(hcell:∀y∈lsc.names,y.2≠.cell)(hpn:lsc.names.lookup pn=some .local)(hbn:lsc.names.lookup bn=some .free)(hfr:∀y,lsc.names.lookup y=some .free->y=bn)
  (hwn:lsc.names.lookup wn=some .globalImplicit)(dp:(pn == ("__debug__" : Str))=false)(db:(bn == ("__debug__" : Str))=false)(dw:(wn == ("__debug__" : Str))=false)(dp2:(pn == ("__classdict__" : Str))=false)(db2:(bn == ("__classdict__" : Str))=false)
  (hbind:∀(pm ctv:Value)(c':Addr)(u:Value),bindArgs (PySem.W.kla_fn "<lambda>" q params (.Call (.Name wn p1) [.Name bn p2,.Name pn p3] [] bp) lsc [(bn,cb)] pm (.ref c') ctv) ⟨[u],[]⟩=pure [(pn,u)])
  (h:PE X e t)(he:starEach [e] X.env=(false,eval e X.env)::starEach [] X.env) :
  PE X (.Call (.Name "min" p) [e] [⟨some "key",.Lambda params (.Call (.Name wn p1) [.Name bn p2,.Name pn p3] [] bp) lsc lp,kp⟩,⟨some "default",.Constant .none 0 cp,kp2⟩] pos) (Qrh sp E0 ib t):=by
 intro pins s σ H Q I hh;refine YX (Qb3 I hg hm (by rfl) ?_ (by decide) (by decide));have hh:Qm5 t Qys σ H (λvs H1=>match vs with
   |[v]=>∃(l:Addr)(xs:List V)(val:Nat->Int)(bv:V),v=.ref l/\H1 l=some (.lst xs)/\σ[ib]? = some (some bv) /\
    (∀(S:Addr)(i:Nat)(x:V),H1 S=none->xs[i]? = some x->∀H,YS S H1 H->sp [bv,x] H (λv H'=>v=.int (val i)/\Same H H') E0)/\(xs=[]->∀H',Same H1 H'->Q .non H')/\∀x,xs[bstI val (xs.length - 1)]? = some x->∀H',Same H1 H'->Q x H'
   |_=>False):=hh
 refine PyProof.Rows.callWith_kw (thn ((QaX h YF he) pos pins s σ H _ I hh) λus s1 ⟨vs,H1,I1,r1,q1⟩=>?_) ?_ ?_ ?_ ?_
 ·dsimp only at q1
  split at q1
  ·obtain⟨l,xs,val,bv,rfl,hl,hσ,hk,hN,hQ⟩:=q1;obtain⟨u,rfl,ru⟩:=vals1 r1;cases ru;refine kws_cons (wpAny_mono (Qow I1 hT hq hC hcode hB hcl hdef) (λv s2 hv=>?_) λ_ _ y=>y);obtain⟨f,c',oc,vs,tt,pm,ctv,H2,rfl,I2,sm,hf,hcd,hd,hvs⟩:=hv;refine kws_cons (Constant_none (kws_nil ?_));show wpAny (model X.prog X.w) X.A (call (.builtin "min") [.ref l] [("key",.ref f),("default",.none)]) _ _ s2;have nS:∀S,H2 S=none->H1 S=none:=λS hS=>by
    cases y:H1 S with
    |none=>rfl
    |some o=>rw[sm _ _ y] at hS;cases hS
   refine Qgs (dv:=some (.non,.none)) hc I2 (sm _ _ hl) (λp hp=>by cases hp;rfl) (λS hS=>Qov F hr hb hmw hkw hc hf hcd hd hvs hS hib hσ hkb hcb sk sco sge hcell hpn hbn hfr hwn dp db dw dp2 db2 (hbind pm ctv c') λi x hx H3 kb=>hk S i x (nS S hS) hx H3 λb o hb e=>kb b o hb (sm _ _ e)) (λe=>⟨_,rfl,λH' s2=>hN e H' (sm.trans s2)⟩) λx hx H' s2=>hQ x hx H' (sm.trans s2)
  ·exact q1.elim
 ·rw[he];rfl
 ·rw[he];rfl
 ·rfl
 ·rfl
end
end L2
namespace Dl
open L2 _root_.Rd Rk
section
variable{X:Cx}{E:XK}
theorem Qhn{A:Addr->Prop}{H:Hp}:∀{xs:List V}{ds:List PyData},DAs A H xs ds->∀(i:Nat)(x:V),xs[i]? = some x->∃d,ds[i]? = some d/\DA A H x d
 |_,_,.nil,i,x,h=>nomatch h
 |_,_,.cons a b,0,x,h=>by cases h;exact⟨_,rfl,a⟩
 |_,_,.cons a b,i+1,x,h=>Qhn b i x h
theorem Qiu{A:Addr->Prop}{H:Hp}:∀{xs:List V}{ds:List PyData},DAs A H xs ds->xs.length=ds.length
 |_,_,.nil=>rfl
 |_,_,.cons _ b=>by rw[QM,QM,Qiu b]
end
end Dl
namespace L2
open PySem.Calls _root_.Rd _root_.Rk Dl
def spT(P:Addr)(q:Str)(sp:Sp):Sp:=λvs H Q E=>TH P q H/\sp vs H Q E
section
variable{X:Cx}{CX:CXT}{k:Nat}{f tP:Addr}{fd:QK}{ps:List Str}{sp:Sp}{dvs:List V}{ds:List Value}{E:XK}{x tq:Str}{p pos:Pos}{e:QV}{es:List QV}{t:TA}
theorem QnE(hT:TH tP tq X.H₀)(F:FnOk X.prog X.w X.K X.mg X.base CX k f fd ps (spT tP tq sp))(hr:Room k X.A)(hg:Gl X x)(hm:X.mg x=some (.ref f))(hk:PySem.W.keepIn X.K (.ref f)=true)(hb:Binds X.K fd ps ds)(hd:Vals dvs ds)(hx:Qa6 CX X E)
  (ha:PA X (e::es) t)(hdb:(x == ("__debug__" : Str))=false:=by decide)(he:starEach (e::es) X.env=(false,eval e X.env)::starEach es X.env:=by rfl)(hpl:(backTo pos (starEach es X.env)).any (·.1)=false:=by rfl) :
  PE X (.Call (.Name x p) (e::es) [] pos) (Qm6 sp dvs E t):=by
 intro pins s σ H Q I h;refine YX (Qhi I hg hm ?_ hdb);refine PySem.W.callWith_K (h₀:=X.base) I.ok.mod.kin hk (thn (ha pos pins s σ H _ I h) λus s1 ⟨vs,H1,I1,r,q⟩=>⟨I1.kIn,?_⟩) he hpl;exact Qo9 F hr hb hd hx I1 r ⟨I1.th hT,q⟩
end
section
variable{P:QN}{w:Jj}{K:PySem.W.Frag}{mg:Str->Option Value}{base:J8}
theorem Fun.okT{x qual:Str}{st:ZK}{f c:Addr}{fd:QK}{N ps:List Str}{k:Nat}{sp:Sp}(F:Fun K x qual st f fd)(hc:fd.code=.ref c)(S:Ji N ps (Ql st))(len:∀vs H Q E,sp vs H Q E->vs.length=ps.length)
  (hbody:∀(A:Jh)(outer:List Env)(s:Shared)(H:Hp)(vs:List V)(Q:VK)(E:XK),Room k (A.deeper (envOfC qual (Ql st) s.heap.objs.size f (.ref c)))->sp vs H Q E ->
   ∃t,PSs (Qjl CX0 P w K mg base N qual (Ql st) f (.ref c) A outer s H E).nox (Je st) t/\t { nx:=λ_ H'=>Q .non H',rt:=Q } (start N vs) H):FnOk P w K mg base CX0 (k+1) f fd ps sp:=by
 obtain⟨oc,od,kV,doc,pm,an,cdv,ct,osl,rfl,lk,hcd⟩:=F.ex;obtain rfl:cdv=.ref c:=hc;refine QvP lk hcd S len λA outer s H vs Q E hr hsp=>?_
 obtain⟨t,h,q⟩:=hbody A outer s H vs Q E hr hsp;exact⟨t,h.nox,q⟩
end
end L2
namespace Dl
open PySem.Calls L2 _root_.Rd Rk
section
variable{P:QN}{w:Jj}{K:PySem.W.Frag}{mg:Str->Option Value}{base:J8}
theorem Qzw{x qual:Str}{st:ZK}{f c tP:Addr}{tq:Str}{fd:QK}{N ps:List Str}{k:Nat}{fD:DF}(fr:Bool)(F:Fun K x qual st f fd)(hc:fd.code=.ref c)(S:Ji N ps (Ql st))(len:∀args R EX,fD args R EX->args.length=ps.length)
  (hbody:∀(A:Jh)(outer:List Env)(s:Shared)(H:Hp)(E:XK),Room k (A.deeper (envOfC qual (Ql st) s.heap.objs.size f (.ref c)))->TH tP tq H ->
   ∃wd,QSs (Qjl CX0 P w K mg base N qual (Ql st) f (.ref c) A outer s H E).nox E0 (Je st) wd/\∀args R EX,fD args R EX->wd (QlU fr R XF) (stD N args)):FnOk P w K mg base CX0 (k+1) f fd ps (spT tP tq (JE fr fD)):=by
 refine F.okT hc S (λvs H Q E h=>?_) λA outer s H vs Q E hr h=>?_
 ·obtain⟨_,A,pt,args,R,EX,_,_,q,h,_⟩:=h;rw[q.length];exact len _ _ _ h
 ·obtain⟨hT,A',pt,args,R,EX,dm,hpt,q,h,k,_⟩:=h;obtain⟨wd,hp,hw⟩:=hbody A outer s H E hr hT;exact⟨_,hp.h,⟨H,A',pt⟩,_,_,Qdm dm hpt q,hw args R EX h,Qhl (Ex:=E) (EX:=EX) k QmE⟩
end
section
variable{X:Cx}{E:XK}
theorem QkH{CX:CXT}{k:Nat}{f tP:Addr}{tq:Str}{fd:QK}{ps:List Str}{x:Str}{p pos:Pos}{e:QV}{es:List QV}{fD:DF}{wa:DSl}(hT:TH tP tq X.H₀)(G:FnOk X.prog X.w X.K X.mg X.base CX k f fd ps (spT tP tq (JE false fD)))(hr:Room k X.A)(hg:Gl X x)(hm:X.mg x=some (.ref f))(hk:PySem.W.keepIn X.K (.ref f)=true)(hb:Binds X.K fd ps [])(hx:Qa6 CX X E)
  (ha:QAs X E (e::es) wa)(hdb:(x == ("__debug__" : Str))=false:=by decide)(he:starEach (e::es) X.env=(false,eval e X.env)::starEach es X.env:=by rfl)(hpl:(backTo pos (starEach es X.env)).any (·.1)=false:=by rfl):QE .D X E (.Call (.Name x p) (e::es) [] pos) (Qjk fD wa):=
 ⟨PE.imp (QnE hT G hr hg hm hk hb .nil hx ha.h hdb he hpl) (QdM λh _=>h)⟩
@[irreducible] def Qcs(fD:DF)(bd:PyData):PyData->(PyData->Prop)->Prop
 |.list ds,Q=>∃val:Nat->Int,(∀(i:Nat) d,ds[i]? = some d->fD [.v bd,.v d] (λr=>r=.int (val i)) XF)/\(ds=[]->Q .none)/\∀d,ds[bstI val (ds.length - 1)]? = some d->Q d
 |_,_=>False
theorem Qlq{fD:DF}{bd:PyData}{ds:List PyData}{Q:PyData->Prop}(val:Nat->Int)(h1:∀(i:Nat) d,ds[i]? = some d->fD [.v bd,.v d] (λr=>r=.int (val i)) XF)(h0:ds=[]->Q .none)(h:∀d,ds[bstI val (ds.length - 1)]? = some d->Q d):Qcs fD bd (.list ds) Q:=by
 unfold Qcs;exact⟨val,h1,h0,h⟩
def vAt(ib:Nat)(δ:Sts)(k:PyData->Prop):Prop:=match δ[ib]? with
 |some (.v bd)=>k bd
 |_=>False
def Qtg(fD:DF)(ib:Nat)(w:DE):DE:=λδ Q EX=>w δ (λd=>vAt ib δ λbd=>Qcs fD bd d Q) EX
theorem QmY{ib:Nat}{δ:Sts}{k:PyData->Prop}(h:vAt ib δ k):∃bd,δ[ib]? = some (.v bd)/\k bd:=by
 unfold vAt at h;split at h
 ·rename_i bd e
  exact⟨bd,e,h⟩
 ·exact h.elim
theorem Qnq{k:Nat}{fw P c cb:Addr}{fdw:QK}{ps2:List Str}{fr:Bool}{fD:DF}{e:QV}{w:DE}{q bn pn wn:Str}{params:QeQ}{lsc:Yl}{p lp kp cp kp2 pos p1 p2 p3 bp:Pos}(ib:Nat)
  (G:FnOk X.prog X.w X.K X.mg X.base CX0 k fw fdw ps2 (JE fr fD))(hr:Room (k+2) X.A)(hg:Gl X "min")(hm:X.mg "min" = none)(hb:Binds X.K fdw ps2 [])(hmw:X.mg wn=some (.ref fw))(hkw:PySem.W.keepIn X.K (.ref fw)=true)
  (hT:TH P q X.H₀)(hC:PySem.W.CodeHd X.base c P)(hB:Qbz X.base X.mg)(hcode:X.env.code=.ref c)(hcb:X.env.cells.lookup bn=some cb)(hcl:closureFor lsc X.env=pure [(bn,cb)])(h:QE .P X E e w)(hq:q=X.env.qual ++ "<lambda>")(hdef:defaultsOf params X.env=([],[]))
  (hib:X.N[ib]? = some bn)(hkb:X.env.scope.names.lookup bn=some .cell)
  (sk:lsc.kind=.function)(sco:lsc.isCoroutine=false)(sge:lsc.isGenerator=false)(hcell:∀y∈lsc.names,y.2≠.cell)(hpn:lsc.names.lookup pn=some .local)(hbn:lsc.names.lookup bn=some .free)(hfr:∀y,lsc.names.lookup y=some .free->y=bn)
  (hwn:lsc.names.lookup wn=some .globalImplicit)(dp:(pn == ("__debug__" : Str))=false)(db:(bn == ("__debug__" : Str))=false)(dw:(wn == ("__debug__" : Str))=false)(dp2:(pn == ("__classdict__" : Str))=false)(db2:(bn == ("__classdict__" : Str))=false)
  (hbind:∀(pm ctv:Value)(c':Addr)(u:Value),bindArgs (PySem.W.kla_fn "<lambda>" q params (.Call (.Name wn p1) [.Name bn p2,.Name pn p3] [] bp) lsc [(bn,cb)] pm (.ref c') ctv) ⟨[u],[]⟩=pure [(pn,u)])
  (hc:X.calm=true)(hs:JH e=true) :
  QE .D X E (.Call (.Name "min" p) [e] [⟨some "key",.Lambda params (.Call (.Name wn p1) [.Name bn p2,.Name pn p3] [] bp) lsc lp,kp⟩,⟨some "default",.Constant .none 0 cp,kp2⟩] pos) (Qtg fD ib w):=by
 refine⟨PE.imp (QkQ (E0:=λ_ _ _=>False) G hr hg hm hb hmw hkw hc hT hq hC hcode hB hcl hdef hib hkb hcb sk sco sge hcell hpn hbn hfr hwn dp db dw dp2 db2 hbind h.h (Z1 hs)) λσ H Q ⟨F,δ,R,EX,rel,hw,k,o⟩=>?_⟩;refine⟨F,δ,_,EX,rel,hw,λd hd v H1 rel1 kp1 vk=>?_,o⟩;obtain⟨bd,eb,hd⟩:=QmY hd;have hd:Qcs fD bd d _:=hd;unfold Qcs at hd;split at hd
 ·rename_i ds
  obtain⟨val,hf,hN,hQ⟩:=hd;obtain⟨l,xs,rfl,e,q⟩:=DP.list vk;have ln:=Qiu q;have lb:ib < σ.length:=by rw[rel1.len];exact(Qs.mp eb).1
  obtain⟨bv,hbv,dbv⟩:=rel1.sl ib _ _ (Qg lb) eb;refine⟨l,xs,val,bv,rfl,e,by rw[Qg lb,hbv],λS i x hS hx H2 kb=>?_,λe0 H' sm=>?_,λx hx H' sm=>?_⟩
  ·obtain⟨d,hd,da⟩:=Qhn q i x hx;have mv:∀a o,¬Av F σ δ a->H1 a=some o->H2 a=some o:=λa o na ha=>kb a o (λz=>by rw[z,hS] at ha;cases ha) ha
   refine⟨Av F σ δ,λ_=>False,[.v bd,.v d],_,XF,λa ha=>?_,λp hp=>hp.elim,.cons ?_ (.cons ?_ .nil),hf i d hd,λd' e' v H' kq da' _=>?_,λC hC=>hC.elim⟩
   ·obtain⟨ys,hy⟩:=rel1.isl ha;exact⟨ys,kb a _ (λz=>by rw[z,hS] at hy;cases hy) hy⟩
   ·exact dbv.mv mv λa ha=>.inl ha
   ·exact da.mv mv λa ha=>.inl ha
   ·subst e';cases da';exact⟨rfl,λb o hb=>kq.1 b o (λz=>z) hb⟩
  ·exact k .none (hN (by rw[e0] at ln;exact Qd2 ln.symm)) .non H' (rel1.same sm) (kp1.trans (Kp.same rel1 sm)) .non
  ·rw[ln] at hx;obtain⟨d,hd,da⟩:=Qhn q _ x hx;exact k d (hQ d hd) x H' (rel1.same sm) (kp1.trans (Kp.same rel1 sm)) (da.same sm)
 ·exact hd.elim
end
end Dl
namespace L2
open PySem.Calls _root_.Rd _root_.Rk Dl
theorem Qlz{P:QN}{w:Jj}{K:PySem.W.Frag}{mg mb:Str->Option Value}{CX:CXT}{k:Nat}{fa a tc tP:Addr}{tq:Str}{fd:QK}{x:Str}{sp:Sp}{s₁:Shared}{vs:List Value}{ns:List Int}
  (hT:PySem.W.CodeHd s₁.heap tc tP)(hP:s₁.heap.get? tP=some (PySem.W.tabObj #[]))(hno:PySem.W.noTabs K=true)(hbm:Qbz s₁.heap mg)
  (KX:K.In s₁.heap)(hns:s₁.heap.Ns mainGlobals mg)(hb:s₁.heap.Ns builtinsNs mb)(hbb:∀x:Str,x ≠ "__name__" -> mb x=bootBuiltins x)(hlim:s₁.heap.NoLimit)(hg:s₁.gens=#[])
  (ha:s₁.heap.get? a=some { cls:=.type "list",data:=.seq vs.toArray })(hi:Qbp vs ns)(hl:ns.length<=sizeLine)(hr:Room k callerA)
  (F:∀base:J8,K.In base->base.Ns mainGlobals mg->PySem.W.CodeHd base tc tP->Qbz base mg->FnOk P w K mg base CX k fa fd [x] (spT tP tq sp))(hbind:∀(s:Shared)(u:Value),QmU s fd ⟨[u],[]⟩ [(x,u)])
  (hsp:∀H:Hp,SqL K H a (ns.map V.int)->sp [.ref a] H (λv _=>v=.bl true) λ_ _ _=>False)
  (hCX:∀H e s',CX [] H s₁ (λ_ _ _=>False) e s'->False) :
  codeAny (model P w) callerA (.call (.ref fa) ⟨[.ref a],[]⟩) (λr s'=>r=.ok (.ret (.bool true))/\OldK s₁.heap s'.heap/\s'.os=s₁.os/\QdX s'.gens) s₁:=by
 have rv:=QfQ hi;have lenV:=hi.length;have naP:a≠tP:=λz=>by rw[z,hP] at ha;cases ha
 have core:∀H:Hp,(∀b,H b=none∨(∃o xs,H b=some (.frz o (.lst xs)))∨b=tP)->H tP=some (.tbl #[.str tq 0])->SqL K H a (ns.map V.int)->HOk P w H s₁.heap->(∀b,H b≠none->b=a∨b=tP)->(H a≠none->K.lookup a=none) ->
   codeAny (model P w) callerA (.call (.ref fa) ⟨[.ref a],[]⟩) (λr s'=>r=.ok (.ret (.bool true))/\OldK s₁.heap s'.heap/\s'.os=s₁.os/\QdX s'.gens) s₁:=by
  intro H hO hTP hS hok hA hK;have base_of:∀{b:Addr}{o:Obj},s₁.heap.get? b=some o->H b=none->(QlJ s₁.heap H).get? b=some o:=λe n=>QoA e n
  have free_of:∀{b:Addr}{o:Obj},s₁.heap.get? b=some o->o≠PySem.W.tabObj #[]->(∀n,o≠{ cls:=.type "list",data:=.seq vs.toArray n })->H b=none:=λ{b o} e d1 d2=>by
   cases q:H b with
   |none=>rfl
   |some u=>
    rcases hA b (by rw[q];simp) with e' | e'
    ·subst e';rw[ha] at e;cases e;exact absurd rfl (d2 _)
    ·subst e';rw[hP] at e;cases e;exact absurd rfl d1
  have noA:∀{b:Addr}{o:Obj}{es:Array DictEntry}{ep:Nat},s₁.heap.get? b=some o->o.data=.dict es ep->H b=none:=λ{b o es ep} e d=>free_of e (λz=>by rw[z] at d;cases d) λn z=>by rw[z] at d;cases d
  have nsK:∀{b:Addr}{m:Str->Option Value},s₁.heap.Ns b m->(QlJ s₁.heap H).Ns b m:=λ{b m} ⟨o,es,ep,e,d,r⟩=>⟨o,es,ep,base_of e (noA e d),d,r⟩
  have hKb:K.In (QlJ s₁.heap H):=λb o e=>base_of (KX b o e) (by
   cases q:H b with
   |none=>rfl
   |some u=>
    rcases hA b (by rw[q];simp) with e' | e'
    ·subst e';rw[hK (by rw[q];simp)] at e;cases e
    ·subst e';have e2:=KX _ _ e;rw[hP] at e2;cases e2;have h2:=JM.mp hno (b,_) (PySem.W.mem_of_lookupK e);exact absurd (show false=true from h2) Qu)
  have hM:Mod K mg (QlJ s₁.heap H):=⟨hKb,nsK hns,⟨mb,nsK hb,hbb⟩,let ⟨mc,h1,h2⟩:=hlim;⟨mc,nsK h1,h2⟩⟩;have hC:PySem.W.CodeHd (QlJ s₁.heap H) tc tP:=by
   obtain⟨o,us,file,tf,flags,tg,inF,text,tt,e1,e2,r⟩:=id hT;exact⟨o,us,file,tf,flags,tg,inF,text,tt,base_of e1 (free_of e1 (λz=>by rw[z] at e2;cases e2) λn z=>by rw[z] at e2;injection e2 with e3;exact absurd e3 (by decide)),e2,r⟩
  have hB:Qbz (QlJ s₁.heap H) mg:=by
   obtain⟨bm,ob,b1,b2,b3,b4,b5,b6⟩:=id hbm;exact⟨bm,ob,b1,b2,base_of b3 (free_of b3 (λz=>by rw[z] at b4;cases b4) λn z=>by rw[z] at b4;injection b4 with b7;exact absurd b7 (by decide)),b4,b5,b6⟩
  have e0:Env0 P w K mg (QlJ s₁.heap H) callerA [] s₁ H:=⟨rfl,hM,λb o e=>QsD e,Qd1 (QlI _ _),trivial,λb hb=>absurd (show b∈([]:List Addr) from hb) (by simp),hok,.of_eq hg⟩;refine QcV ((F _ hKb (nsK hns) hC hB).run callerA [] s₁ H ⟨[.ref a],[]⟩ [.ref a] [.ref a] _ _ hr e0 (hbind s₁ (.ref a)) (.cons rfl .nil) ⟨⟨0,#[],by rw[hTP];rfl⟩,hsp H hS⟩) λr s' h=>?_
  cases r with
  |error e=>exact(hCX H e s' h).elim
  |ok fl=>
   cases fl with
   |next=>exact Zg h
   |brk=>exact Zg h
   |cont=>exact Zg h
   |ret u=>
    obtain⟨v,H',os,bare,un,hok',r',q⟩:=h;have q':v=.bl true:=q;subst q';obtain rfl:u=Ye true:=r';obtain⟨more,eT⟩:=un.tbls tP _ hTP;obtain⟨qs,gP,_⟩:=hok' tP _ eT;have keep:∀b o,b≠tP->s₁.heap.get? b=some o->s'.heap.get? b=some o:=λb o nb e=>by
     cases q:H b with
     |none=>exact un.keep b o e q (by intro z;exact absurd (show b∈([]:List Addr) from z) (by simp)) (by simp)
     |some u=>
      rcases hO b with z | ⟨ob,xs,z⟩ | z
      ·rw[q] at z;cases z
      ·have z2:=un.frzs b ob _ z;obtain⟨e1,_⟩:=hok b _ z;obtain⟨e2,_⟩:=hok' b _ z2;rw[e] at e1;cases e1;exact e2
      ·exact absurd z nb
    refine⟨rfl,⟨λb o e=>?_,λb o e=>?_⟩,os,bare⟩
    ·by_cases z:b=tP
     ·subst z;rw[hP] at e;cases e;exact .inr (.inl ⟨(hT.tab hP).isCodeTable,rfl,#[],qs,rfl,by rw[Array.empty_append];exact gP⟩)
     ·exact .inl (keep b o z e)
    ·by_cases z:b=tP
     ·subst z;exact⟨_,gP⟩
     ·exact⟨o,keep b o z e⟩
 have tblOk:∀H:Hp,ObjOk P w H s₁.heap tP (.tbl #[.str tq 0]):=λH=>⟨#[],hP,trivial,λpos v e=>nomatch e⟩
 cases hk:K.lookup a with
 |some o=>
  have e:=KX a o hk;rw[ha] at e;cases e;refine core (λb=>if b=tP then some (.tbl #[.str tq 0]) else none) (λb=>?_) (if_pos rfl) (.inr ⟨_,vs.toArray,_,hk,rfl,rfl,rfl,by rw[Qq,lenV];exact hl,by simpa using rv⟩) (λb u z=>?_) (λb z=>?_) λz=>absurd (if_neg naP) z
  ·by_cases hb:b=tP
   ·exact .inr (.inr hb)
   ·exact .inl (if_neg hb)
  ·by_cases hb:b=tP
   ·have z':=(if_pos hb).symm.trans z;cases z';subst hb;exact tblOk _
   ·have z':=(if_neg hb).symm.trans z;cases z'
  ·by_cases hb:b=tP
   ·exact .inr hb
   ·exact absurd (if_neg hb) z
 |none=>
  refine core (λb=>if b=tP then some (.tbl #[.str tq 0]) else if b=a then some (.frz { cls:=.type "list",data:=.seq vs.toArray } (.lst (ns.map V.int))) else none) (λb=>?_) (if_pos rfl) (.inl (.inr ⟨{ cls:=.type "list",data:=.seq vs.toArray },(if_neg naP).trans (if_pos rfl)⟩)) (λb u z=>?_) (λb z=>?_) λ_=>hk
  ·by_cases hb:b=tP
   ·exact .inr (.inr hb)
   ·by_cases hb2:b=a
    ·exact .inr (.inl ⟨_,_,(if_neg hb).trans (if_pos hb2)⟩)
    ·exact .inl ((if_neg hb).trans (if_neg hb2))
  ·by_cases hb:b=tP
   ·have z':=(if_pos hb).symm.trans z;cases z';subst hb;exact tblOk _
   ·by_cases hb2:b=a
    ·have z':=((if_neg hb).trans (if_pos hb2)).symm.trans z;cases z';subst hb2;exact⟨ha,by rw[Qe];exact hl,vs,_,rv,ha⟩
    ·have z':=((if_neg hb).trans (if_neg hb2)).symm.trans z;cases z'
  ·by_cases hb:b=tP
   ·exact .inr hb
   ·by_cases hb2:b=a
    ·exact .inl hb2
    ·exact absurd ((if_neg hb).trans (if_neg hb2)) z
theorem QmX{tc tP:Addr}{tq:Str}{l:PySem.W.OpenLaw}{n k:Nat}{q:QN}{loose:List Str}{XP:(Str->Option Value)->J8->Prop}{YP:Jj->J8->Prop}{d:DefRec}{K:Params->PySem.W.Frag}{CX:Jj->CXT}{sp:Jj->Sp}{x:Str}
  (hn:l.most=some n)(hn2:n<=sizeLine)(hdf:d.params.defaults=[])(hr:Room k callerA)
  (hY:∀(w:Jj)(h:J8),YP w h->(K w.params).In h)
  (F:∀(w:Jj)(mg:Str->Option Value)(fa:Addr)(h:J8),(K w.params).In h->h.Ns mainGlobals mg->mg d.name=some (.ref fa) ->
   ∃fd:QK,(∀(s:Shared)(u:Value),QmU s fd ⟨[u],[]⟩ [(x,u)]) /\
    ∀base:J8,(K w.params).In base->base.Ns mainGlobals mg->PySem.W.CodeHd base tc tP->Qbz base mg->FnOk l.prog w (K w.params) mg base (CX w) k fa fd [x] (spT tP tq (sp w)))
  (hno:∀w:Jj,PySem.W.noTabs (K w.params)=true) (hTb:∀(w:Jj)(h:J8),YP w h->h.get? tP=some (PySem.W.tabObj #[])) (hCd:∀w:Jj,PySem.W.codeHdIn (K w.params) tc tP=true)
  (hsp:∀(w:Jj)(H:Hp)(a:Addr)(ns:List Int),ns.length<=n->SqL (K w.params) H a (ns.map V.int)->sp w [.ref a] H (λv _=>v=.bl true) λ_ _ _=>False)
  (hCX:∀(w:Jj)(H:Hp)(s:Shared)(e:Value)(s':Shared),CX w [] H s (λ_ _ _=>False) e s'->False) :
  PySem.W.WalkO q loose XP YP l.row.toRowW d [] (λf vs=>PySem.call f vs):=by
 refine Att.Qhw hn hdf λw s₀ s₁ mg mb fa o pm cd doc a vs ns G Y ho hd hcd hmg hobj hints hlen hg=>?_
 have KX:=hY w _ Y;obtain⟨fd,hb,hF⟩:=F w mg fa _ KX G.T.g hmg;exact Qlz (PySem.W.codeHd_of_K KX (hCd w)) (hTb w _ Y) (hno w) G.T.bmain KX G.T.g G.T.b G.T.builtins G.T.nolimit hg hobj hints (Q1 hlen hn2) hr hF hb (λH hS=>hsp w H a ns hlen hS) λH e s'=>hCX w H s₁ e s'
end L2
namespace Dl
open PySem.Calls L2 _root_.Rd Rk
section
variable{P:QN}{w:Jj}{K:PySem.W.Frag}{mg:Str->Option Value}{base:J8}
theorem Qvp{tP:Addr}{tq:Str}{x qual:Str}{st:ZK}{f:Addr}{fd:QK}{N:List Str}{p:Str}{k:Nat}(F:Fun K x qual st f fd)(S:Ji N [p] (Ql st))
  (hbody:∀(cdv:Value)(A:Jh)(outer:List Env)(s:Shared)(H:Hp)(E:XK),Room k (A.deeper (envOfC qual (Ql st) s.heap.objs.size f cdv))->TH tP tq H ->
   ∃wd,PSs (Qjl CX0 P w K mg base N qual (Ql st) f cdv A outer s H E).nox (Je st) (tS K E0 wd)/\wd QvV (stD N [.scr])):FnOk P w K mg base CX0 (k+1) f fd [p] (spT tP tq (Qd7 K)):=by
 refine F.ok S (λvs H Q E h=>?_) λcdv A outer s H vs Q E hr h=>?_
 ·obtain⟨_,a,ns,rfl,_⟩:=h;rfl
 ·obtain⟨wd,hp,hw⟩:=hbody cdv A outer s H E hr h.1;obtain⟨_,a,ns,rfl,sq,n63,k⟩:=h;have get0:∀(i:Nat) o y,(L2.start N [V.ref a])[i]? = some o->(stD N [.scr])[i]? = some y->y≠.no->o=some (.ref a)/\y=.scr:=λi o y h1 h2 hy=>by
   cases i with
   |zero=>cases h1;cases h2;exact⟨rfl,rfl⟩
   |succ i=>
    unfold stD at h2;rw[ZA (by simp),Zr] at h2;split at h2
    ·exact absurd (Qr h2).symm hy
    ·cases h2
  have noav:∀b,¬Av (⟨H,λ_=>False,λ_=>False⟩:Fm) (L2.start N [V.ref a]) (stD N [.scr]) b:=λb z=>by
   rcases z with z | ⟨i,h1,h2⟩
   ·exact z
   ·rcases h2 with h2 | ⟨ds,h2⟩
    ·cases(get0 i _ _ h1 h2 (λz=>by cases z)).2
    ·cases(get0 i _ _ h1 h2 (λz=>by cases z)).2
  refine⟨_,hp,⟨H,λ_=>False,λ_=>False⟩,_,_,?_,hw,?_⟩
  ·exact{
    len:=by unfold L2.start stD;simp
    dom:=λ_ h=>h.elim
    dom0:=λ_ h=>h.elim
    pt0:=λ_ h=>h.elim
    kx:=λ_ _ _ e=>e
    sl:=λi o y h1 h2=>by
     cases y with
     |no=>trivial
     |scr=>
      obtain⟨rfl,_⟩:=get0 i _ _ h1 h2 (λz=>by cases z);exact⟨a,ns,rfl,sq,λz=>z,n63⟩
     |v d=>cases(get0 i _ _ h1 h2 (λz=>by cases z)).2
     |own d=>cases(get0 i _ _ h1 h2 (λz=>by cases z)).2
     |pk d=>cases(get0 i _ _ h1 h2 (λz=>by cases z)).2
     |pot=>cases(get0 i _ _ h1 h2 (λz=>by cases z)).2
    inj:=λi j b ds h1 h2 _=>by cases(get0 i _ _ h2 h1 (λz=>by cases z)).2 }
  ·exact{
    nx:=⟨λ_ h=>h.elim⟩
    rt:=λd h v H' ke dv=>by cases(show d=.bool true from h);cases dv;exact k H'
    rtF:=λd h v H' ke dv _=>by cases(show d=.bool true from h);cases dv;exact k H'
    bk:=⟨λ_ h=>h.elim⟩
    ct:=⟨λ_ h=>h.elim⟩
    ex:=QmE }
theorem QxX{tP:Addr}{tq:Str}{x qual:Str}{st:ZK}{f:Addr}{fd:QK}{N:List Str}{p:Str}{k:Nat}(F:Fun K x qual st f fd)(S:Ji N [p] (Ql st))
  (hbody:∀(cdv:Value)(A:Jh)(outer:List Env)(s:Shared)(H:Hp)(E:XK),Room k (A.deeper (envOfC qual (Ql st) s.heap.objs.size f cdv))->TH tP tq H ->
   ∃wd,QSs (Qjl CX0 P w K mg base N qual (Ql st) f cdv A outer s H E).nox E0 (Je st) wd/\wd QvV (stD N [.scr])):FnOk P w K mg base CX0 (k+1) f fd [p] (spT tP tq (Qd7 K)):=
 Qvp F S λcdv A outer s H E hr hT=>let ⟨wd,h,q⟩:=hbody cdv A outer s H E hr hT;⟨wd,h.h,q⟩
end
end Dl
namespace L2
open Sem (wp)
open Builtin
section
variable{X:Cx}
end
end L2
namespace Dl
open L2 _root_.Rd Rk Rt
end Dl
namespace L2
section
variable{X:Cx}{pins:List (Addr×Obj)}{σ:St}{H H3:Hp}{s3:Shared}{M:List Str}{scope:Yl}{cap:List (Option Nat)}{fp:List Addr}{h4:J8}{t4:Nat}
end
section
variable{X:Cx}{pins:List (Addr×Obj)}{σ:St}{H:Hp}
end
end L2
namespace Rk
open L2 _root_.Rd Dl
end Rk
namespace Dl
open L2
section
variable{X:Cx}{E:XK}
end
end Dl
namespace Rk
open L2 _root_.Rd Dl Rt
end Rk
namespace Rk
open L2 _root_.Rd
def top(i:Nat):ZK:=PySem.Challenge.pw_rooklands_k75_whole_weights.main.body.getD i (.Pass ⟨0,0,0,0⟩)
abbrev Qd9:ZK:=top 8
abbrev Qcl:ZK:=top 9
abbrev Qco:ZK:=top 10
abbrev Qec:ZK:=top 11
abbrev Qeh:ZK:=top 14
abbrev Qeb:ZK:=top 15
abbrev Qcm:ZK:=top 17
abbrev QiW:ZK:=top 18
abbrev Qcn:ZK:=top 19
abbrev Qef:ZK:=top 22
abbrev Qi1:ZK:=top 23
abbrev Qi2:ZK:=top 24
abbrev QiY:ZK:=top 25
abbrev Qi0:ZK:=top 27
abbrev Qea:ZK:=top 29
abbrev Qej:ZK:=top 30
abbrev Qeg:ZK:=top 31
abbrev sFol:ZK:=top 32
abbrev QiU:ZK:=top 33
abbrev Qee:ZK:=top 37
abbrev Qei:ZK:=top 38
abbrev Qcp:ZK:=top 39
abbrev sByW:ZK:=top 40
abbrev Qed:ZK:=top 41
abbrev sWt:ZK:=top 42
abbrev QiZ:ZK:=top 43
abbrev QiX:ZK:=top 44
abbrev QiV:ZK:=top 45
abbrev Qcx:ZK:=top 47
abbrev lPot:ZK:=top 48
abbrev Qjd:ZK:=top 49
abbrev Qcw:ZK:=top 50
abbrev Qes:ZK:=top 51
abbrev lTog:ZK:=top 52
abbrev lSum:ZK:=top 53
abbrev Qet:ZK:=top 54
abbrev sLaw:ZK:=top 55
section
variable{P:QN}{w:Jj}{K:PySem.W.Frag}{mg:Str->Option Value}{base:J8}
theorem Qnj:Ji ["_law_script", "_law_k"] ["_law_script", "_law_k"] (Ql Qcx):=⟨rfl,rfl,rfl,by decide +kernel,rfl,by decide +kernel,by decide +kernel⟩
theorem Qla{f:Addr}{fd:QK}(F:Fun K "_law_cell_at" "_law_cell_at" Qcx f fd)(T:GlbA mg):FnOk P w K mg base CX0 1 f fd ["_law_script", "_law_k"] (QbX K):=by
 refine F.ok Qnj (λvs H Q E h=>?_) (λcdv A outer s H vs Q E hr h=>?_)
 ·obtain⟨a,ns,k,rfl,_⟩:=h;rfl
 ·obtain⟨a,ns,n,rfl,hs,hl,h0,k⟩:=h;refine⟨_,YZ (QrM (Qg4 Qn2 (pv 1) (Qb0 Qa4 (by rfl) T.len Yi (QaX (pv 0) YF)) (Zc _)) (QbH (QcR (QnB Qfj (pv 0) (pv 1) (λ_ _=>rfl)))) Qg5) (QbH (QcR Yr)),?_⟩;refine⟨_,rfl,_,rfl,a,_,rfl,.inl hs,_,_,rfl,rfl,_,rfl,?_⟩;refine QyQ (λhlt=>?_) (λ_=>k 0);have hlt':n<(ns.map V.int).length:=of_decide_eq_true hlt;rw[Qe] at hlt';obtain⟨j,rfl⟩:=Int.eq_ofNat_of_zero_le h0;have hj:j<ns.length:=by omega
  refine⟨_,rfl,_,rfl,a,_,_,.int ns[j],rfl,rfl,hs,Ya ?_,k _⟩;rw[Qh,Qg hj];rfl
theorem QiT:Ji ["_law_cell", "_law_number", "_law_j", "_law_more"] ["_law_cell"] (Ql lPot):=⟨rfl,rfl,rfl,by decide +kernel,rfl,by decide +kernel,by decide +kernel⟩
theorem Qvk{f:Addr}{fd:QK}(F:Fun K "_law_pot" "_law_pot" lPot f fd)(T:GlbA mg):FnOk P w K mg base CX0 1 f fd ["_law_cell"] Qug:=by
 refine F.ok QiT (λvs H Q E h=>?_) (λcdv A outer s H vs Q E hr h=>?_)
 ·obtain⟨c,rfl,_⟩:=h;rfl
 ·obtain⟨c,rfl,k⟩:=h;refine⟨_,YZ (QrM (Qg4 Qsp (pv 0) (Qaz Qpj Yr Yr) (Zc _)) (QbH (QcR (Qpi (QaX (Qaz Qbx (pv 0) (Qaz Qpj Yr Yr)) YF)))) Qg5)
   (YZ (QcQ (i:=1) QiT.nd rfl (Q4 rfl) Yr)
   (YZ (Qpe Q8 rfl (Qga (by rfl) T.range (QaX Yr YF)) (Qg9 (i:=2) QiT.nd rfl (Q4 rfl))
    (YZ (QcQ (i:=3) QiT.nd rfl (Q4 rfl) (Qaz Qic (Qaz Qem (Qaz Qen (Qaz Qen (Qaz Qic (pv 0) Yr) (Qaz Qem Yr (pv 2))) Yr) Yr) Yr))
    (YZ (QcQ (i:=3) QiT.nd rfl (Q4 rfl) (Qaz Qic (Qaz Qen (Qaz Qen (Qaz Qem (pv 3) (pv 3)) (Qaz Qem Yr (pv 2))) Yr) Yr))
    (QbH (QcQ (i:=1) QiT.nd rfl (Q4 rfl) (Qaz Qen (Qaz Qem (pv 1) Yr) (pv 3)))))))
   (QbH (QcR (Qpi (QaX (pv 1) YF)))))),?_⟩
  refine⟨_,rfl,_,_,rfl,rfl,⟨by decide,by decide,by decide⟩,_,_,rfl,rfl,_,rfl,?_⟩;refine QyQ (λ_=>?_) (λ_=>?_)
  ·exact⟨_,rfl,_,_,rfl,rfl,⟨by decide,by decide,by decide⟩,_,_,rfl,rfl,by show 1<=sizeLine;decide,λp hp=>k p _ hp⟩
  ·refine⟨64,rfl,by decide,by decide,QlO (n:=64) (λi σ H2=>∃n v u,σ=[some (.int c),some (.int n),v,u]/\H2=H) ⟨0,none,none,rfl,rfl⟩ ?_ ?_⟩
   ·rintro i σ H2 hi ⟨n,v,u,rfl,rfl⟩;have b1:=Qiq ((c % 2147483629+7919*(0+(i:Int))+1)*48271) (m:=2147483647) (by decide);refine⟨_,rfl,_,_,rfl,rfl,by show(0:Int)<2147483629;decide,_,rfl,_,_,rfl,rfl,.inl ⟨by decide,by decide⟩,_,_,rfl,rfl,_,_,rfl,rfl,_,_,rfl,rfl,.inr ⟨by decide,by decide⟩,_,_,rfl,rfl,by show(0:Int)<2147483647;decide,?_⟩;refine⟨_,rfl,_,rfl,_,_,rfl,rfl,.inl ⟨by omega,by omega⟩,_,rfl,_,_,rfl,rfl,.inl ⟨by decide,by decide⟩,_,_,rfl,rfl,_,_,rfl,rfl,_,_,rfl,rfl,by show(0:Int)<2147483587;decide,?_⟩;exact⟨_,rfl,_,_,rfl,rfl,.inr ⟨by decide,by decide⟩,_,rfl,_,_,rfl,rfl,_,_,_,rfl,rfl⟩
   ·rintro σ H2 ⟨n,v,u,rfl,rfl⟩;exact⟨_,rfl,by show 1<=sizeLine;decide,λp hp=>k p _ hp⟩
theorem Qo8:Ji ["_law_pot_here", "_law_far", "_law_found"] ["_law_pot_here", "_law_far"] (Ql Qjd):=⟨rfl,rfl,rfl,by decide +kernel,rfl,by decide +kernel,by decide +kernel⟩
theorem Qst{f:Addr}{fd:QK}(F:Fun K "_law_take" "_law_take" Qjd f fd)(T:GlbA mg):FnOk P w K mg base CX0 1 f fd ["_law_pot_here", "_law_far"] QhV:=by
 refine F.ok Qo8 (λvs H Q E h=>?_) (λcdv A outer s H vs Q E hr h=>?_)
 ·obtain⟨p,n,m,rfl,_⟩:=h;rfl
 ·obtain⟨p,n,m,rfl,hp,h0,h1,k⟩:=h;refine⟨_,YZ (QcQ (i:=2) Qo8.nd rfl (Q4 rfl) (Qaz Qic (QnB Qfj (pv 0) Yr (λ_ _=>rfl)) (pv 1)))
   (YZ (QkK (Qaz Qn5 (QnB Qfj (pv 0) Yr (λ_ _=>rfl)) (pv 1)) (Qph (pv 0) Yr QeZ))
   (QbH (QcR (pv 2)))),?_⟩
  have b:=Qiq n h0;exact⟨_,rfl,p,_,_,_,rfl,rfl,SqL.of hp,rfl,_,rfl,_,_,rfl,rfl,h0,_,rfl,p,_,_,_,rfl,rfl,SqL.of hp,rfl,_,rfl,_,_,rfl,rfl,⟨h0,h1⟩,_,rfl,p,_,_,_,rfl,rfl,hp,rfl,_,rfl,k _ _ b.1 b.2⟩
end
end Rk
namespace Rk
open L2 _root_.Rd
open Dl
open Rt
section
variable{P:QN}{w:Jj}{K:PySem.W.Frag}{mg:Str->Option Value}{base:J8}
theorem Qnb:Ji ["thing"] ["thing"] (Ql Qd9):=⟨rfl,rfl,rfl,by decide +kernel,rfl,by decide +kernel,by decide +kernel⟩
theorem Qn6{f   : Addr}{fd  : QK}(F:Fun K "is_whole" "is_whole" Qd9 f fd)(T:GlbA mg) :
  FnOk P w K mg base CX0 1 f fd ["thing"] (JE false QjZ):=by
 refine okQ false F Qnb (λargs R EX h=>?_) (λcdv A outer s H E hr=>?_)
 ·obtain⟨d,rfl,_⟩:=h;rfl
 ·have hU:=Room.u60 hr;have hI:=Room.i60 hr;refine⟨_,QZ (ZW (QdZ (QP (Qf6 .int (by rfl) T.isinstance (qp 0) (by rfl) T.int Qmk)) (Qc0 (Quy (QP (Qf6 .bool (by rfl) T.isinstance (qp 0) (by rfl) T.bool Qts)))))),λargs R EX h=>?_⟩;obtain⟨d,rfl,hR⟩:=h;cases d<;>exact hR
theorem Qkp:Ji ["thing", "least", "most"] ["thing", "least", "most"] (Ql Qcl):=⟨rfl,rfl,rfl,by decide +kernel,rfl,by decide +kernel,by decide +kernel⟩
theorem Qk4{f f1  : Addr}{fd fd1:QK}(F:Fun K "is_whole_within" "is_whole_within" Qcl f fd)(T:GlbA mg)
  (m1:mg "is_whole" = some (.ref f1))(G1:FnOk P w K mg base CX0 1 f1 fd1 ["thing"] (JE false QjZ))(b1:Binds K fd1 ["thing"] [])(k1:PySem.W.keepIn K (.ref f1)=true) :
  FnOk P w K mg base CX0 2 f fd ["thing", "least", "most"] (JE false QbE):=by
 refine okQ false F Qkp (λargs R EX h=>?_) (λcdv A outer s H E hr=>?_)
 ·obtain⟨d,a,b,rfl,_⟩:=h;rfl
 ·have hU:=Room.u60 hr;have hI:=Room.i60 hr;refine⟨_,QZ (ZW (QdZ (Jg (JY G1 (hr.mono (by decide)) (by rfl) m1 k1 b1 JK (Zu (qv 0) Jo))) (Qc0 (Zi (Qzv Qi8 Qi8 (qp 1) (qp 0) (qp 2)))))),λargs R EX h=>?_⟩;obtain⟨d,a,b,rfl,hR⟩:=h;refine⟨d,rfl,?_⟩;cases d with
  |int i=>exact Qx3 (Qwf hR)
  |_=>exact hR
theorem Qep:(["one", "other"]:List Str).Nodup:=by decide +kernel
theorem Qks:Ji ["things"] ["things"] (Ql Qco):=⟨rfl,rfl,rfl,by decide +kernel,rfl,by decide +kernel,by decide +kernel⟩
theorem Qk8{f   : Addr}{fd  : QK}(F:Fun K "is_rising" "is_rising" Qco f fd)(T:GlbA mg) :
  FnOk P w K mg base CX0 1 f fd ["things"] (JE false QgZ):=by
 refine okQ false F Qks (λargs R EX h=>?_) (λcdv A outer s H E hr=>?_)
 ·obtain⟨ds,rfl | rfl,_⟩:=h<;>rfl
 ·have hU:=Room.u60 hr;have hI:=Room.i60 hr;refine⟨_,QZ (Qay (Js Qb6 (Qgq rfl) (by rfl) T.all Qgv (YB (QP (QaF ["one", "other"] [none,none] (QxE (QkF (by rfl) T.zip (qp 0) (QP (Qe8 (qp 0) (Qe6 (Jg JA)) Qe7))) (QkG (by rfl) T.zip (qp 0) (QP (Qe8 (qp 0) (Qe6 (Jg JA)) Qe7)))) (λcl ex s3 H3 C=>⟨(Y8 rfl (JJ 0 (JJ 1 Y9 Qep rfl (Q4 rfl) (Q0 rfl)) Qep rfl (Q4 rfl) (Q0 rfl))),Z2,(Zi (QbG (Qva hU) Qvq (qp 0) (qp 1) (Zc _)))⟩))) Jb))),λargs R EX h=>?_⟩;obtain⟨ds,h,hc,hR⟩:=h;have go:∀d∈Qd5 ds (Dl.cutD ds (some 1) none),∃a b,d=.tuple [a,b]/\(okK a=true/\okK b=true/\QmG a b=true/\a.depth<=20):=λd hd=>by
   obtain⟨i,hi⟩:=Jw.mp hd;obtain⟨a,b,ha,hb,rfl⟩:=Dl.zip_get hi;have ma:=Qz ha;have mb:=Qiv (Qz hb);exact⟨a,b,rfl,(hc a ma).1,(hc b mb).1,(hc a ma).2.2 b mb,(hc a ma).2.1⟩
  rcases h with rfl | rfl
  ·refine .inl (Qab (λd=>.bool (Qvv d)) (λd hd k2 hk=>?_) (QcF (items:=Qd5 ds (Dl.cutD ds (some 1) none)) rfl (by rw[Qdh];exact hR)));obtain⟨a,b,rfl,q⟩:=go d hd;exact⟨rfl,q,hk⟩
  ·refine .inr (Qab (λd=>.bool (Qvv d)) (λd hd k2 hk=>?_) (QcF (items:=Qd5 ds (Dl.cutD ds (some 1) none)) rfl (by rw[Qdh];exact hR)));obtain⟨a,b,rfl,q⟩:=go d hd;exact⟨rfl,q,hk⟩
theorem Qnd:Ji ["high", "wide", "thing"] ["high", "wide", "thing"] (Ql Qeb):=⟨rfl,rfl,rfl,by decide +kernel,rfl,by decide +kernel,by decide +kernel⟩
theorem Qoa{f f1  : Addr}{fd fd1:QK}(F:Fun K "is_place" "is_place" Qeb f fd)(T:GlbA mg)
  (m1:mg "is_whole_within" = some (.ref f1))(G1:FnOk P w K mg base CX0 2 f1 fd1 ["thing", "least", "most"] (JE false QbE))(b1:Binds K fd1 ["thing", "least", "most"] [])(k1:PySem.W.keepIn K (.ref f1)=true) :
  FnOk P w K mg base CX0 3 f fd ["high", "wide", "thing"] (JE false QkO):=by
 refine okQ false F Qnd (λargs R EX h=>?_) (λcdv A outer s H E hr=>?_)
 ·obtain⟨h,w,d,rfl,_⟩:=h;rfl
 ·have hU:=Room.u60 hr;have hI:=Room.i60 hr;refine⟨_,QH (QaU (Qnp (QkC (QaS (QaR (QP (Qf6 .tuple (by rfl) T.isinstance (qp 2) (by rfl) T.tuple Qbl)))) (Qf5 (YA Qb1 (Qfc hU) (QP (Js J1 YG (by rfl) T.len Yi (YB (qp 2) Jb))) (Jg JA) (Zc _))))) (QZ (ZW QkI)) Z3)
   (QZ (ZW (QdZ (Jg (JY G1 (hr.mono (by decide)) (by rfl) m1 k1 b1 JK (Zu (Qek Yt Qar (qp 2) (Jg JA) (λ_ _=>rfl)) (Zu JA (Zu (Zi (ZE Qbx Qb2 (qp 0) (Jg JA))) Jo))))) (Qc0 (JY G1 (hr.mono (by decide)) (by rfl) m1 k1 b1 JK (Zu (Qek Yt Qar (qp 2) (Jg JA) (λ_ _=>rfl)) (Zu JA (Zu (Zi (ZE Qbx Qb2 (qp 1) (Jg JA))) Jo)))))))),λargs R EX h=>?_⟩
  obtain⟨h,w,d,rfl,hR⟩:=h;cases d with
  |tuple ds=>
   match ds,hR with
   |[a,b],hR=>
    refine⟨a,rfl,_,_,_,rfl,?_⟩;refine QdR hR λ_ hR=>?_
    exact⟨b,rfl,_,_,_,rfl,hR⟩
   |[],hR=>exact hR
   |[_],hR=>exact hR
   |a::b::c::r,hR=>
    exact hR
  |_=>exact hR
theorem Qln:(["part", "high", "wide"]:List Str).Nodup:=by decide +kernel
theorem Qni:Ji ["high", "wide", "thing"] ["high", "wide", "thing"] (Ql Qeh):=⟨rfl,rfl,rfl,by decide +kernel,rfl,by decide +kernel,by decide +kernel⟩
theorem Qog{f f1 f2  : Addr}{fd fd1 fd2:QK}(F:Fun K "is_cells" "is_cells" Qeh f fd)(T:GlbA mg)
  (m1:mg "is_place" = some (.ref f1))(G1:FnOk P w K mg base CX0 3 f1 fd1 ["high", "wide", "thing"] (JE false QkO))(b1:Binds K fd1 ["high", "wide", "thing"] [])(k1:PySem.W.keepIn K (.ref f1)=true)
  (m2:mg "is_rising" = some (.ref f2))(G2:FnOk P w K mg base CX0 1 f2 fd2 ["things"] (JE false QgZ))(b2:Binds K fd2 ["things"] [])(k2:PySem.W.keepIn K (.ref f2)=true) :
  FnOk P w K mg base CX0 4 f fd ["high", "wide", "thing"] (JE false Qmd):=by
 refine okQ false F Qni (λargs R EX h=>?_) (λcdv A outer s H E hr=>?_)
 ·obtain⟨h,w,d,rfl,_⟩:=h;rfl
 ·have hU:=Room.u60 hr;have hI:=Room.i60 hr;refine⟨_,QH (QaU (QaS (QaR (QP (Qf6 .tuple (by rfl) T.isinstance (qp 2) (by rfl) T.tuple Qbl)))) (QZ (ZW QkI)) Z3)
   (QZ (ZW (QdZ (QP (Js Qb6 (Qgq rfl) (by rfl) T.all Qgv (YB (QP (QaF ["part", "high", "wide"] [none,some 0,some 1] (QaV (qp 2)) (λcl ex s3 H3 C=>⟨(Zp 0 Qln rfl (Q4 rfl) (Q0 rfl)),Z2,(JY G1 (hr.mono (by decide)) (by rfl) m1 k1 b1 JK (Zu (qv 1) (Zu (qv 2) (Zu (qv 0) Jo))))⟩))) Jb))) (Qc0 (JY G2 (hr.mono (by decide)) (by rfl) m2 k2 b2 JK (Zu (qv 2) Jo)))))),λargs R EX h=>?_⟩
  obtain⟨h,w,d,rfl,hR⟩:=h;cases d with
  |tuple ds=>
   refine Qab (λd=>.bool (Qje h w d)) (λd hd k2 hk=>⟨_,_,_,rfl,hk⟩) (QcF (items:=ds) rfl ?_);refine QdR hR λha hR=>?_
   obtain⟨L,rfl,_⟩:=Qh9 ha;exact⟨_,.inl rfl,Qgp L,hR⟩
  |_=>exact hR
theorem Qgg:(["row", "column"]:List Str).Nodup:=by decide +kernel
theorem Qgf:(["row", "column"]:List Str).Nodup:=by decide +kernel
theorem Qe2:Ji ["cells", "rows", "columns"] ["cells"] (Ql Qej):=⟨rfl,rfl,rfl,by decide +kernel,rfl,by decide +kernel,by decide +kernel⟩
theorem Qoh{f   : Addr}{fd  : QK}(F:Fun K "are_apart" "are_apart" Qej f fd)(T:GlbA mg) :
  FnOk P w K mg base CX0 1 f fd ["cells"] (JE false Qms):=by
 refine okQ false F Qe2 (λargs R EX h=>?_) (λcdv A outer s H E hr=>?_)
 ·obtain⟨L,rfl,_⟩:=h;rfl
 ·have hU:=Room.u60 hr;have hI:=Room.i60 hr;refine⟨_,QH (Qe5 ["row", "column"] [none,none] 1 Qe2.nd (QaV (qp 0)) (λcl ex s3 H3 C=>⟨(Y8 rfl (JJ 0 (JJ 1 Y9 Qgg rfl (Q4 rfl) (Q0 rfl)) Qgg rfl (Q4 rfl) (Q0 rfl))),Z2,(qv 0)⟩))
   (QH (Qe5 ["row", "column"] [none,none] 2 Qe2.nd (QaV (qp 0)) (λcl ex s3 H3 C=>⟨(Y8 rfl (JJ 0 (JJ 1 Y9 Qgf rfl (Q4 rfl) (Q0 rfl)) Qgf rfl (Q4 rfl) (Q0 rfl))),Z2,(qv 1)⟩))
   (QZ (ZW (QdZ (QP (QbG QcS (Qgc hU) (QP (Qh8 (by rfl) T.len (by rfl) T.set (qp 1))) (QP (Js J1 YG (by rfl) T.len Yi (YB (qp 1) Jb))) (Zc _))) (Qc0 (Zi (QbG QcS (Qgc hU) (QP (Qh8 (by rfl) T.len (by rfl) T.set (qp 2))) (QP (Js J1 YG (by rfl) T.len Yi (YB (qp 2) Jb))) (Zc _)))))))),λargs R EX h=>?_⟩
  obtain⟨L,rfl,hl,hR⟩:=h;have e1:(L.map pairD).map (λd=>Qb (toP d).1)=(L.map (λp=>p.1)).map Qb:=by rw[QY,QY];rfl
  have e2:(L.map pairD).map (λd=>Qb (toP d).2)=(L.map (λp=>p.2)).map Qb:=by rw[QY,QY];rfl
  refine Qab (λd=>.int (toP d).1) (λd hd k2 hk=>?_) ?_
  ·obtain⟨p,_,rfl⟩:=Qo.mp hd;exact⟨rfl,hk⟩
  ·refine Qab (λd=>.int (toP d).2) (λd hd k2 hk=>?_) ?_
   ·obtain⟨p,_,rfl⟩:=Qo.mp hd;exact⟨rfl,hk⟩
   ·rw[e1,e2];refine⟨_,QcE _,by rw[Qe];exact hl,?_⟩;have c1:∀ns:List Int,decide (((ddI ns).length:Int)=(((ns.map Qb).length:Nat):Int))=decide ns.Nodup:=λns=>by
     rw[Qe];refine decide_eq_decide.mpr ⟨λz=>(Qir ns).mp (by omega),λz=>by have:=(Qir ns).mpr z;omega⟩
    show if decide _=true then _ else _
    rw[c1];refine QdR hR λ_ hR=>?_
    refine⟨_,QcE _,by rw[Qe];exact hl,?_⟩;show R (.bool (decide _));rw[c1];exact hR
theorem Qll:(["cell", "cells"]:List Str).Nodup:=by decide +kernel
theorem Qc9:Ji ["board", "thing", "high", "wide", "cells"] ["board", "thing"] (Ql Qea):=⟨rfl,rfl,rfl,by decide +kernel,rfl,by decide +kernel,by decide +kernel⟩
theorem Qn8{f f1 f2  : Addr}{fd fd1 fd2:QK}(F:Fun K "is_stand" "is_stand" Qea f fd)(T:GlbA mg)
  (m1:mg "is_cells" = some (.ref f1))(G1:FnOk P w K mg base CX0 4 f1 fd1 ["high", "wide", "thing"] (JE false Qmd))(b1:Binds K fd1 ["high", "wide", "thing"] [])(k1:PySem.W.keepIn K (.ref f1)=true)
  (m2:mg "are_apart" = some (.ref f2))(G2:FnOk P w K mg base CX0 1 f2 fd2 ["cells"] (JE false Qms))(b2:Binds K fd2 ["cells"] [])(k2:PySem.W.keepIn K (.ref f2)=true) :
  FnOk P w K mg base CX0 5 f fd ["board", "thing"] (JE false Qkh):=by
 refine okQ false F Qc9 (λargs R EX h=>?_) (λcdv A outer s H E hr=>?_)
 ·obtain⟨h,w,cs,d,rfl,_⟩:=h;rfl
 ·have hU:=Room.u60 hr;have hI:=Room.i60 hr;refine⟨_,QH (Quw (qv 0) (Y8 rfl (JJ 2 (JJ 3 (JJ 4 Y9 Qc9.nd rfl (by first | exact Q4 rfl | exact Q0 rfl)) Qc9.nd rfl (by first | exact Q4 rfl | exact Q0 rfl)) Qc9.nd rfl (by first | exact Q4 rfl | exact Q0 rfl))))
   (QH (QaU (QaS (QaR (Jg (JY G1 (hr.mono (by decide)) (by rfl) m1 k1 b1 JK (Zu (qv 2) (Zu (qv 3) (Zu (qv 1) Jo))))))) (QZ (ZW QkI)) Z3)
   (QZ (ZW (QdZ (QP (Js Qb6 (Qgq rfl) (by rfl) T.all Qgv (YB (QP (QaF ["cell", "cells"] [none,some 4] (QaV (qp 1)) (λcl ex s3 H3 C=>⟨(Zp 0 Qll rfl (Q4 rfl) (Q0 rfl)),Z2,(Zi (QbG Qvf (Qvr hI) (qp 0) (qp 1) (by rfl)))⟩))) Jb))) (Qc0 (JY G2 (hr.mono (by decide)) (by rfl) m2 k2 b2 JK (Zu (qv 1) Jo))))))),λargs R EX h=>?_⟩
  obtain⟨h,w,cs,d,rfl,hs,hR⟩:=h;refine⟨rfl,_,_,_,rfl,?_⟩;cases d with
  |tuple ds=>
   show if(!(ds.all (Qje h w)&&QcZ ds))=true then _ else _
   cases hc:(ds.all (Qje h w)&&QcZ ds) with
   |false=>
    rw[show QtI h w cs (.tuple ds)=false by show((ds.all (Qje h w)&&QcZ ds)&&_)=false;rw[hc];rfl] at hR;exact hR
   |true=>
    rw[show QtI h w cs (.tuple ds)=(ds.all (inC cs)&&apB (ds.map toP)) by show((ds.all (Qje h w)&&QcZ ds)&&_)=_;rw[hc];rfl] at hR;obtain⟨L,rfl,hL⟩:=Qh9 (Q3.mp hc).1;have hl:=hs _ rfl;rw[Qe] at hl;refine Qab (λd=>.bool (inC cs d)) (λd hd k2 hk=>?_) (QcF (items:=L.map pairD) rfl ?_)
    ·obtain⟨p,_,rfl⟩:=Qo.mp hd;exact⟨⟨Qlj cs,rfl,by have:=Qjj p;omega⟩,hk⟩
    ·rw[Qds] at hR;refine QdR hR λ_ hR=>⟨L,rfl,by omega,hR⟩
  |_=>exact hR
theorem Qgd:(["one", "other"]:List Str).Nodup:=by decide +kernel
theorem Qne:Ji ["things"] ["things"] (Ql Qec):=⟨rfl,rfl,rfl,by decide +kernel,rfl,by decide +kernel,by decide +kernel⟩
theorem Qob{f   : Addr}{fd  : QK}(F:Fun K "is_never_falling" "is_never_falling" Qec f fd)(T:GlbA mg) :
  FnOk P w K mg base CX0 1 f fd ["things"] (JE false Qli):=by
 refine okQ false F Qne (λargs R EX h=>?_) (λcdv A outer s H E hr=>?_)
 ·obtain⟨ns,rfl,_⟩:=h;rfl
 ·have hU:=Room.u60 hr;have hI:=Room.i60 hr;refine⟨_,QZ (Qay (Js Qb6 (Qgq rfl) (by rfl) T.all Qgv (YB (QP (QaF ["one", "other"] [none,none] (QkF (by rfl) T.zip (qp 0) (QP (Qe8 (qp 0) (Qe6 (Jg JA)) Qe7))) (λcl ex s3 H3 C=>⟨(Y8 rfl (JJ 0 (JJ 1 Y9 Qgd rfl (Q4 rfl) (Q0 rfl)) Qgd rfl (Q4 rfl) (Q0 rfl))),Z2,(Zi (QbG Qi8 QaZ (qp 0) (qp 1) (Zc _)))⟩))) Jb))),λargs R EX h=>?_⟩;obtain⟨ns,rfl,hR⟩:=h;refine Qab (λd=>.bool (QwJ d)) (λd hd k2 hk=>?_) (QcF (items:=Qd5 (ns.map Qb) (Dl.cutD (ns.map Qb) (some 1) none)) rfl (by rw[QoZ];exact hR));obtain⟨i,hi⟩:=Jw.mp hd;obtain⟨a,b,ha,hb,rfl⟩:=Dl.zip_get hi;obtain⟨x,_,rfl⟩:=Qo.mp (Qz ha);obtain⟨y,_,rfl⟩:=Qo.mp (Qiv (Qz hb));exact⟨rfl,hk⟩
theorem Qja:(["part"]:List Str).Nodup:=by decide +kernel
theorem Qkr:Ji ["thing"] ["thing"] (Ql Qcm):=⟨rfl,rfl,rfl,by decide +kernel,rfl,by decide +kernel,by decide +kernel⟩
theorem Qk6{f f1 f2  : Addr}{fd fd1 fd2:QK}(hA:∃t,mg "MOST_LINES" = some (.int 6 t))(F:Fun K "is_stairs" "is_stairs" Qcm f fd)(T:GlbA mg)
  (m1:mg "is_whole_within" = some (.ref f1))(G1:FnOk P w K mg base CX0 2 f1 fd1 ["thing", "least", "most"] (JE false QbE))(b1:Binds K fd1 ["thing", "least", "most"] [])(k1:PySem.W.keepIn K (.ref f1)=true)
  (m2:mg "is_never_falling" = some (.ref f2))(G2:FnOk P w K mg base CX0 1 f2 fd2 ["things"] (JE false Qli))(b2:Binds K fd2 ["things"] [])(k2:PySem.W.keepIn K (.ref f2)=true) :
  FnOk P w K mg base CX0 3 f fd ["thing"] (JE false QgT):=by
 refine okQ false F Qkr (λargs R EX h=>?_) (λcdv A outer s H E hr=>?_)
 ·obtain⟨d,rfl,_⟩:=h;rfl
 ·obtain⟨tA,mA⟩:=hA;have hU:=Room.u60 hr;have hI:=Room.i60 hr;refine⟨_,QH (QaU (Qnp (QkC (QaS (QaR (QP (Qf6 .tuple (by rfl) T.isinstance (qp 0) (by rfl) T.tuple Qbl)))) (Qf5 (QaS (QxD Qi8 Qi8 (Jg JA) (QP (Js J1 YG (by rfl) T.len Yi (YB (qp 0) Jb))) (Jg (Qf7 6 (by rfl) mA ⟨_,rfl⟩))))))) (QZ (ZW QkI)) Z3)
   (QZ (ZW (QdZ (QP (Js Qb6 (Qgq rfl) (by rfl) T.all Qgv (YB (QP (QaF ["part"] [none] (QaV (qp 0)) (λcl ex s3 H3 C=>⟨(Zp 0 Qja rfl (Q4 rfl) (Q0 rfl)),Z2,(JY G1 (hr.mono (by decide)) (by rfl) m1 k1 b1 JK (Zu (qv 0) (Zu JA (Zu (Qf7 6 (by rfl) mA ⟨_,rfl⟩) Jo))))⟩))) Jb))) (Qc0 (JY G2 (hr.mono (by decide)) (by rfl) m2 k2 b2 JK (Zu (qv 0) Jo)))))),λargs R EX h=>?_⟩
  obtain⟨d,rfl,hR⟩:=h;cases d with
  |tuple ds=>
   have hR:R (.bool ((decide ((1:Int)<=ds.length)&&decide ((ds.length:Int)<=6))&&(ds.all (λd=>inW d 0 6)&&nfI (ds.map toI)))):=hR;refine ifC (λz1=>?_) λz1=>?_
   ·rw[show decide ((1:Int)<=ds.length)=true from z1,YL] at hR;show if(!decide ((ds.length:Int)<=6))=true then _ else _
    cases z2:decide ((ds.length:Int)<=6) with
    |false=>rw[z2] at hR;exact hR
    |true=>
     rw[z2,YL] at hR;refine Qab (λd=>.bool (inW d 0 6)) (λd hd k2 hk=>⟨_,_,_,rfl,hk⟩) (QcF (items:=ds) rfl ?_);refine QdR hR λha hR=>⟨ds.map toI,?_,hR⟩
     rw[tI,<- (Qoy ha).1]
   ·rw[show decide ((1:Int)<=ds.length)=false from z1] at hR;exact hR
  |_=>exact hR
theorem Qnc:Ji ["stairs"] ["stairs"] (Ql QiW):=⟨rfl,rfl,rfl,by decide +kernel,rfl,by decide +kernel,by decide +kernel⟩
theorem Qn9{f f1  : Addr}{fd fd1:QK}(F:Fun K "refuse_no_stairs" "refuse_no_stairs" QiW f fd)(T:GlbA mg)
  (m1:mg "is_stairs" = some (.ref f1))(G1:FnOk P w K mg base CX0 3 f1 fd1 ["thing"] (JE false QgT))(b1:Binds K fd1 ["thing"] [])(k1:PySem.W.keepIn K (.ref f1)=true) :
  FnOk P w K mg base CX0 4 f fd ["stairs"] (JE false Qg0):=by
 refine okQ false F Qnc (λargs R EX h=>?_) (λcdv A outer s H E hr=>?_)
 ·obtain⟨ns,rfl,_⟩:=h;rfl
 ·have hU:=Room.u60 hr;have hI:=Room.i60 hr;refine⟨_,QZ (QaU (QaS (QaR (Jg (JY G1 (hr.mono (by decide)) (by rfl) m1 k1 b1 JK (Zu (qv 0) Jo))))) Qaq Z3),λargs R EX h=>?_⟩;obtain⟨ns,rfl,hs,hR⟩:=h;refine⟨_,rfl,?_⟩;rw[Qm9 hs];exact hR
theorem Qcr:(["row", "column", "many", "stairs"]:List Str).Nodup:=by decide +kernel
theorem Qdn:Ji ["stairs", "high", "cells"] ["stairs"] (Ql Qcn):=⟨rfl,rfl,rfl,by decide +kernel,rfl,by decide +kernel,by decide +kernel⟩
theorem Qk7{f f1  : Addr}{fd fd1:QK}(F:Fun K "stair_board" "stair_board" Qcn f fd)(T:GlbA mg)
  (m1:mg "refuse_no_stairs" = some (.ref f1))(G1:FnOk P w K mg base CX0 4 f1 fd1 ["stairs"] (JE false Qg0))(b1:Binds K fd1 ["stairs"] [])(k1:PySem.W.keepIn K (.ref f1)=true) :
  FnOk P w K mg base CX0 5 f fd ["stairs"] (JE false Quj):=by
 refine okQ false F Qdn (λargs R EX h=>?_) (λcdv A outer s H E hr=>?_)
 ·obtain⟨ns,rfl,_⟩:=h;rfl
 ·have hU:=Room.u60 hr;have hI:=Room.i60 hr;refine⟨_,QH (Qal (Jg (JY G1 (hr.mono (by decide)) (by rfl) m1 k1 b1 JK (Zu (qv 0) Jo))))
   (QH (Z8 1 (Zi (Js (Qat rfl) Qbk (by rfl) T.max QeC (YB (Jg (Qek Yt Qar (qp 0) (QP (QrH (Jg JA))) (λ_ _=>rfl))) (YB (Jg JA) Jb)))) Qdn.nd)
   (QH (Qno ["row", "column", "many", "stairs"] [none,none,none,some 0] 2 Qdn.nd (Qil 0) (QbF (by rfl) T.range (qp 1)) (λcl ex s3 H3 C=>⟨(Zp 0 Qcr rfl (Q4 rfl) (Q0 rfl)),Z2,(Qh7 (by rfl) T.enumerate (qv 3)),(Y8 rfl (JJ 1 (JJ 2 Y9 Qcr rfl (Q4 rfl) (Q0 rfl)) Qcr rfl (Q4 rfl) (Q0 rfl))),(Qg1 (YA Qn2 QaZ (qp 0) (qp 2) (Zc _))),(Zi (Qi5 (QdT (qv 0) (QdT (qv 1) Jb))))⟩))
   (QZ (Qay (Qi5 (QdT (qv 1) (QdT (Zi (Js J1 YG (by rfl) T.len Yi (YB (qp 0) Jb))) (QdT (Zi (QbY Qam Qfs (by rfl) T.tuple Qbl (YB (qp 2) Jb))) Jb)))))))),λargs R EX h=>?_⟩
  obtain⟨ns,rfl,hs,hR⟩:=h;have hh:=Qrw hs;have h6:=hs.l6;refine⟨_,rfl,hs,_,QlA hs.l1,Qcu Qxv ⟨⟨by omega,by omega⟩,Qma (Qry ns) 36 ?_ (λd hd acc N hb hN=>?_) ?_⟩⟩
  ·rw[Qh3,Qe];exact QeX hs
  ·obtain⟨i,hi⟩:=Jw.mp hd;obtain⟨hi,rfl⟩:=QgY hi;have er:Qry ns (.int (0+(i:Int)))=(QcC (ns.map Qb)).filterMap (QwE (i:Int)):=by
    rw[QoG];show(Qdq (0+(i:Int)).toNat ns.length (stF ns)).map pairD=_;rw[show(0+(i:Int)).toNat=i by omega]
   refine QvK (QwE (i:Int)) ?_ (λd hd k1 k2 h1 h2=>?_) (by rw[<- er];exact hN)
   ·rw[YC,Qe];exact YN (show acc.length+ns.length<=42 by omega) (by decide)
   ·obtain⟨c,hc⟩:=Jw.mp hd;obtain⟨e,he,rfl⟩:=ZX hc;obtain⟨m,_,rfl⟩:=Qo.mp (Qz he);have h1:(if(i:Int)<m then some (pairD ((i:Int),(c:Int))) else none)=none->k1:=h1;have h2:∀e,(if(i:Int)<m then some (pairD ((i:Int),(c:Int))) else none)=some e->k2 e:=h2
    refine⟨rfl,?_⟩;show if decide (0+(i:Int)<m)=true then k2 (.tuple [.int (0+(i:Int)),.int (c:Int)]) else k1
    rw[show(0:Int)+(i:Int)=(i:Int) by omega];by_cases z:(i:Int)<m
    ·rw[if_pos (decide_eq_true z)];exact h2 _ (if_pos z)
    ·rw[if_neg (by simpa using z)];exact h1 (if_neg z)
  ·rw[Qh3,Jz];have hR:R (.tuple [.int (sH ns),.int ns.length,.tuple ((stC ns).map pairD)]):=hR;rw[<- Qe (f:=Qb)] at hR;exact hR
theorem Qeq:(["row", "column", "cell"]:List Str).Nodup:=by decide +kernel
theorem Qkt:Ji ["stand", "cell"] ["stand", "cell"] (Ql Qcp):=⟨rfl,rfl,rfl,by decide +kernel,rfl,by decide +kernel,by decide +kernel⟩
theorem Qk9{f   : Addr}{fd  : QK}(F:Fun K "is_left" "is_left" Qcp f fd)(T:GlbA mg) :
  FnOk P w K mg base CX0 1 f fd ["stand", "cell"] (JE false Qhj):=by
 refine okQ false F Qkt (λargs R EX h=>?_) (λcdv A outer s H E hr=>?_)
 ·obtain⟨L,p,rfl,_⟩:=h;rfl
 ·have hU:=Room.u60 hr;have hI:=Room.i60 hr;refine⟨_,QZ (ZW (Quy (QP (Js QoN (Qwc rfl) (by rfl) T.any Dl.bt_any (YB (QP (QaF ["row", "column", "cell"] [none,none,some 1] (QaV (qp 0)) (λcl ex s3 H3 C=>⟨(Y8 rfl (JJ 0 (JJ 1 Y9 Qeq rfl (Q4 rfl) (Q0 rfl)) Qeq rfl (Q4 rfl) (Q0 rfl))),Z2,(QyL (Jg (QdZ (QP (QbG QcS (Qgc hU) (qp 1) (Jg (Qek Yt Qar (qp 2) (Jg JA) (λ_ _=>rfl))) (Zc _))) (Qc0 (Zi (QbG Qsp QaZ (qp 0) (Jg (Qek Yt Qar (qp 2) (Jg JA) (λ_ _=>rfl))) (Zc _)))))) (Qc0 (QdZ (QP (QbG QcS (Qgc hU) (qp 0) (Jg (Qek Yt Qar (qp 2) (Jg JA) (λ_ _=>rfl))) (Zc _))) (Qc0 (Zi (QbG Qn2 QaZ (qp 1) (Jg (Qek Yt Qar (qp 2) (Jg JA) (λ_ _=>rfl))) (Zc _)))))))⟩))) Jb))))),λargs R EX h=>?_⟩;obtain⟨L,p,rfl,hR⟩:=h;refine Qab (λd=>.bool ((decide ((toP d).2=p.2)&&decide ((toP d).1≥p.1))||(decide ((toP d).1=p.1)&&decide ((toP d).2<p.2)))) (λd hd k2 hk=>?_) (Qtv (items:=L.map pairD) rfl ?_)
  ·obtain⟨q,_,rfl⟩:=Qo.mp hd;have hk:k2 (.bool ((decide (q.2=p.2)&&decide (q.1≥p.1))||(decide (q.1=p.1)&&decide (q.2<p.2)))):=hk;have alt:k2 (.bool (decide (q.1=p.1)&&decide (q.2<p.2)))->∃d,atI [Qb p.1,.int p.2] 0=some d/\(λd=>eqD (.int q.1) d λb=>match b with | .bool c=>(if c=true then(∃d,atI [Qb p.1,.int p.2] 1=some d/\(ii0 λi j=>YQ (decide (i<j))) (.int q.2) d k2) else k2 (.bool false)) | _=>False) d:=λhk=>by
    refine⟨_,Ya (j:=0) rfl,?_⟩;show if decide (q.1=p.1)=true then _ else _
    cases z3:decide (q.1=p.1) with
    |true=>rw[z3] at hk;exact⟨_,Ya (j:=1) rfl,hk⟩
    |false=>rw[z3] at hk;exact hk
   refine⟨rfl,_,Ya (j:=1) rfl,?_⟩;refine ifC (λz1=>?_) λz1=>?_
   ·rw[show decide (q.2=p.2)=true from z1,YL] at hk;refine⟨_,Ya (j:=0) rfl,?_⟩;refine ifC (λz2=>?_) λz2=>?_
    ·rw[show decide (q.1≥p.1)=true from z2,Bool.true_or] at hk;exact hk
    ·rw[show decide (q.1≥p.1)=false from z2,QhJ] at hk;exact alt hk
   ·rw[show decide (q.2=p.2)=false from z1,QaD,QhJ] at hk;exact alt hk
  ·have e:((L.map pairD).any λd=>(decide ((toP d).2=p.2)&&decide ((toP d).1≥p.1))||(decide ((toP d).1=p.1)&&decide ((toP d).2<p.2)))=L.any λq=>(decide (q.2=p.2)&&decide (q.1≥p.1))||(decide (q.1=p.1)&&decide (q.2<p.2)):=by rw[QdW];rfl
   rw[e];exact hR
theorem Qlm:(["cell", "stand"]:List Str).Nodup:=by decide +kernel
theorem Qnh:Ji ["board", "stand"] ["board", "stand"] (Ql Qei):=⟨rfl,rfl,rfl,by decide +kernel,rfl,by decide +kernel,by decide +kernel⟩
theorem Qof{f f1  : Addr}{fd fd1:QK}(F:Fun K "cells_left" "cells_left" Qei f fd)(T:GlbA mg)
  (m1:mg "is_left" = some (.ref f1))(G1:FnOk P w K mg base CX0 1 f1 fd1 ["stand", "cell"] (JE false Qhj))(b1:Binds K fd1 ["stand", "cell"] [])(k1:PySem.W.keepIn K (.ref f1)=true) :
  FnOk P w K mg base CX0 2 f fd ["board", "stand"] (JE false Qiw):=by
 refine okQ false F Qnh (λargs R EX h=>?_) (λcdv A outer s H E hr=>?_)
 ·obtain⟨h,w,cs,L,rfl,_⟩:=h;rfl
 ·have hU:=Room.u60 hr;have hI:=Room.i60 hr;refine⟨_,QZ (Qay (QbY Qam Qfs (by rfl) T.tuple Qbl (YB (QP (QaF ["cell", "stand"] [none,some 1] (QaV (Jg (Qek Yt Qar (qp 0) (Jg JA) (λ_ _=>rfl)))) (λcl ex s3 H3 C=>⟨(Zp 0 Qlm rfl (Q4 rfl) (Q0 rfl)),(Qg1 (QaR (Jg (JY G1 (hr.mono (by decide)) (by rfl) m1 k1 b1 JK (Zu (qv 1) (Zu (qv 0) Jo)))))),(qv 0)⟩))) Jb))),λargs R EX h=>?_⟩;obtain⟨h,w,cs,L,rfl,hR⟩:=h;refine⟨_,Ya (j:=2) rfl,Qwb (λd=>if Qeu L (toP d)=true then some d else none) (λd hd k1 k2 h1 h2=>?_) ?_⟩
  ·obtain⟨p,_,rfl⟩:=Qo.mp hd;have h1:(if Qeu L p=true then some (pairD p) else none)=none->k1:=h1;have h2:∀e,(if Qeu L p=true then some (pairD p) else none)=some e->k2 e:=h2
   refine⟨_,_,rfl,?_⟩;show if Qeu L p=true then k2 (pairD p) else k1
   by_cases z:Qeu L p=true
   ·rw[if_pos z];exact h2 _ (if_pos z)
   ·rw[if_neg z];exact h1 (if_neg z)
  ·rw[Qin];exact hR
theorem Qrt:Ji ["start"] ["start"] (Ql QiU):=⟨rfl,rfl,rfl,by decide +kernel,rfl,by decide +kernel,by decide +kernel⟩
theorem Qsu{f   : Addr}{fd  : QK}(F:Fun K "row_behind" "row_behind" QiU f fd)(T:GlbA mg) :
  FnOk P w K mg base CX0 1 f fd ["start"] (JE false Qrx):=by
 refine okQ false F Qrt (λargs R EX h=>?_) (λcdv A outer s H E hr=>?_)
 ·obtain⟨S,rfl,_⟩:=h;rfl
 ·have hU:=Room.u60 hr;have hI:=Room.i60 hr;refine⟨_,QZ (ZW (QxF (Quu (qp 0)) (Zi (ZE Zz Yg (Jg (Qek Yt Qar (Jg (Qek Yt Qar (qp 0) (QP (QrH (Jg JA))) (λ_ _=>rfl))) (Jg JA) (λ_ _=>rfl))) (Jg JA))) JA)),λargs R EX h=>?_⟩;obtain⟨S,rfl,hR⟩:=h;refine⟨trivial,?_⟩;unfold rbI at hR;cases e:S.getLast? with
  |none=>
   rw[e] at hR;rw[QgG] at e;subst e;exact hR
  |some c=>
   rw[e] at hR;refine ifT ?_ ⟨_,QsT e,_,Ya (j:=0) rfl,hR⟩
   cases S with
   |nil=>cases e
   |cons a b=>rfl
theorem QsH:(["cell"]:List Str).Nodup:=by decide +kernel
theorem QsG:(["cell", "row", "taken"]:List Str).Nodup:=by decide +kernel
theorem Qku:Ji ["board", "start", "row", "taken"] ["board", "start"] (Ql sFol):=⟨rfl,rfl,rfl,by decide +kernel,rfl,by decide +kernel,by decide +kernel⟩
theorem Qvn{f f1  : Addr}{fd fd1:QK}(F:Fun K "followers" "followers" sFol f fd)(T:GlbA mg)
  (m1:mg "row_behind" = some (.ref f1))(G1:FnOk P w K mg base CX0 1 f1 fd1 ["start"] (JE false Qrx))(b1:Binds K fd1 ["start"] [])(k1:PySem.W.keepIn K (.ref f1)=true) :
  FnOk P w K mg base CX0 2 f fd ["board", "start"] (JE false Qyc):=by
 refine okQ false F Qku (λargs R EX h=>?_) (λcdv A outer s H E hr=>?_)
 ·obtain⟨h,w,cs,S,rfl,_⟩:=h;rfl
 ·have hU:=Room.u60 hr;have hI:=Room.i60 hr;refine⟨_,QH (Z8 2 (JY G1 (hr.mono (by decide)) (by rfl) m1 k1 b1 JK (Zu (qv 1) Jo)) Qku.nd)
   (QH (Z8 3 (Zi (QaF ["cell"] [none] (QaV (qp 1)) (λcl ex s3 H3 C=>⟨(Zp 0 QsH rfl (Q4 rfl) (Q0 rfl)),Z2,(Qek Yt Qar (qp 0) (Jg JA) (λ_ _=>rfl))⟩))) Qku.nd)
   (QZ (Qay (QaF ["cell", "row", "taken"] [none,some 2,some 3] (QaV (Jg (Qek Yt Qar (qp 0) (Jg JA) (λ_ _=>rfl)))) (λcl ex s3 H3 C=>⟨(Zp 0 QsG rfl (Q4 rfl) (Q0 rfl)),(Qg1 (Qnp (Qh5 (YA Qsp QaZ (Jg (Qek Yt Qar (qp 0) (Jg JA) (λ_ _=>rfl))) (qp 1) (Zc _)) (Qe4 (YA Qk1 (Qvr hI) (Jg (Qek Yt Qar (qp 0) (Jg JA) (λ_ _=>rfl))) (qp 2) (by rfl)))))),(qv 0)⟩))))),λargs R EX h=>?_⟩
  obtain⟨h,w,cs,S,rfl,hR⟩:=h;refine⟨_,rfl,Qab (λd=>.int (toP d).2) (λd hd k2 hk=>?_) ?_⟩
  ·obtain⟨p,_,rfl⟩:=Qo.mp hd;exact⟨_,Ya (j:=1) rfl,hk⟩
  ·rw[show(S.map pairD).map (λd=>Qb (toP d).2)=(S.map (·.2)).map Qb by rw[QY,QY];rfl];refine⟨_,Ya (j:=2) rfl,Qwb (λd=>if(λc:Int×Int=>decide (rbI S<=c.1) && !decide (c.2∈S.map (·.2))) (toP d)=true then some d else none) (λd hd k1 k2 h1 h2=>?_) ?_⟩
   ·obtain⟨c,_,rfl⟩:=Qo.mp hd;have h1:(if(decide (rbI S<=c.1) && !decide (c.2∈S.map (·.2)))=true then some (pairD c) else none)=none->k1:=h1;have h2:∀e,(if(decide (rbI S<=c.1) && !decide (c.2∈S.map (·.2)))=true then some (pairD c) else none)=some e->k2 e:=h2
    refine⟨_,Ya (j:=0) rfl,?_⟩;refine ifC (λz1=>?_) λz1=>?_
    ·have z1:decide (rbI S<=c.1)=true:=z1;rw[z1,YL] at h1 h2;refine⟨_,Ya (j:=1) rfl,⟨Qbe _,rfl,by show Yx (.int _)<=50;unfold Yx;decide⟩,?_⟩;show if(!((S.map (·.2)).map Qb).any λe=>Jf e (.int c.2))=true then _ else k1
     rw[Qtu];by_cases z:(!decide (c.2∈S.map (·.2)))=true
     ·rw[if_pos z];exact h2 _ (if_pos z)
     ·rw[if_neg z];exact h1 (if_neg z)
    ·have z1:decide (rbI S<=c.1)=false:=z1;rw[z1] at h1;exact h1 rfl
   ·rw[Qin (λc:Int×Int=>decide (rbI S<=c.1) && !decide (c.2∈S.map (·.2)))];exact hR
theorem Qpn:(["stand", "cell", "board"]:List Str).Nodup:=by decide +kernel
theorem Qng:Ji ["board", "size", "stands", "step"] ["board", "size"] (Ql Qeg):=⟨rfl,rfl,rfl,by decide +kernel,rfl,by decide +kernel,by decide +kernel⟩
theorem QxV{f f1  : Addr}{fd fd1:QK}(F:Fun K "every_stand" "every_stand" Qeg f fd)(T:GlbA mg)
  (m1:mg "followers" = some (.ref f1))(G1:FnOk P w K mg base CX0 2 f1 fd1 ["board", "start"] (JE false Qyc))(b1:Binds K fd1 ["board", "start"] [])(k1:PySem.W.keepIn K (.ref f1)=true) :
  FnOk P w K mg base CX0 3 f fd ["board", "size"] (JE true evD):=by
 refine okQ true F Qng (λargs R EX h=>?_) (λcdv A outer s H E hr=>?_)
 ·obtain⟨h,w,cs,k,rfl,_⟩:=h;rfl
 ·have hU:=Room.u60 hr;have hI:=Room.i60 hr;refine⟨_,QH (Y7 2 (QaJ (QdT (Zi (Qi5 Jb)) Jb)) Qng.nd)
   (QH (YO Q8 rfl (QbF (by rfl) T.range (qp 1)) (Zp 3 Qng.nd rfl (by first | exact Q4 rfl | exact Q0 rfl))
    (QZ (QkD ["stand", "cell", "board"] [none,none,some 0] 2 Qng.nd (Qil 0) (QaW (qp 2)) (λcl ex s3 H3 C=>⟨(Zp 0 Qpn rfl (Q4 rfl) (Q0 rfl)),Z2,(QaW (JY G1 (hr.mono (by decide)) (by rfl) m1 k1 b1 JK (Zu (qv 2) (Zu (qv 0) Jo)))),(Zp 1 Qpn rfl (Q4 rfl) (Q0 rfl)),Z2,(Zi (ZE Zz Yg (qp 0) (QP (Qi5 (QdT (qv 1) Jb)))))⟩))))
   (QZ (QaT 2))),λargs R EX h=>?_⟩
  obtain⟨h,w,cs,k,rfl,g,k6,hR⟩:=h;refine⟨⟨by omega,by omega⟩,QcA (λi δ=>∃ds x3,δ=[.v (bdD h w cs),.v (.int k),.own ds,x3]/\ds=(evS cs i).map stT) ⟨_,_,rfl,rfl⟩ ?_ ?_⟩
  ·rintro i δ hi ⟨ds,x3,rfl,rfl⟩;rw[Jz] at hi;refine Qma (evG cs) 200000 (by rw[QlQ,Qe];exact QvR g (i+1)) (λd hd acc N hb hN=>?_) ?_
   ·obtain⟨S,hS,rfl⟩:=Qo.mp hd;have lS:=((Qas g.r0 i S).mp hS).2;unfold evG at hb hN;rw[Quf] at hb hN;rw[Qe] at hb;refine⟨_,_,_,_,rfl,QvJ (λd=>.tuple (S.map pairD++[d])) (by rw[Qe];exact YN hb (by decide)) (λd hd k2 hk=>?_) ?_⟩
    ·exact⟨by rw[Qe];show _+1<=_;omega,hk⟩
    ·rw[QY];have e:(fol cs S).map ((λd=>YT (S.map pairD++[d]))∘pairD)=(fol cs S).map λc=>stT (S++[c]):=QQ λc _=>by
      show YT (S.map pairD++[pairD c])=YT ((S++[c]).map pairD);rw[Jk];rfl
     rw[e];exact hN
   ·rw[QlQ];exact⟨_,_,rfl,rfl⟩
  ·rintro δ ⟨ds,x3,rfl,rfl⟩;rw[Jz];exact hR
end
def wtV(cs:List (Int×Int))(k:Nat)(i:Nat):Int:=((wt cs ((evS cs k).getD i []):Nat):Int)
def Qpo(cs:List (Int×Int))(k:Nat):Option (List (Int×Int)):=(evS cs k)[bstI (wtV cs k) ((evS cs k).length - 1)]?
def QtG(cs:List (Int×Int))(k:Nat):PyData:=match Qpo cs k with
 |some L=>stT L
 |none=>.none
def Qlw:DF:=λargs R _=>∃(ns:List Int)(k:Nat),args=[.v (tI ns),.v (.int k)]/\JQ ns/\ns.sum<=20/\k<=ns.length/\R (QtG (stC ns) k)
def Qox:Str:=("lightest" : Str) ++ ".<locals>." ++ "<lambda>"
theorem Qoq{a b c:Str}{k1 k3:YK}(h1:k1≠.free)(h3:k3≠.free):∀y,([(a,k1),(b,.free),(c,k3)]:List (Str×YK)).lookup y=some .free->y=b:=λy h=>by
 simp only[Q2] at h;split at h
 ·exact absurd (Qr h) h1
 ·split at h
  ·rename_i q
   exact beq_iff_eq.mp q
  ·split at h
   ·exact absurd (Qr h) h3
   ·cases h
theorem QdN(val:Nat->Int):∀j,bstI val j<=j/\(∀i,i<=j->val (bstI val j)<=val i)/\∀i,i<bstI val j->val (bstI val j)<val i
 |0=>⟨Qi _,λi hi=>by rw[show i=0 by omega];exact Zm _,λi hi=>absurd hi (YM _)⟩
 |j+1=>by
  obtain⟨h1,h2,h3⟩:=QdN val j;have eb:bstI val (j+1)=if decide (val (j+1)<val (bstI val j))=true then j+1 else bstI val j:=rfl
  by_cases z:val (j+1)<val (bstI val j)
  ·rw[decide_eq_true z,if_pos rfl] at eb;rw[eb];refine⟨Qi _,λi hi=>?_,λi hi=>?_⟩
   ·by_cases y:i=j+1
    ·rw[y];exact Zm _
    ·have:=h2 i (by omega);omega
   ·have:=h2 i (by omega);omega
  ·rw[decide_eq_false z,if_neg Qu] at eb;rw[eb];refine⟨by omega,λi hi=>?_,h3⟩;by_cases y:i=j+1
   ·rw[y];omega
   ·exact h2 i (by omega)
def Qhh:DF:=λargs R _=>∃(ns:List Int)(L:List (Int×Int)),args=[.v (tI ns),.v (stT L)]/\JQ ns/\L.length<=1000/\Qyv ns (stT L)=true/\R (Qvz (stC ns) L)
section
variable{P:QN}{w:Jj}{K:PySem.W.Frag}{mg:Str->Option Value}{base:J8}
theorem Qrv:Ji ["stairs"] ["stairs"] (Ql QiX):=⟨rfl,rfl,rfl,by decide +kernel,rfl,by decide +kernel,by decide +kernel⟩
theorem Qsw{f f1  : Addr}{fd fd1:QK}(hB:∃t,mg "MOST_CELLS" = some (.int 20 t))(F:Fun K "refuse_too_many" "refuse_too_many" QiX f fd)(T:GlbA mg)
  (m1:mg "refuse_no_stairs" = some (.ref f1))(G1:FnOk P w K mg base CX0 4 f1 fd1 ["stairs"] (JE false Qg0))(b1:Binds K fd1 ["stairs"] [])(k1:PySem.W.keepIn K (.ref f1)=true) :
  FnOk P w K mg base CX0 5 f fd ["stairs"] (JE false Qky):=by
 refine okQ false F Qrv (λargs R EX h=>?_) (λcdv A outer s H E hr=>?_)
 ·obtain⟨ns,rfl,_⟩:=h;rfl
 ·obtain⟨tB,mB⟩:=hB;have hU:=Room.u60 hr;have hI:=Room.i60 hr;refine⟨_,QH (Qal (Jg (JY G1 (hr.mono (by decide)) (by rfl) m1 k1 b1 JK (Zu (qv 0) Jo))))
   (QZ (QaU (YA Qn4 QaZ (QP (Js (QdK rfl) Qhs (by rfl) T.sum QeB (YB (qp 0) Jb))) (Jg (Qf7 20 (by rfl) mB ⟨_,rfl⟩)) (Zc _)) Qaq Z3)),λargs R EX h=>?_⟩
  obtain⟨ns,rfl,hs,h20,hR⟩:=h;refine⟨_,rfl,hs,QgR ns rfl ?_⟩;refine ifF (decide_eq_false (by omega)) hR
theorem Qru:Ji ["stairs", "size"] ["stairs", "size"] (Ql QiV):=⟨rfl,rfl,rfl,by decide +kernel,rfl,by decide +kernel,by decide +kernel⟩
theorem Qsv{f f1  : Addr}{fd fd1:QK}(F:Fun K "refuse_no_size" "refuse_no_size" QiV f fd)(T:GlbA mg)
  (m1:mg "is_whole_within" = some (.ref f1))(G1:FnOk P w K mg base CX0 2 f1 fd1 ["thing", "least", "most"] (JE false QbE))(b1:Binds K fd1 ["thing", "least", "most"] [])(k1:PySem.W.keepIn K (.ref f1)=true) :
  FnOk P w K mg base CX0 3 f fd ["stairs", "size"] (JE false Qnm):=by
 refine okQ false F Qru (λargs R EX h=>?_) (λcdv A outer s H E hr=>?_)
 ·obtain⟨ns,k,rfl,_⟩:=h;rfl
 ·have hU:=Room.u60 hr;have hI:=Room.i60 hr;refine⟨_,QZ (QaU (QaS (QaR (Jg (JY G1 (hr.mono (by decide)) (by rfl) m1 k1 b1 JK (Zu (qv 1) (Zu JA (Zu (Zi (Js J1 YG (by rfl) T.len Yi (YB (qp 0) Jb))) Jo))))))) Qaq Z3),λargs R EX h=>?_⟩;obtain⟨ns,k,rfl,hk,hR⟩:=h;have e:(ns.map Qb).length=ns.length:=Qe _;refine⟨_,_,_,rfl,?_⟩;rw[show inW (.int (k:Int)) 0 (((ns.map Qb).length:Nat):Int)=true from Qjg (by omega) (by omega)];exact hR
theorem Qkq:Ji ["board", "stand"] ["board", "stand"] (Ql sWt):=⟨rfl,rfl,rfl,by decide +kernel,rfl,by decide +kernel,by decide +kernel⟩
theorem Qk5{f f1  : Addr}{fd fd1:QK}(F:Fun K "weight" "weight" sWt f fd)(T:GlbA mg)
  (m1:mg "cells_left" = some (.ref f1))(G1:FnOk P w K mg base CX0 2 f1 fd1 ["board", "stand"] (JE false Qiw))(b1:Binds K fd1 ["board", "stand"] [])(k1:PySem.W.keepIn K (.ref f1)=true) :
  FnOk P w K mg base CX0 3 f fd ["board", "stand"] (JE false wtD):=by
 refine okQ false F Qkq (λargs R EX h=>?_) (λcdv A outer s H E hr=>?_)
 ·obtain⟨h,w,cs,L,rfl,_⟩:=h;rfl
 ·have hU:=Room.u60 hr;have hI:=Room.i60 hr;refine⟨_,QZ (Qay (Js J1 YG (by rfl) T.len Yi (YB (Jg (JY G1 (hr.mono (by decide)) (by rfl) m1 k1 b1 JK (Zu (qv 0) (Zu (qv 1) Jo)))) Jb))),λargs R EX h=>?_⟩;obtain⟨h,w,cs,L,rfl,hR⟩:=h;refine⟨_,_,_,_,rfl,?_⟩;have hR:R (.int ((cs.filter (Qeu L)).length:Nat)):=hR;rw[<- Qe (f:=pairD)] at hR;exact hR
theorem Qh0:Ji ["stairs", "size", "board", "told", "stand"] ["stairs", "size"] (Ql sByW):=⟨rfl,rfl,rfl,by decide +kernel,rfl,by decide +kernel,by decide +kernel⟩
theorem Qvo{f f1 f2 f3 f4 f5  : Addr}{fd fd1 fd2 fd3 fd4 fd5:QK}(F:Fun K "by_weight" "by_weight" sByW f fd)(T:GlbA mg)
  (m1:mg "refuse_too_many" = some (.ref f1))(G1:FnOk P w K mg base CX0 5 f1 fd1 ["stairs"] (JE false Qky))(b1:Binds K fd1 ["stairs"] [])(k1:PySem.W.keepIn K (.ref f1)=true)
  (m2:mg "refuse_no_size" = some (.ref f2))(G2:FnOk P w K mg base CX0 3 f2 fd2 ["stairs", "size"] (JE false Qnm))(b2:Binds K fd2 ["stairs", "size"] [])(k2:PySem.W.keepIn K (.ref f2)=true)
  (m3:mg "stair_board" = some (.ref f3))(G3:FnOk P w K mg base CX0 5 f3 fd3 ["stairs"] (JE false Quj))(b3:Binds K fd3 ["stairs"] [])(k3:PySem.W.keepIn K (.ref f3)=true)
  (m4:mg "every_stand" = some (.ref f4))(G4:FnOk P w K mg base CX0 3 f4 fd4 ["board", "size"] (JE true evD))(b4:Binds K fd4 ["board", "size"] [])(k4:PySem.W.keepIn K (.ref f4)=true)
  (m5:mg "weight" = some (.ref f5))(G5:FnOk P w K mg base CX0 3 f5 fd5 ["board", "stand"] (JE false wtD))(b5:Binds K fd5 ["board", "stand"] [])(k5:PySem.W.keepIn K (.ref f5)=true) :
  FnOk P w K mg base CX0 6 f fd ["stairs", "size"] (JE true QwN):=by
 refine okQ true F Qh0 (λargs R EX h=>?_) (λcdv A outer s H E hr=>?_)
 ·obtain⟨ns,k,rfl,_⟩:=h;rfl
 ·have hU:=Room.u60 hr;have hI:=Room.i60 hr;refine⟨_,QH (Qal (Jg (JY G1 (hr.mono (by decide)) (by rfl) m1 k1 b1 JK (Zu (qv 0) Jo))))
   (QH (Qal (Jg (JY G2 (hr.mono (by decide)) (by rfl) m2 k2 b2 JK (Zu (qv 0) (Zu (qv 1) Jo)))))
   (QH (Z8 2 (JY G3 (hr.mono (by decide)) (by rfl) m3 k3 b3 JK (Zu (qv 0) Jo)) Qh0.nd)
   (QH (Y7 3 (ZE Qaa QaY (QP (QaJ (QdT JA Jb))) (QP (ZE Zz Yg (QP (Js (QdK rfl) Qhs (by rfl) T.sum QeB (YB (qp 0) Jb))) (Jg JA)))) Qh0.nd)
   (QH (YO Q8 rfl (QaW (Zi (ZS G4 (hr.mono (by decide)) (by rfl) m4 k4 b4 JK (Zu (qv 2) (Zu (qv 1) Jo))))) (Zp 4 Qh0.nd rfl (by first | exact Q4 rfl | exact Q0 rfl))
    (QZ (QkE 3 Qpp Qle (Jg (JY G5 (hr.mono (by decide)) (by rfl) m5 k5 b5 JK (Zu (qv 2) (Zu (qv 4) Jo)))) (Jg JA))))
   (QZ (QaT 3)))))),λargs R EX h=>?_⟩
  obtain⟨ns,k,rfl,hs,h20,hk,hR⟩:=h;have g:=Qa1 hs;have h6:=hs.l6;have hc:=QeX hs;have es:=Qrm hs;refine⟨_,rfl,hs,h20,_,_,rfl,hk,_,rfl,hs,QgR ns rfl ⟨⟨by omega,by omega,by show 1*_<=_;omega⟩,?_⟩⟩;rw[Qp9 (stC ns) es];refine⟨_,_,_,_,rfl,g,by omega,?_⟩;refine Zq (λj δ=>∃ds x4,δ=[.v (tI ns),.v (.int k),.v (sBd ns),.own ds,x4]/\ds=wtR (stC ns) ((evS (stC ns) k).take j)) ⟨_,_,rfl,rfl⟩ ?_ ?_
  ·rintro j d δ hd ⟨ds,x4,rfl,rfl⟩;rw[Qh] at hd;obtain⟨L,eL,rfl⟩:∃L,(evS (stC ns) k)[j]? = some L/\d=stT L:=by
    cases e:(evS (stC ns) k)[j]? with
    |none=>rw[e] at hd;cases hd
    |some p=>rw[e] at hd;cases hd;exact⟨p,rfl,rfl⟩
   refine⟨_,_,_,_,rfl,wt (stC ns) L,_,?_,Qt1 L,?_⟩
   ·rw[Qrc];exact Qdx (by have:=QjW (stC ns) L;omega)
   ·exact⟨_,_,rfl,Qt0 eL⟩
  ·rintro δ ⟨ds,x4,rfl,rfl⟩;rw[Qe,J3];exact hR
theorem QhY:Ji ["stairs", "size", "board"] ["stairs", "size"] (Ql Qed):=⟨rfl,rfl,rfl,by decide +kernel,rfl,by decide +kernel,by decide +kernel⟩
theorem Qoc{tc tP f f1 f2 f3 f4 f5  : Addr}{fd fd1 fd2 fd3 fd4 fd5:QK}(hcd:fd.code=.ref tc)(hC:PySem.W.CodeHd base tc tP)(hB:Qbz base mg)(F:Fun K "lightest" "lightest" Qed f fd)(T:GlbA mg)
  (m1:mg "refuse_too_many" = some (.ref f1))(G1:FnOk P w K mg base CX0 5 f1 fd1 ["stairs"] (JE false Qky))(b1:Binds K fd1 ["stairs"] [])(k1:PySem.W.keepIn K (.ref f1)=true)
  (m2:mg "refuse_no_size" = some (.ref f2))(G2:FnOk P w K mg base CX0 3 f2 fd2 ["stairs", "size"] (JE false Qnm))(b2:Binds K fd2 ["stairs", "size"] [])(k2:PySem.W.keepIn K (.ref f2)=true)
  (m3:mg "stair_board" = some (.ref f3))(G3:FnOk P w K mg base CX0 5 f3 fd3 ["stairs"] (JE false Quj))(b3:Binds K fd3 ["stairs"] [])(k3:PySem.W.keepIn K (.ref f3)=true)
  (m4:mg "every_stand" = some (.ref f4))(G4:FnOk P w K mg base CX0 3 f4 fd4 ["board", "size"] (JE true evD))(b4:Binds K fd4 ["board", "size"] [])(k4:PySem.W.keepIn K (.ref f4)=true)
  (m5:mg "weight" = some (.ref f5))(G5:FnOk P w K mg base CX0 3 f5 fd5 ["board", "stand"] (JE false wtD))(b5:Binds K fd5 ["board", "stand"] [])(k5:PySem.W.keepIn K (.ref f5)=true) :
  FnOk P w K mg base CX0 6 f fd ["stairs", "size"] (spT tP Qox (JE false Qlw)):=by
 refine Qzw false F hcd QhY (λargs R EX h=>?_) (λA outer s H E hr hT=>?_)
 ·obtain⟨ns,k,rfl,_⟩:=h;rfl
 ·have hU:=Room.u60 hr;have hI:=Room.i60 hr;refine⟨_,QH (Qal (Jg (JY G1 (hr.mono (by decide)) (by rfl) m1 k1 b1 JK (Zu (qv 0) Jo))))
   (QH (Qal (Jg (JY G2 (hr.mono (by decide)) (by rfl) m2 k2 b2 JK (Zu (qv 0) (Zu (qv 1) Jo)))))
   (QH (Z8 2 (JY G3 (hr.mono (by decide)) (by rfl) m3 k3 b3 JK (Zu (qv 0) Jo)) QhY.nd)
   (QZ (ZW (Qnq (cb:=s.heap.objs.size+1) 2 G5 (hr.mono (by decide)) (by rfl) T.min b5 m5 k5 hT hC hB rfl rfl rfl (QP (ZS G4 (hr.mono (by decide)) (by rfl) m4 k4 b4 JK (Zu (qv 2) (Zu (qv 1) Jo)))) rfl rfl rfl rfl rfl rfl rfl (by decide +kernel) rfl rfl (Qoq (by decide) (by decide)) rfl (by decide) (by decide) (by decide) (by decide) (by decide) (λ_ _ _ _=>rfl) rfl rfl))))),λargs R EX h=>?_⟩
  obtain⟨ns,k,rfl,hs,h20,hk,hR⟩:=h;have g:=Qa1 hs;have h6:=hs.l6;refine⟨_,rfl,hs,h20,_,_,rfl,hk,_,rfl,hs,_,_,_,_,rfl,g,by omega,?_⟩;show Qcs wtD (sBd ns) (.list ((evS (stC ns) k).map stT)) R;have gt:∀(i:Nat) d,((evS (stC ns) k).map stT)[i]? = some d->∃L,(evS (stC ns) k)[i]? = some L/\d=stT L:=λi d hd=>by
   rw[Qh] at hd;cases e:(evS (stC ns) k)[i]? with
   |none=>rw[e] at hd;cases hd
   |some p=>rw[e] at hd;cases hd;exact⟨p,rfl,rfl⟩
  refine Qlq (wtV (stC ns) k) (λi d hd=>?_) (λe=>?_) λd hd=>?_
  ·obtain⟨L,eL,rfl⟩:=gt i d hd;refine⟨_,_,stC ns,L,rfl,?_⟩;unfold wtV;rw[Qf,eL];rfl
  ·have e:=List.map_eq_nil_iff.mp e;have:QtG (stC ns) k=.none:=by unfold QtG Qpo;rw[e];rfl
   rw[this] at hR;exact hR
  ·rw[Qe] at hd;obtain⟨L,eL,rfl⟩:=gt _ d hd;have:QtG (stC ns) k=stT L:=by unfold QtG Qpo;rw[eL]
   rw[this] at hR;exact hR
theorem QhZ:Ji ["stairs", "stand", "board"] ["stairs", "stand"] (Ql Qee):=⟨rfl,rfl,rfl,by decide +kernel,rfl,by decide +kernel,by decide +kernel⟩
theorem Qod{f f1 f2 f3  : Addr}{fd fd1 fd2 fd3:QK}(F:Fun K "left_cells" "left_cells" Qee f fd)(T:GlbA mg)
  (m1:mg "stair_board" = some (.ref f1))(G1:FnOk P w K mg base CX0 5 f1 fd1 ["stairs"] (JE false Quj))(b1:Binds K fd1 ["stairs"] [])(k1:PySem.W.keepIn K (.ref f1)=true)
  (m2:mg "is_stand" = some (.ref f2))(G2:FnOk P w K mg base CX0 5 f2 fd2 ["board", "thing"] (JE false Qkh))(b2:Binds K fd2 ["board", "thing"] [])(k2:PySem.W.keepIn K (.ref f2)=true)
  (m3:mg "cells_left" = some (.ref f3))(G3:FnOk P w K mg base CX0 2 f3 fd3 ["board", "stand"] (JE false Qiw))(b3:Binds K fd3 ["board", "stand"] [])(k3:PySem.W.keepIn K (.ref f3)=true) :
  FnOk P w K mg base CX0 7 f fd ["stairs", "stand"] (JE false Qhh):=by
 refine okQ false F QhZ (λargs R EX h=>?_) (λcdv A outer s H E hr=>?_)
 ·obtain⟨ns,L,rfl,_⟩:=h;rfl
 ·have hU:=Room.u60 hr;have hI:=Room.i60 hr;refine⟨_,QH (Z8 2 (JY G1 (hr.mono (by decide)) (by rfl) m1 k1 b1 JK (Zu (qv 0) Jo)) QhZ.nd)
   (QH (QaU (QaS (QaR (Jg (JY G2 (hr.mono (by decide)) (by rfl) m2 k2 b2 JK (Zu (qv 2) (Zu (qv 1) Jo)))))) Qaq Z3)
   (QZ (ZW (JY G3 (hr.mono (by decide)) (by rfl) m3 k3 b3 JK (Zu (qv 2) (Zu (qv 1) Jo)))))),λargs R EX h=>?_⟩
  obtain⟨ns,L,rfl,hs,l1,hb,hR⟩:=h;refine⟨_,rfl,hs,_,_,_,_,rfl,Qkl (k:=1000) (by rw[Qe];exact l1) (by decide),?_⟩;rw[show QtI (sH ns) ns.length (stC ns) (stT L)=true from hb];exact⟨_,_,_,_,rfl,hR⟩
end
def QtJ(x:Int):List Int->List Int
 |[]=>[x]
 |y::r=>if x<=y then x::y::r else y::QtJ x r
def QwD:List Int->List Int
 |[]=>[]
 |x::r=>QtJ x (QwD r)
theorem Qdz(x:Int):∀l:List Int,(QtJ x l).Perm (x::l)
 |[]=>.refl _
 |y::r=>by
  unfold QtJ;split
  ·exact .refl _
  ·exact((Qdz x r).cons y).trans (.swap _ _ _)
theorem Qap:∀l:List Int,(QwD l).Perm l
 |[]=>.nil
 |x::r=>(Qdz x _).trans ((Qap r).cons x)
theorem QlF(x:Int):∀l:List Int,l.Pairwise (·<=·)->(QtJ x l).Pairwise (·<=·)
 |[],_=>Qa8 _ _
 |y::r,h=>by
  obtain⟨h1,h2⟩:=Qaw.mp h;unfold QtJ;split
  ·rename_i q
   exact .cons (λz hz=>(Qt.mp hz).elim (λe=>e ▸ q) λhz=>Y4 q (h1 z hz)) h
  ·rename_i q
   refine .cons (λz hz=>?_) (QlF x r h2);rcases Qt.mp ((Qdz x r).mem_iff.mp hz) with e | e
   ·rw[e];omega
   ·exact h1 z e
theorem QgU:∀l:List Int,(QwD l).Pairwise (·<=·)
 |[]=>.nil
 |x::r=>QlF x _ (QgU r)
theorem Qro{a b:List Int}(p:a.Perm b)(h1:a.Pairwise (·<=·))(h2:b.Pairwise (·<=·)):a=b:=Qd3 (le:=λa b=>a<=b) (λa b _ _ h1 h2=>Int.le_antisymm h1 h2) h1 h2 p
theorem Qs8(ns:List Int):(QcC (ns.map Qb)).map (λd=>match d with | .tuple [.int p,.int n]=>Qb (n - p) | _=>.none)=(hdL ns).map Qb:=by
 unfold QcC hdL;rw[QY,QY,Qe];refine QQ λi hi=>?_
 have hi:=Q9.mp hi;have e:(ns.map Qb).getD i .none=.int (ns.getD i 0):=by
  rw[Qf,Qh,Qg hi,Qf,Qg hi];rfl
 show(match YT [.int i,(ns.map Qb).getD i .none] with | .tuple [.int p,.int n]=>Qb (n - p) | _=>.none)=_;rw[e];rfl
theorem Qpu:∀(ns t:List Int),(ns.foldl ccI t).length=ns.length+t.length
 |[],t=>by show t.length=0+t.length;omega
 |n::ns,t=>by show(ns.foldl ccI (ccI t n)).length=_;rw[Qpu ns,QdJ,QM];omega
def wrI(t:List Int)(n:Int):List Int:=(Qm t.length).map λi=>t.getD i 0*(n - (i:Int))
theorem QjY(t:List Int)(n:Int):(wrI t n).length=t.length:=by unfold wrI;rw[Qe,QD]
theorem Qs7(t:List Int)(n:Int):(QcC (t.map Qb)).map (λd=>match d with | .tuple [.int s,.int m]=>Qb (m*(n - s)) | _=>.none)=(wrI t n).map Qb:=by
 unfold QcC wrI;rw[QY,QY,Qe];refine QQ λi hi=>?_
 have hi:=Q9.mp hi;have e:(t.map Qb).getD i .none=.int (t.getD i 0):=by
  rw[Qf,Qh,Qg hi,Qf,Qg hi];rfl
 show(match YT [.int i,(t.map Qb).getD i .none] with | .tuple [.int s,.int m]=>Qb (m*(n - s)) | _=>.none)=_;rw[e];rfl
theorem QtZ(t:List Int)(n:Int):(Qd5 (t.map Qb++[.int 0]) ([.int 0]++(wrI t n).map Qb)).map (λd=>match d with | .tuple [.int a,.int b]=>Qb (a+b) | _=>.none)=(ccI t n).map Qb:=by
 have e1:t.map Qb++[.int 0]=(t++[0]).map Qb:=by rw[Jk];rfl
 have e2:[Qb 0]++(wrI t n).map Qb=(0::wrI t n).map Qb:=rfl;rw[e1,e2];unfold Qd5;rw[List.zipWith_map,Qp0];have e3:Qjx (λ(a b:Int)=>(match YT [.int a,.int b] with | .tuple [.int a,.int b]=>Qb (a+b) | _=>.none)) (t++[0]) (0::wrI t n)=(Qjx (λa b=>a+b) (t++[0]) (0::wrI t n)).map Qb:=by rw[Qp0]
 rw[e3]
 congr 1
 refine Qp4 (by rw[QmC,QdJ,Qx];show min (t.length+1) ((wrI t n).length+1)=_;rw[QjY];exact Nat.min_self _) λk h1 h2=>?_
 rw[QdJ] at h2;have a:=QpM t n k;rw[Qf,Qg (by rw[QdJ];exact h2)] at a;have a:(ccI t n)[k]=_:=a;rw[a,List.getElem_zipWith];have b1:(t++[0])[k]'(by rw[Qx];exact h2)=t.getD k 0:=by
  by_cases z:k<t.length
  ·rw[List.getElem_append_left z,Qf,Qg z];rfl
  ·have:k=t.length:=by omega
   subst this;rw[List.getElem_append_right (Qi _),Qf,QL (Qi _)];simp
 rw[b1]
 congr 1
 cases k with
 |zero=>rfl
 |succ k=>
  rw[if_neg (by omega)];show(wrI t n)[k]'_=t.getD k 0*(n - (k:Int));unfold wrI;rw[List.getElem_map,QmQ]
theorem QvM{ns:List Int}(hs:JQ ns){m:Int}(h:m∈hdL ns) : -6<=m/\m<=6:=by
 unfold hdL at h;obtain⟨i,hi,rfl⟩:=Qo.mp h;have hi:=Q9.mp hi;have:=hs.bd _ (getD_mem hi);have:=hs.l6;omega
theorem int_at{ms:List Int}{i:Nat}{d:PyData}(h:(ms.map Qb)[i]? = some d):∃m,ms[i]? = some m/\d=.int m:=by
 rw[Qh] at h;cases z:ms[i]? with
 |none=>rw[z] at h;cases h
 |some r=>rw[z] at h;cases h;exact⟨r,rfl,rfl⟩
def cwT(a b:List Int)(i k:Nat):Int:=if i<=k then a.getD i 0*b.getD (k - i) 0 else 0
def cwS(a b:List Int):List Int:=(Qm (a.length+b.length - 1)).map λk=>Yw a.length λi=>cwT a b i k
def QsI:DF:=λargs R _=>∃a b:List Int,args=[.v (.list (a.map Qb)),.v (.list (b.map Qb))]/\1<=a.length/\a.length<=500/\1<=b.length/\b.length<=500/\(∀y∈b,-(2^64)<y/\y<2^64)/\R (.list ((cwS a b).map Qb))
def mlR(a b:List Int)(n i j:Nat):List PyData:=(Qm n).map λk=>.int (Yw i (λi=>cwT a b i k)+(if i<=k/\k<i+j then a.getD i 0*b.getD (k - i) 0 else 0))
theorem Qfe(a b:List Int)(n i j:Nat):(mlR a b n i j).length=n:=by unfold mlR;rw[Qe,QD]
theorem Qgh(a b:List Int)(n:Nat):(QJ n [Qb 0]).flatten=mlR a b n 0 0:=by
 have e:∀n,(QJ n [Qb 0]).flatten=QJ n (Qb 0):=λn=>by
  induction n with
  |zero=>rfl
  |succ n ih=>rw[Ja,JS,ih,Ja];rfl
 rw[e];unfold mlR;refine Yk λk=>?_
 rw[Zr,Qh];by_cases hk:k<n
 ·rw[if_pos hk,Q6 hk];show _=some (Qb (0+(if 0<=k/\k<0+0 then _ else 0)));rw[if_neg (by omega)];rfl
 ·rw[if_neg hk,QL (by rw[QD];omega)];rfl
theorem Qig{a b:List Int}{n i j:Nat}(hj:j<b.length)(hn:i+j<n):(mlR a b n i j).set (i+j) (.int (Yw i (λi'=>cwT a b i' (i+j))+(if i<=i+j/\i+j<i+j then a.getD i 0*b.getD (i+j - i) 0 else 0)+a.getD i 0*b.getD j 0))=mlR a b n i (j+1):=by
 refine Yk λk=>?_
 rw[QaL,Qfe];unfold mlR;by_cases z:i+j=k
 ·subst z;rw[if_pos rfl,if_pos hn,Qh,Q6 hn];show some (Qb (Yw i (λi'=>cwT a b i' (i+j))+(if i<=i+j/\i+j<i+j then a.getD i 0*b.getD (i+j - i) 0 else 0)+a.getD i 0*b.getD j 0))=some (Qb (Yw i (λi'=>cwT a b i' (i+j))+(if i<=i+j/\i+j<i+(j+1) then a.getD i 0*b.getD (i+j - i) 0 else 0)));rw[if_neg (by omega),if_pos (by omega),QiH,Zf]
 ·rw[if_neg z,Qh,Qh];by_cases hk:k<n
  ·rw[Q6 hk];show some (Qb _)=some (Qb _);have:(i<=k/\k<i+j)↔(i<=k/\k<i+(j+1)):=by omega
   by_cases y:i<=k/\k<i+j
   ·rw[if_pos y,if_pos (this.mp y)]
   ·rw[if_neg y,if_neg λq=>y (this.mpr q)]
  ·rw[QL (by rw[QD];omega)];rfl
theorem Qlp{a b:List Int}{n i:Nat}:mlR a b n i b.length=mlR a b n (i+1) 0:=by
 unfold mlR;refine QQ λk _=>?_
 show Qb (Yw i (λi=>cwT a b i k)+_)=Qb ((Yw i (λi=>cwT a b i k)+cwT a b i k)+_);rw[if_neg (by omega:¬(i+1<=k/\k<i+1+0))]
 congr 1
 unfold cwT;by_cases y:i<=k
 ·by_cases x:k<i+b.length
  ·rw[if_pos ⟨y,x⟩,if_pos y];omega
  ·rw[if_neg λq=>x q.2,if_pos y,show b.getD (k - i) 0=0 by rw[Qf,QL (by omega)];rfl];omega
 ·rw[if_neg λq=>y q.1,if_neg y];omega
theorem QcB(ns:List Int):QvQ (.list (ns.map Qb))=true:=JM.mpr λd hd=>by
 obtain⟨i,_,rfl⟩:=Qo.mp hd;rfl
def hdS(ns:List Int):List Int:=QwD (hdL ns)
def Qik:DF:=λargs R _=>∃ns,args=[.v (tI ns)]/\JQ ns/\R (.list ((hdS ns).map Qb))
def tmS(a b:List Int):List Int:=if a=[]∨b=[] then[] else cwS a b
def ZZ(n:Int):List Int:=QJ n.toNat 1
def prS(m:Int)(hs:List Int)(t:List Int):List Int:=hs.foldl (λt h=>tmS t (ZZ (m+h))) t
def opL(m:Int)(ns:List Int):List Int:=prS m (hdS ns) [1]
def Qss:DF:=λargs R _=>∃(ns:List Int)(m:Int),args=[.v (tI ns),.v (.int m)]/\JQ ns/\ns.sum<=20/\0<=m/\m<=8/\R (.list ((opL m ns).map Qb))
def Qj5:DF:=λargs R _=>∃a b:List Int,args=[.v (.list (a.map Qb)),.v (.list (b.map Qb))]/\a.length<=500/\b.length<=500/\(∀y∈b,-(2^64)<y/\y<2^64)/\R (.list ((tmS a b).map Qb))
theorem Qk3(n:Int):(QJ n.toNat [Qb 1]).flatten=(ZZ n).map Qb:=by
 unfold ZZ;rw[List.map_replicate];generalize n.toNat=k;induction k with
 |zero=>rfl
 |succ k ih=>rw[Ja,JS,ih,Ja];rfl
theorem QkL(m:Int):∀hs:List Int,prS m hs []=[]
 |[]=>rfl
 |h::hs=>by
  show prS m hs (tmS [] (ZZ (m+h)))=[];rw[show tmS [] (ZZ (m+h))=[] from if_pos (.inl rfl)];exact QkL m hs
theorem Qe9{m h:Int}(hh:m+h<=0):∀{hs:List Int}(t:List Int),h∈hs->prS m hs t=[]
 |x::hs,t,hm=>by
  show prS m hs (tmS t (ZZ (m+x)))=[];rcases Qt.mp hm with e | e
  ·have:ZZ (m+x)=[]:=by
    unfold ZZ;rw[<- e,show(m+h).toNat=0 by omega];rfl
   rw[this,show tmS t []=[] from if_pos (.inr rfl)];exact QkL m hs
  ·exact Qe9 hh _ e
theorem Qpt{ns:List Int}(hs:JQ ns){x:Int}(h:x∈hdS ns) : -6<=x/\x<=6:=QvM hs ((Qap _).mem_iff.mp h)
theorem QsZ(ns:List Int):(hdS ns).length=ns.length:=by
 unfold hdS;rw[(Qap _).length_eq];unfold hdL;rw[Qe,QD]
theorem QdH(a b:List Int):(cwS a b).length=a.length+b.length - 1:=by unfold cwS;rw[Qe,QD]
theorem Qfa{m:Int}{hs:List Int}{j:Nat}{h:Int}(e:hs[j]? = some h):prS m (hs.take (j+1)) [1]=tmS (prS m (hs.take j) [1]) (ZZ (m+h)):=by
 unfold prS;rw[JR,e,QaM];rfl
theorem QkM{m:Int}(m8:m<=8){hs:List Int}(hb:∀x∈hs,x<=6):∀j,(prS m (hs.take j) [1]).length<=1+14*j
 |0=>by show([1]:List Int).length<=_;simp
 |j+1=>by
  have ih:=QkM m8 hb j;cases e:hs[j]? with
  |none=>
   have:hs.take (j+1)=hs.take j:=by rw[JR,e];simp
   rw[this];omega
  |some h=>
   rw[Qfa e];have hh:=hb h (Qz e);unfold tmS;split
   ·show 0<=_;omega
   ·rw[QdH];have:(ZZ (m+h)).length<=14:=by unfold ZZ;rw[JF];omega
    omega
theorem Qpg{m:Int}{hs:List Int}(hb:∀x∈hs,0<m+x):∀j,prS m (hs.take j) [1]≠[]
 |0=>λe=>nomatch e
 |j+1=>by
  have ih:=Qpg hb j;cases e:hs[j]? with
  |none=>
   have:hs.take (j+1)=hs.take j:=by rw[JR,e];simp
   rw[this];exact ih
  |some h=>
   rw[Qfa e];have hh:=hb h (Qz e);have ho:(ZZ (m+h)).length≠0:=by unfold ZZ;rw[JF];omega
   have hne:ZZ (m+h)≠[]:=λz=>by rw[z] at ho;exact ho rfl
   unfold tmS;rw[if_neg (λz=>z.elim ih hne)];intro z;have l1:=congrArg QfG z;rw[QdH] at l1;have l1:_+_ - 1=0:=l1;have lp:0<(prS m (hs.take j) [1]).length:=JP.mpr ih;omega
def Qps:DF:=λargs R _=>∃ns,args=[.v (tI ns)]/\JQ ns/\∀ms:List Int,ms.Perm (hdL ns)->ms.Pairwise (·<=·)->R (.list (ms.map Qb))
def QrO:DF:=λargs R _=>∃(ns:List Int)(x:Int),args=[.v (tI ns),.v (.int x)]/\JQ ns/\0<=x/\x<=1000000000/\R (.int (prI x (hdL ns)))
def Qtp:DF:=λargs R _=>∃(t:List Int)(n:Int),args=[.v (.list (t.map Qb)),.v (.int n)]/\t.length<=10/\0<=n/\n<=6/\R (.list ((ccI t n).map Qb))
def Qs0:DF:=λargs R _=>∃ns,args=[.v (tI ns)]/\JQ ns/\R (.list ((hcI ns).map Qb))
section
variable{P:QN}{w:Jj}{K:PySem.W.Frag}{mg:Str->Option Value}{base:J8}
theorem Qge:(["place", "number"]:List Str).Nodup:=by decide +kernel
theorem Qnf:Ji ["stairs"] ["stairs"] (Ql Qef):=⟨rfl,rfl,rfl,by decide +kernel,rfl,by decide +kernel,by decide +kernel⟩
theorem Qoe{f f1  : Addr}{fd fd1:QK}(F:Fun K "heads" "heads" Qef f fd)(T:GlbA mg)
  (m1:mg "refuse_no_stairs" = some (.ref f1))(G1:FnOk P w K mg base CX0 4 f1 fd1 ["stairs"] (JE false Qg0))(b1:Binds K fd1 ["stairs"] [])(k1:PySem.W.keepIn K (.ref f1)=true) :
  FnOk P w K mg base CX0 5 f fd ["stairs"] (JE true Qik):=by
 refine okQ true F Qnf (λargs R EX h=>?_) (λcdv A outer s H E hr=>?_)
 ·obtain⟨ns,rfl,_⟩:=h;rfl
 ·have hU:=Room.u60 hr;have hI:=Room.i60 hr;refine⟨_,QH (Qal (Jg (JY G1 (hr.mono (by decide)) (by rfl) m1 k1 b1 JK (Zu (qv 0) Jo))))
   (QZ (Qay (Js Qjo Qtl (by rfl) T.sorted Qmi (YB (QP (QaF ["place", "number"] [none,none] (Qh7 (by rfl) T.enumerate (qp 0)) (λcl ex s3 H3 C=>⟨(Y8 rfl (JJ 0 (JJ 1 Y9 Qge rfl (Q4 rfl) (Q0 rfl)) Qge rfl (Q4 rfl) (Q0 rfl))),Z2,(Zi (ZE Qbx Qb2 (qp 1) (qp 0)))⟩))) Jb)))),λargs R EX h=>?_⟩
  obtain⟨ns,rfl,hs,hR⟩:=h;refine⟨ns,rfl,hs,?_⟩;refine Qab (λd=>match d with | .tuple [.int p,.int n]=>.int (n - p) | _=>.none) (λd hd k2 hk=>?_) ?_
  ·obtain⟨i,hi⟩:=Jw.mp hd;obtain⟨e,he,rfl⟩:=ZX hi;obtain⟨m,_,rfl⟩:=Qo.mp (Qz he);exact⟨rfl,hk⟩
  ·rw[Qs8];have l6:=hs.l6;exact(Qrp (ds:=(hdL ns).map Qb) (ns:=hdL ns) (QcE _) (by unfold hdL;rw[Qe,QD];omega) λms pm pw=>by rw[show ms=hdS ns from Qro (pm.trans (Qap _).symm) pw (QgU _)];exact hR).1
theorem Qck:Ji ["one", "other", "told", "at", "number", "further", "factor"] ["one", "other"] (Ql Qi0):=⟨rfl,rfl,rfl,by decide +kernel,rfl,by decide +kernel,by decide +kernel⟩
theorem Qsz{f   : Addr}{fd  : QK}(F:Fun K "multiplied" "multiplied" Qi0 f fd)(T:GlbA mg) :
  FnOk P w K mg base CX0 1 f fd ["one", "other"] (JE true QsI):=by
 refine okQ true F Qck (λargs R EX h=>?_) (λcdv A outer s H E hr=>?_)
 ·obtain⟨a,b,rfl,_⟩:=h;rfl
 ·have hU:=Room.u60 hr;have hI:=Room.i60 hr;refine⟨_,QH (Y7 2 (ZE Qaa QaY (QP (QaJ (QdT JA Jb))) (QP (ZE Qbx Qb2 (QP (ZE Zz Yg (QP (Js J1 YG (by rfl) T.len Yi (YB (qp 0) Jb))) (QP (Js J1 YG (by rfl) T.len Yi (YB (qp 1) Jb))))) (Jg JA)))) Qck.nd)
   (QH (YO Q8 rfl (Qbd (by rfl) T.enumerate (qv 0)) (Y8 rfl (JJ 3 (JJ 4 Y9 Qck.nd rfl (by first | exact Q4 rfl | exact Q0 rfl)) Qck.nd rfl (by first | exact Q4 rfl | exact Q0 rfl)))
    (QZ (YO Q8 rfl (Qbd (by rfl) T.enumerate (qv 1)) (Y8 rfl (JJ 5 (JJ 6 Y9 Qck.nd rfl (by first | exact Q4 rfl | exact Q0 rfl)) Qck.nd rfl (by first | exact Q4 rfl | exact Q0 rfl)))
    (QZ (QkE 2 Qpp Qle (QP (ZE Zz Yg (qp 3) (qp 5))) (QP (ZE Qaa QaY (qp 4) (qp 6))))))))
   (QZ (QaT 2))),λargs R EX h=>?_⟩
  obtain⟨a,b,rfl,a1,a5,b1,b5,hb,hR⟩:=h;have la:=QtH a;have lb:=QtH b;refine⟨⟨by omega,by omega,by show 1*_<=_;omega⟩,?_⟩;have en:(((a.map Qb).length:Int)+((b.map Qb).length:Int) - 1).toNat=a.length+b.length - 1:=by omega
  rw[en,Qgh a b];refine Zq (λi δ=>∃x3 x4 x5 x6,δ=[.v (.list (a.map Qb)),.v (.list (b.map Qb)),.own (mlR a b (a.length+b.length - 1) i 0),x3,x4,x5,x6]) ⟨_,_,_,_,rfl⟩ ?_ ?_
  ·rintro i d δ hd ⟨x3,x4,x5,x6,rfl⟩;obtain⟨e,he,rfl⟩:=ZX hd;rw[Qh] at he;obtain⟨x,ex,rfl⟩:∃x,a[i]? = some x/\e=.int x:=by
    cases z:a[i]? with
    |none=>rw[z] at he;cases he
    |some x=>rw[z] at he;cases he;exact⟨x,rfl,rfl⟩
   have hi:i<a.length:=(Qs.mp ex).1;have gx:a.getD i 0=x:=by rw[Qf,ex];rfl
   refine⟨rfl,Zq (λj δ=>∃x5 x6,δ=[.v (.list (a.map Qb)),.v (.list (b.map Qb)),.own (mlR a b (a.length+b.length - 1) i j),.v (.int i),.v (.int x),x5,x6]) ⟨_,_,rfl⟩ ?_ ?_⟩
   ·rintro j d δ hd2 ⟨x5,x6,rfl⟩;obtain⟨e,he2,rfl⟩:=ZX hd2;rw[Qh] at he2;obtain⟨y,ey,rfl⟩:∃y,b[j]? = some y/\e=.int y:=by
     cases z:b[j]? with
     |none=>rw[z] at he2;cases he2
     |some x=>rw[z] at he2;cases he2;exact⟨x,rfl,rfl⟩
    have hj:j<b.length:=(Qs.mp ey).1;have gy:b.getD j 0=y:=by rw[Qf,ey];rfl
    have hn:i+j<a.length+b.length - 1:=by omega
    have by_:=hb y (Qz ey);refine⟨rfl,i+j,.int (Yw i (λi'=>cwT a b i' (i+j))+(if i<=i+j/\i+j<i+j then a.getD i 0*b.getD (i+j - i) 0 else 0)),?_,?_,.inl (.inr by_),.v (.int j),.v (.int y),?_⟩
    ·rw[Qfe,<- QfP];exact Qdx hn
    ·unfold mlR;rw[Qh,Q6 hn];rfl
    ·rw[<- Qig hj hn,gx,gy];rfl
   ·rintro δ ⟨x5,x6,rfl⟩;rw[YC,lb,Qlp];exact⟨_,_,_,_,rfl⟩
  ·rintro δ ⟨x3,x4,x5,x6,rfl⟩;rw[YC,la];have e:mlR a b (a.length+b.length - 1) a.length 0=(cwS a b).map Qb:=by
    unfold mlR cwS;rw[QY];refine QQ λk _=>?_
    show Qb (Yw a.length (λi=>cwT a b i k)+(if a.length<=k/\k<a.length+0 then a.getD a.length 0*b.getD (k - a.length) 0 else 0))=Qb (Yw a.length λi=>cwT a b i k);rw[if_neg (by omega),Zf]
   rw[e];exact hR
theorem Qif:(["size", "many", "number"]:List Str).Nodup:=by decide +kernel
theorem Qie:(["many", "more"]:List Str).Nodup:=by decide +kernel
theorem Qkv:Ji ["told", "number", "with_rook"] ["told", "number"] (Ql Qi2):=⟨rfl,rfl,rfl,by decide +kernel,rfl,by decide +kernel,by decide +kernel⟩
theorem QsC{f   : Addr}{fd  : QK}(F:Fun K "counts_with_column" "counts_with_column" Qi2 f fd)(T:GlbA mg) :
  FnOk P w K mg base CX0 1 f fd ["told", "number"] (JE true Qtp):=by
 refine okQ true F Qkv (λargs R EX h=>?_) (λcdv A outer s H E hr=>?_)
 ·obtain⟨t,n,rfl,_⟩:=h;rfl
 ·have hU:=Room.u60 hr;have hI:=Room.i60 hr;refine⟨_,QH (Qe5 ["size", "many", "number"] [none,none,some 1] 2 Qkv.nd (Qbd (by rfl) T.enumerate (qp 0)) (λcl ex s3 H3 C=>⟨(Y8 rfl (JJ 0 (JJ 1 Y9 Qif rfl (Q4 rfl) (Q0 rfl)) Qif rfl (Q4 rfl) (Q0 rfl))),Z2,(Zi (ZE Qaa QaY (qp 1) (QP (ZE Qbx Qb2 (qp 2) (qp 0)))))⟩))
   (QZ (Qay (QaF ["many", "more"] [none,none] (QkG (by rfl) T.zip (QP (ZE Zz Yg (qp 0) (QP (QaJ (QdT JA Jb))))) (QP (ZE Zz Yg (QP (QaJ (QdT JA Jb))) (qp 2)))) (λcl ex s3 H3 C=>⟨(Y8 rfl (JJ 0 (JJ 1 Y9 Qie rfl (Q4 rfl) (Q0 rfl)) Qie rfl (Q4 rfl) (Q0 rfl))),Z2,(Zi (ZE Zz Yg (qp 0) (qp 1)))⟩)))),λargs R EX h=>?_⟩
  obtain⟨t,n,rfl,hl,n0,n6,hR⟩:=h;have lt:(t.map Qb).length=t.length:=Qe _;refine Qab (λd=>match d with | .tuple [.int s,.int m]=>.int (m*(n - s)) | _=>.none) (λd hd k2 hk=>?_) ?_
  ·obtain⟨i,hi⟩:=Jw.mp hd;obtain⟨e,he,rfl⟩:=ZX hi;have hil:=(Qs.mp he).1;obtain⟨m,_,rfl⟩:=Qo.mp (Qz he);exact⟨rfl,.inl (.inr (by show -(2^64:Int)<n - (i:Int)/\n - (i:Int)<2^64;omega)),hk⟩
  ·rw[Qs7];refine⟨by rw[lt];show _+1<=_;omega,by rw[Qe,QjY];show 1+_<=_;omega,Qab (λd=>match d with | .tuple [.int a,.int b]=>.int (a+b) | _=>.none) (λd hd k2 hk=>?_) ?_⟩
   ·obtain⟨i,hi⟩:=Jw.mp hd;obtain⟨a,b,ha,hb,rfl⟩:=Dl.zip_get hi;have ia:∃x,a=.int x:=by
     rcases Jn.mp (Qz ha) with z | z
     ·obtain⟨x,_,rfl⟩:=Qo.mp z;exact⟨x,rfl⟩
     ·exact⟨0,QB.mp z⟩
    have ib:∃x,b=.int x:=by
     rcases Jn.mp (Qz hb) with z | z
     ·exact⟨0,QB.mp z⟩
     ·obtain⟨x,_,rfl⟩:=Qo.mp z;exact⟨x,rfl⟩
    obtain⟨x,rfl⟩:=ia;obtain⟨y,rfl⟩:=ib;exact⟨rfl,hk⟩
   ·rw[QtZ];exact hR
theorem Qe1:Ji ["stairs", "told", "number"] ["stairs"] (Ql Qi1):=⟨rfl,rfl,rfl,by decide +kernel,rfl,by decide +kernel,by decide +kernel⟩
theorem QsB{f f1 f2  : Addr}{fd fd1 fd2:QK}(F:Fun K "head_counts" "head_counts" Qi1 f fd)(T:GlbA mg)
  (m1:mg "refuse_no_stairs" = some (.ref f1))(G1:FnOk P w K mg base CX0 4 f1 fd1 ["stairs"] (JE false Qg0))(b1:Binds K fd1 ["stairs"] [])(k1:PySem.W.keepIn K (.ref f1)=true)
  (m2:mg "counts_with_column" = some (.ref f2))(G2:FnOk P w K mg base CX0 1 f2 fd2 ["told", "number"] (JE true Qtp))(b2:Binds K fd2 ["told", "number"] [])(k2:PySem.W.keepIn K (.ref f2)=true) :
  FnOk P w K mg base CX0 5 f fd ["stairs"] (JE true Qs0):=by
 refine okQ true F Qe1 (λargs R EX h=>?_) (λcdv A outer s H E hr=>?_)
 ·obtain⟨ns,rfl,_⟩:=h;rfl
 ·have hU:=Room.u60 hr;have hI:=Room.i60 hr;refine⟨_,QH (Qal (Jg (JY G1 (hr.mono (by decide)) (by rfl) m1 k1 b1 JK (Zu (qv 0) Jo))))
   (QH (Y7 1 (QaJ (QdT JA Jb)) Qe1.nd)
   (QH (YO Q8 rfl (QaV (qv 0)) (Zp 2 Qe1.nd rfl (by first | exact Q4 rfl | exact Q0 rfl))
    (QZ (Y7 1 (Qg2 G2 (hr.mono (by decide)) (by rfl) m2 k2 b2 JK (YB (qp 1) (YB (qp 2) Jb))) Qe1.nd)))
   (QZ (QaT 1)))),λargs R EX h=>?_⟩
  obtain⟨ns,rfl,hs,hR⟩:=h;have l6:=hs.l6;refine⟨ns,rfl,hs,?_⟩;refine Zq (λi δ=>∃x2,δ=[.v (tI ns),.own (((ns.take i).foldl ccI [1]).map Qb),x2]) ⟨_,rfl⟩ ?_ ?_
  ·rintro i d δ hd ⟨x2,rfl⟩;rw[Qh] at hd;obtain⟨m,hm,rfl⟩:∃m,ns[i]? = some m/\d=.int m:=by
    cases z:ns[i]? with
    |none=>rw[z] at hd;cases hd
    |some r=>rw[z] at hd;cases hd;exact⟨r,rfl,rfl⟩
   have hb:=hs.bd m (Qz hm);have hl:=Qpu (ns.take i) [1];have ht:(ns.take i).length<=ns.length:=by rw[Yz];omega
   have hl:((ns.take i).foldl ccI [1]).length=(ns.take i).length+1:=by rw[hl];rfl
   refine⟨_,m,rfl,by omega,hb.1,hb.2,QcB _,⟨.v (.int m),?_⟩⟩;rw[JR,hm,QaM];rfl
  ·rintro δ ⟨x2,rfl⟩;rw[Qe,J3];exact hR
theorem Qe0:Ji ["stairs", "number", "told", "head"] ["stairs", "number"] (Ql QiY):=⟨rfl,rfl,rfl,by decide +kernel,rfl,by decide +kernel,by decide +kernel⟩
theorem Qsx{f f1 f2 f3  : Addr}{fd fd1 fd2 fd3:QK}(hD:∃t,mg "MOST_TAKEN" = some (.int 1000000000 t))(F:Fun K "product_at" "product_at" QiY f fd)(T:GlbA mg)
  (m1:mg "refuse_no_stairs" = some (.ref f1))(G1:FnOk P w K mg base CX0 4 f1 fd1 ["stairs"] (JE false Qg0))(b1:Binds K fd1 ["stairs"] [])(k1:PySem.W.keepIn K (.ref f1)=true)
  (m2:mg "is_whole_within" = some (.ref f2))(G2:FnOk P w K mg base CX0 2 f2 fd2 ["thing", "least", "most"] (JE false QbE))(b2:Binds K fd2 ["thing", "least", "most"] [])(k2:PySem.W.keepIn K (.ref f2)=true)
  (m3:mg "heads" = some (.ref f3))(G3:FnOk P w K mg base CX0 5 f3 fd3 ["stairs"] (JE true Qps))(b3:Binds K fd3 ["stairs"] [])(k3:PySem.W.keepIn K (.ref f3)=true) :
  FnOk P w K mg base CX0 6 f fd ["stairs", "number"] (JE false QrO):=by
 refine okQ false F Qe0 (λargs R EX h=>?_) (λcdv A outer s H E hr=>?_)
 ·obtain⟨ns,x,rfl,_⟩:=h;rfl
 ·obtain⟨tD,mD⟩:=hD;have hU:=Room.u60 hr;have hI:=Room.i60 hr;refine⟨_,QH (Qal (Jg (JY G1 (hr.mono (by decide)) (by rfl) m1 k1 b1 JK (Zu (qv 0) Jo))))
   (QH (QaU (QaS (QaR (Jg (JY G2 (hr.mono (by decide)) (by rfl) m2 k2 b2 JK (Zu (qv 1) (Zu JA (Zu (Qf7 1000000000 (by rfl) mD ⟨_,rfl⟩) Jo))))))) Qaq Z3)
   (QH (Z8 2 JA Qe0.nd)
   (QH (YO Q8 rfl (QaW (Zi (ZS G3 (hr.mono (by decide)) (by rfl) m3 k3 b3 JK (Zu (qv 0) Jo)))) (Zp 3 Qe0.nd rfl (by first | exact Q4 rfl | exact Q0 rfl))
    (QZ (Quv 2 (Qx5 QsV) QsE (QP (ZE Zz Yg (qp 1) (qp 3))) Qe0.nd)))
   (QZ (ZW (qv 2)))))),λargs R EX h=>?_⟩
  obtain⟨ns,x,rfl,hs,x0,x9,hR⟩:=h;refine⟨ns,rfl,hs,_,_,_,rfl,?_⟩;rw[show inW (.int x) 0 1000000000=true from Qjg x0 x9];refine⟨ns,rfl,hs,λms pm pw=>?_⟩;refine Zq (λi δ=>∃x3,δ=[.v (tI ns),.v (.int x),.v (.int (prI x (ms.take i))),x3]) ⟨_,rfl⟩ ?_ ?_
  ·rintro i d δ hd ⟨x3,rfl⟩;obtain⟨m,hm,rfl⟩:=int_at hd;have hb:=QvM hs (pm.mem_iff.mp (Qz hm));refine⟨.inr ⟨by omega,by omega⟩,.v (.int m),?_⟩;rw[JR,hm,Qg8];show _=[_,_,Sl.v (.int (prI x (ms.take i)*((x+m)*1))),_];rw[Qbq];rfl
  ·rintro δ ⟨x3,rfl⟩;rw[Qe,J3,Qnv x pm];exact hR
end
section
variable{P:QN}{w:Jj}{K:PySem.W.Frag}{mg:Str->Option Value}{base:J8}
theorem Qok:(["head", "number"]:List Str).Nodup:=by decide +kernel
theorem Qdo:Ji ["stairs", "number", "lengths", "told", "length"] ["stairs", "number"] (Ql QiZ):=⟨rfl,rfl,rfl,by decide +kernel,rfl,by decide +kernel,by decide +kernel⟩
theorem Qsy{f f1 f2 f3 f4  : Addr}{fd fd1 fd2 fd3 fd4:QK}(hC:∃t,mg "MOST_ADDED" = some (.int 8 t))(F:Fun K "ones_product" "ones_product" QiZ f fd)(T:GlbA mg)
  (m1:mg "refuse_too_many" = some (.ref f1))(G1:FnOk P w K mg base CX0 5 f1 fd1 ["stairs"] (JE false Qky))(b1:Binds K fd1 ["stairs"] [])(k1:PySem.W.keepIn K (.ref f1)=true)
  (m2:mg "is_whole_within" = some (.ref f2))(G2:FnOk P w K mg base CX0 2 f2 fd2 ["thing", "least", "most"] (JE false QbE))(b2:Binds K fd2 ["thing", "least", "most"] [])(k2:PySem.W.keepIn K (.ref f2)=true)
  (m3:mg "heads" = some (.ref f3))(G3:FnOk P w K mg base CX0 5 f3 fd3 ["stairs"] (JE true Qik))(b3:Binds K fd3 ["stairs"] [])(k3:PySem.W.keepIn K (.ref f3)=true)
  (m4:mg "multiplied" = some (.ref f4))(G4:FnOk P w K mg base CX0 1 f4 fd4 ["one", "other"] (JE true QsI))(b4:Binds K fd4 ["one", "other"] [])(k4:PySem.W.keepIn K (.ref f4)=true) :
  FnOk P w K mg base CX0 6 f fd ["stairs", "number"] (JE true Qss):=by
 refine okQ true F Qdo (λargs R EX h=>?_) (λcdv A outer s H E hr=>?_)
 ·obtain⟨ns,m,rfl,_⟩:=h;rfl
 ·obtain⟨tC,mC⟩:=hC;have hU:=Room.u60 hr;have hI:=Room.i60 hr;refine⟨_,QH (Qal (Jg (JY G1 (hr.mono (by decide)) (by rfl) m1 k1 b1 JK (Zu (qv 0) Jo))))
   (QH (QaU (QaS (QaR (Jg (JY G2 (hr.mono (by decide)) (by rfl) m2 k2 b2 JK (Zu (qv 1) (Zu JA (Zu (Qf7 8 (by rfl) mC ⟨_,rfl⟩) Jo))))))) Qaq Z3)
   (QH (Qe5 ["head", "number"] [none,some 1] 2 Qdo.nd (QaW (QP (ZS G3 (hr.mono (by decide)) (by rfl) m3 k3 b3 JK (Zu (qv 0) Jo)))) (λcl ex s3 H3 C=>⟨(Zp 0 Qok rfl (Q4 rfl) (Q0 rfl)),Z2,(Zi (ZE Zz Yg (qp 1) (qp 0)))⟩))
   (QH (QaU (YA Qi8 QaZ (QP (Js (Qmh rfl) Qtm (by rfl) T.min Qmj (YB (qp 2) Jb))) (Jg JA) (Zc _)) (QZ (Qay (QaJ Jb))) Z3)
   (QH (Y7 3 (QaJ (QdT JA Jb)) Qdo.nd)
   (QH (YO Q8 rfl (QaW (qv 2)) (Zp 4 Qdo.nd rfl (by first | exact Q4 rfl | exact Q0 rfl))
    (QZ (Y7 3 (Qg2 G4 (hr.mono (by decide)) (by rfl) m4 k4 b4 JK (YB (qp 3) (YB (QP (ZE Qaa QaY (QP (QaJ (QdT JA Jb))) (qp 4))) Jb))) Qdo.nd)))
   (QZ (QaT 3))))))),λargs R EX h=>?_⟩
  obtain⟨ns,m,rfl,hs,h20,m0,m8,hR⟩:=h;refine⟨ns,rfl,hs,h20,_,_,_,rfl,?_⟩;rw[show inW (.int m) 0 8=true from Qjg m0 m8];refine⟨ns,rfl,hs,Qab (λd=>.int (m+toI d)) (λd hd k2 hk=>?_) ?_⟩
  ·obtain⟨i,_,rfl⟩:=Qo.mp hd;exact hk
  have e:((hdS ns).map Qb).map (λd=>Qb (m+toI d))=((hdS ns).map λh=>m+h).map Qb:=by rw[QY,QY];rfl
  rw[e];have l1:=hs.l1;have l6:=hs.l6;have lh:=QsZ ns;refine QsJ ((hdS ns).map λh=>m+h) rfl (by rw[Qe];omega) λv hv hl=>?_
  refine ifC (λz=>?_) λz=>?_
  ·obtain⟨h,hh,rfl⟩:=Qo.mp hv;have:opL m ns=[]:=Qe9 (of_decide_eq_true z) _ hh;rw[this] at hR;exact hR
  ·have pos:∀x∈hdS ns,0<m+x:=λx hx=>by
    have h1:=hl _ (List.mem_map_of_mem (f:=λh=>m+h) hx);have h2:=of_decide_eq_false z;omega
   refine Zq (λj δ=>∃x4,δ=[.v (tI ns),.v (.int m),.v (.list (((hdS ns).map λh=>m+h).map Qb)),.own ((prS m ((hdS ns).take j) [1]).map Qb),x4]) ⟨_,rfl⟩ ?_ ?_
   ·rintro j d δ hd ⟨x4,rfl⟩;rw[Qh,Qh] at hd;obtain⟨h,eh,rfl⟩:∃h,(hdS ns)[j]? = some h/\d=.int (m+h):=by
     cases q:(hdS ns)[j]? with
     |none=>rw[q] at hd;cases hd
     |some p=>rw[q] at hd;cases hd;exact⟨p,rfl,rfl⟩
    have hj:j<(hdS ns).length:=(Qs.mp eh).1;have hm:=Qz eh;have bd:=Qpt hs hm;have p0:=pos h hm;have pl:=QkM (m:=m) m8 (λx hx=>(Qpt hs hx).2) j;have pne:=Qpg pos j;have pn:=JP.mpr pne;have lo:(ZZ (m+h)).length=(m+h).toNat:=by unfold ZZ;rw[JF]
    have one:ZZ (m+h)≠[]:=λz=>by rw[z] at lo;have lo:0=(m+h).toNat:=lo;omega
    refine⟨⟨by omega,by omega,by show 1*_<=_;omega⟩,prS m ((hdS ns).take j) [1],ZZ (m+h),?_,by omega,by omega,by omega,by omega,λy hy=>?_,QcB _,.v (.int (m+h)),?_⟩
    ·rw[Qk3];rfl
    ·rw[YD hy];decide
    ·rw[Qfa eh,show tmS (prS m ((hdS ns).take j) [1]) (ZZ (m+h))=cwS (prS m ((hdS ns).take j) [1]) (ZZ (m+h)) from if_neg λz=>z.elim pne one];rfl
   ·rintro δ ⟨x4,rfl⟩;rw[Qe,Qe,J3];exact hR
theorem Qbc:Ji ["_law_one", "_law_other", "_law_found", "_law_place", "_law_number", "_law_spot", "_law_more"] ["_law_one", "_law_other"] (Ql Qes):=⟨rfl,rfl,rfl,by decide +kernel,rfl,by decide +kernel,by decide +kernel⟩
theorem Qn7{f   : Addr}{fd  : QK}(F:Fun K "_law_times" "_law_times" Qes f fd)(T:GlbA mg) :
  FnOk P w K mg base CX0 1 f fd ["_law_one", "_law_other"] (JE true Qj5):=by
 refine okQ true F Qbc (λargs R EX h=>?_) (λcdv A outer s H E hr=>?_)
 ·obtain⟨a,b,rfl,_⟩:=h;rfl
 ·have hU:=Room.u60 hr;have hI:=Room.i60 hr;refine⟨_,QH (Y7 2 (ZE Qaa QaY (QP (ZE Qaa QaY (QP (QaJ (QdT JA Jb))) (QP (Js (Qat rfl) Qbk (by rfl) T.max QeC (YB (Jg JA) (YB (QP (ZE Qbx Qb2 (QP (ZE Zz Yg (QP (Js J1 YG (by rfl) T.len Yi (YB (qp 0) Jb))) (QP (Js J1 YG (by rfl) T.len Yi (YB (qp 1) Jb))))) (Jg JA))) Jb)))))) (QP (QbY Qgu QpL (by rfl) T.int Qmk (YB (Jg (QdZ (QP (QbG Qb1 (Qfc hU) (qp 0) (QP (QaJ Jb)) (Zc _))) (Qc0 (Zi (QbG Qb1 (Qfc hU) (qp 1) (QP (QaJ Jb)) (Zc _)))))) Jb)))) Qbc.nd)
   (QH (YO Q8 rfl (Qbd (by rfl) T.enumerate (qv 0)) (Y8 rfl (JJ 3 (JJ 4 Y9 Qbc.nd rfl (by first | exact Q4 rfl | exact Q0 rfl)) Qbc.nd rfl (by first | exact Q4 rfl | exact Q0 rfl)))
    (QZ (YO Q8 rfl (Qbd (by rfl) T.enumerate (qv 1)) (Y8 rfl (JJ 5 (JJ 6 Y9 Qbc.nd rfl (by first | exact Q4 rfl | exact Q0 rfl)) Qbc.nd rfl (by first | exact Q4 rfl | exact Q0 rfl)))
    (QZ (Qpd 2 (Zi (ZE Zz Yg (Jg (Qek Yt Qar (qp 2) (QP (ZE Zz Yg (qp 3) (qp 5))) (λ_ _=>rfl))) (QP (ZE Qaa QaY (qp 4) (qp 6))))) (QP (ZE Zz Yg (qp 3) (qp 5))))))))
   (QZ (QaT 2))),λargs R EX h=>?_⟩
  obtain⟨a,b,rfl,a5,b5,hb,hR⟩:=h;have la:=QtH a;have lb:=QtH b;refine Qcu (k:=((a.length+b.length - 1:Nat):Int)) (by rw[la,lb];split<;>omega) ⟨⟨by omega,by omega,by show 1*_<=_;omega⟩,?_⟩;rw[Jz,Qgh a b];refine⟨⟨Qbe _,rfl,.inr (by decide)⟩,?_⟩;cases a with
  |nil=>
   refine⟨⟨by decide,by decide,Jm _⟩,Zq (λ_ δ=>∃x3 x4 x5 x6,δ=[.v (.list []),.v (.list (b.map Qb)),.own [],x3,x4,x5,x6]) ⟨_,_,_,_,rfl⟩ ?_ ?_⟩
   ·rintro i d δ hd ⟨x3,x4,x5,x6,rfl⟩;obtain⟨e,he,_⟩:=ZX hd;cases he
   ·rintro δ ⟨x3,x4,x5,x6,rfl⟩;rw[show tmS [] b=[] from if_pos (.inl rfl)] at hR;exact hR
  |cons x0 a0=>
   refine⟨⟨Qbe _,rfl,.inr (by decide)⟩,?_⟩;cases b with
   |nil=>
    refine⟨⟨by decide,by decide,Jm _⟩,Zq (λ_ δ=>∃x3 x4 x5 x6,δ=[.v (.list ((x0::a0).map Qb)),.v (.list []),.own [],x3,x4,x5,x6]) ⟨_,_,_,_,rfl⟩ ?_ ?_⟩
    ·rintro i d δ hd ⟨x3,x4,x5,x6,rfl⟩;obtain⟨e,he,rfl⟩:=ZX hd;refine⟨rfl,Zq (λ_ δ=>∃x3 x4 x5 x6,δ=[.v (.list ((x0::a0).map Qb)),.v (.list []),.own [],x3,x4,x5,x6]) ⟨_,_,_,_,rfl⟩ ?_ ?_⟩
     ·rintro j d δ hd ⟨x3,x4,x5,x6,rfl⟩;obtain⟨e,he,_⟩:=ZX hd;cases he
     ·rintro δ ⟨x3,x4,x5,x6,rfl⟩;exact⟨_,_,_,_,rfl⟩
    ·rintro δ ⟨x3,x4,x5,x6,rfl⟩;rw[show tmS (x0::a0) []=[] from if_pos (.inr rfl)] at hR;exact hR
   |cons y0 b0=>
    rw[show tmS (x0::a0) (y0::b0)=cwS (x0::a0) (y0::b0) from if_neg (by simp)] at hR;have ml:=Qfe (x0::a0) (y0::b0) ((x0::a0).length+(y0::b0).length - 1) 0 0;refine⟨⟨show(1:Int)<1000000 by decide,show(-1000000:Int)<1 by decide,by rw[ml];show _*1<=_;omega⟩,?_⟩;have a1:1<=(x0::a0).length:=by rw[QM];omega
    have b1:1<=(y0::b0).length:=by rw[QM];omega
    rw[show(QJ (if(!(Qb8 (List.map Qb (y0::b0))).eqv (Qb8 []))=true then(1:Int) else 0).toNat (mlR (x0::a0) (y0::b0) ((x0::a0).length+(y0::b0).length - 1) 0 0)).flatten=mlR (x0::a0) (y0::b0) ((x0::a0).length+(y0::b0).length - 1) 0 0 from Yc _];generalize x0::a0=a at *;generalize y0::b0=b at *;refine Zq (λi δ=>∃x3 x4 x5 x6,δ=[.v (.list (a.map Qb)),.v (.list (b.map Qb)),.own (mlR a b (a.length+b.length - 1) i 0),x3,x4,x5,x6]) ⟨_,_,_,_,rfl⟩ ?_ ?_
    ·rintro i d δ hd ⟨x3,x4,x5,x6,rfl⟩;obtain⟨e,he,rfl⟩:=ZX hd;rw[Qh] at he;obtain⟨x,ex,rfl⟩:∃x,a[i]? = some x/\e=.int x:=by
      cases z:a[i]? with
      |none=>rw[z] at he;cases he
      |some x=>rw[z] at he;cases he;exact⟨x,rfl,rfl⟩
     have hi:i<a.length:=(Qs.mp ex).1;have gx:a.getD i 0=x:=by rw[Qf,ex];rfl
     refine⟨rfl,Zq (λj δ=>∃x5 x6,δ=[.v (.list (a.map Qb)),.v (.list (b.map Qb)),.own (mlR a b (a.length+b.length - 1) i j),.v (.int i),.v (.int x),x5,x6]) ⟨_,_,rfl⟩ ?_ ?_⟩
     ·rintro j d δ hd2 ⟨x5,x6,rfl⟩;obtain⟨e,he2,rfl⟩:=ZX hd2;rw[Qh] at he2;obtain⟨y,ey,rfl⟩:∃y,b[j]? = some y/\e=.int y:=by
       cases z:b[j]? with
       |none=>rw[z] at he2;cases he2
       |some x=>rw[z] at he2;cases he2;exact⟨x,rfl,rfl⟩
      have hj:j<b.length:=(Qs.mp ey).1;have gy:b.getD j 0=y:=by rw[Qf,ey];rfl
      have hn:i+j<a.length+b.length - 1:=by omega
      have by_:=hb y (Qz ey);have gm:(mlR a b (a.length+b.length - 1) i j)[i+j]? = some (.int (Yw i (λi'=>cwT a b i' (i+j))+(if i<=i+j/\i+j<i+j then a.getD i 0*b.getD (i+j - i) 0 else 0))):=by
       unfold mlR;rw[Qh,Q6 hn];rfl
      refine⟨rfl,.int (Yw i (λi'=>cwT a b i' (i+j))+(if i<=i+j/\i+j<i+j then a.getD i 0*b.getD (i+j - i) 0 else 0)),by rw[<- QfP];exact Ya gm,.inl (.inr by_),i+j,?_,.v (.int j),.v (.int y),?_⟩
      ·rw[Qfe,<- QfP];exact Qdx hn
      ·rw[<- Qig hj hn,gx,gy];rfl
     ·rintro δ ⟨x5,x6,rfl⟩;rw[YC,lb,Qlp];exact⟨_,_,_,_,rfl⟩
    ·rintro δ ⟨x3,x4,x5,x6,rfl⟩;rw[YC,la];have e:mlR a b (a.length+b.length - 1) a.length 0=(cwS a b).map Qb:=by
      unfold mlR cwS;rw[QY];refine QQ λk _=>?_
      show Qb (Yw a.length (λi=>cwT a b i k)+(if a.length<=k/\k<a.length+0 then a.getD a.length 0*b.getD (k - a.length) 0 else 0))=Qb (Yw a.length λi=>cwT a b i k);rw[if_neg (by omega),Zf]
     rw[e];exact hR
end
def evL(B:Int):List Int->Int
 |[]=>0
 |a::r=>a+B*evL B r
theorem QeU(f:Nat->Int):∀n,Yw (n+1) f=f 0+Yw n λj=>f (j+1)
 |0=>by show(0:Int)+f 0=f 0+0;omega
 |n+1=>by
  show Yw (n+1) f+f (n+1)=f 0+(Yw n (λj=>f (j+1))+f (n+1));rw[QeU f n];omega
theorem QaP(a:Int)(f:Nat->Int):∀n,Yw n (λi=>a*f i)=a*Yw n f
 |0=>(JT a).symm
 |n+1=>by show Yw n (λi=>a*f i)+a*f n=a*(Yw n f+f n);rw[QaP a f n,Qbr]
theorem Qcj{f:Nat->Int}:∀{n:Nat},(∀i,i<n->f i=0)->Yw n f=0
 |0,_=>rfl
 |n+1,h=>by show Yw n f+f n=0;rw[Qcj λi hi=>h i (by omega),h n (by omega)];rfl
theorem QbV(f g:Nat->Int):∀n,Yw n (λi=>f i+g i)=Yw n f+Yw n g
 |0=>rfl
 |n+1=>by show Yw n (λi=>f i+g i)+(f n+g n)=(Yw n f+f n)+(Yw n g+g n);rw[QbV f g n];omega
theorem QhQ(f:Nat->Nat->Int)(m:Nat):∀n,Yw n (λi=>Yw m λk=>f i k)=Yw m λk=>Yw n λi=>f i k
 |0=>(Qcj λ_ _=>rfl).symm
 |n+1=>by
  show Yw n (λi=>Yw m λk=>f i k)+Yw m (λk=>f n k)=Yw m λk=>Yw n (λi=>f i k)+f n k
  rw[QhQ f m n,QbV]
theorem Qdj(f:Nat->Int)(i:Nat):∀M,Yw (i+M) f=Yw i f+Yw M λj=>f (i+j)
 |0=>by show Yw i f=Yw i f+0;omega
 |M+1=>by
  show Yw (i+M) f+f (i+M)=Yw i f+(Yw M (λj=>f (i+j))+f (i+M));rw[Qdj f i M];omega
theorem Qa3(B:Int):∀(l:List Int)(M:Nat),l.length<=M->evL B l=Yw M λi=>l.getD i 0*B^i
 |[],M,_=>(Qcj λi _=>by show(0:Int)*B^i=0;exact ZV _).symm
 |a::r,0,h=>absurd h (by rw[QM];omega)
 |a::r,M+1,h=>by
  rw[QeU];show a+B*evL B r=a*B^0+Yw M λj=>r.getD j 0*B^(j+1)
  rw[Qa3 B r M (by rw[QM] at h;omega),Qd4,Qbq,<- QaP]
  congr 1
  refine YI λj _=>?_
  rw[QjR,JU (B^j) B,<- JC,<- JC,JU B]
theorem cw_at{a b:List Int}{k:Nat}(h:k<a.length+b.length - 1):(cwS a b).getD k 0=Yw a.length λi=>cwT a b i k:=by
 unfold cwS;rw[Qf,Qh,Q6 h];rfl
theorem QvU(B:Int){a b:List Int}(a1:a≠[])(b1:b≠[]):evL B (cwS a b)=evL B a*evL B b:=by
 have la:=JP.mpr a1;have lb:=JP.mpr b1;rw[Qa3 B (cwS a b) _ (Qd1 (QdH a b))];rw[YI (g:=λk=>Yw a.length λi=>B^k*cwT a b i k) λk hk=>by rw[cw_at hk,JU,<- QaP]];rw[QhQ (λk i=>B^k*cwT a b i k)];rw[YI (g:=λi=>evL B b*(a.getD i 0*B^i)) λi hi=>?_,QaP,<- Qa3 B a _ (Qi _),JU];obtain⟨M,hM⟩:∃M,a.length+b.length - 1=i+M:=⟨a.length+b.length - 1 - i,by omega⟩
 rw[hM,Qdj,Qcj λk hk=>by unfold cwT;rw[if_neg (by omega),JT],ZD,Qa3 B b M (by omega),JU,<- QaP];refine YI λj _=>?_
 unfold cwT;rw[if_pos (by omega),QiH,QfO]
 ac_rfl
theorem Qpx(B:Int)(a b:List Int):evL B (tmS a b)=evL B a*evL B b:=by
 unfold tmS;by_cases z:a=[]∨b=[]
 ·rw[if_pos z];rcases z with rfl | rfl
  ·show(0:Int)=0*_;rw[ZV]
  ·show(0:Int)=_*0;rw[JT]
 ·rw[if_neg z];exact QvU B (λe=>z (.inl e)) λe=>z (.inr e)
theorem Qip(B:Int)(n:Int):evL B (ZZ n)=gsI B n:=by
 unfold ZZ gsI;generalize n.toNat=m;induction m with
 |zero=>rfl
 |succ m ih=>
  rw[Ja];show 1+B*evL B (QJ m 1)=gsN B (m+1);rw[ih,QlL B 1 m,QjR,Qd4,YY];show _=B*gsN B m+(0+B^0);rw[Qd4];omega
def prL(B m:Int):List Int->Int
 |[]=>1
 |h::r=>gsI B (m+h)*prL B m r
theorem Qdb(B m:Int):∀{a b:List Int},a.Perm b->prL B m a=prL B m b
 |_,_,.nil=>rfl
 |_,_,.cons x p=>by show _*prL B m _=_*prL B m _;rw[Qdb B m p]
 |_,_,.swap x y l=>by
  show gsI B (m+y)*(gsI B (m+x)*prL B m l)=gsI B (m+x)*(gsI B (m+y)*prL B m l);rw[<- JC,<- JC,JU (gsI B (m+y))]
 |_,_,.trans p q=>(Qdb B m p).trans (Qdb B m q)
theorem Qg7(B m h:Int):∀l:List Int,prL B m (l++[h])=prL B m l*gsI B (m+h)
 |[]=>by show gsI B (m+h)*1=1*gsI B (m+h);rw[Qbq,YY]
 |x::l=>by show gsI B (m+x)*prL B m (l++[h])=gsI B (m+x)*prL B m l*_;rw[Qg7 B m h l,JC]
theorem QlR(B m:Int):∀(hs t:List Int),evL B (prS m hs t)=evL B t*prL B m hs
 |[],t=>(Qbq _).symm
 |h::hs,t=>by
  show evL B (prS m hs (tmS t (ZZ (m+h))))=evL B t*(gsI B (m+h)*prL B m hs);rw[QlR B m hs,Qpx,Qip,JC]
theorem Qg6(B:Int){ns:List Int}(hs:JQ ns)(x:Nat):∀j,j<=ns.length->prZ B ns x j=prL B x ((Qm j).map λi=>ns.getD i 0 - (i:Int))
 |0,_=>rfl
 |j+1,hj=>by
  rw[Yb,Jk];show prZ B ns x j*gsI B ((x:Int)+(hN ns j:Int) - (j:Int))=prL B x (_++[ns.getD j 0 - (j:Int)]);rw[Qg7,Qg6 B hs x j (by omega)];have b:=(hs.bd _ (getD_mem (show j<ns.length by omega))).1
  congr 2
  unfold hN;omega
theorem QlS(B:Int){ns:List Int}(hs:JQ ns)(x:Nat):evL B (opL x ns)=prZ B ns x ns.length:=by
 unfold opL;rw[QlR,Qg6 B hs x _ (Qi _)];show(1+B*0)*prL B x (hdS ns)=_;rw[JT,Zf,YY];exact Qdb B x (Qap _)
theorem Qpy{B:Int}(hB:0<=B):∀{l:List Int},(∀x∈l,0<=x)->0<=evL B l
 |[],_=>Zm _
 |a::r,h=>QgO (h a (.head _)) (QcK hB (Qpy hB λx hx=>h x (.tail _ hx)))
theorem Qyg{B x y e f:Int}(hx:0<=x/\x<B)(hy:0<=y/\y<B)(h:x+B*e=y+B*f):x=y/\e=f:=by
 have h1:(x+B*e) % B=x:=by rw[QgJ];exact Qp7 hx.1 hx.2
 have h2:(y+B*f) % B=y:=by rw[QgJ];exact Qp7 hy.1 hy.2
 have exy:x=y:=by rw[<- h1,<- h2,h]
 refine⟨exy,?_⟩;rw[exy] at h;have h3:B*e=B*f:=by omega
 exact Int.eq_of_mul_eq_mul_left (by omega) h3
theorem QwL{B:Int}(hB:0<B):∀(a b:List Int),(∀x∈a,0<=x/\x<B)->(∀x∈b,0<=x/\x<B)->evL B a=evL B b->∀i,a.getD i 0=b.getD i 0
 |[],[],_,_,_,_=>rfl
 |[],y::b,ha,hb,e,i=>by
  have e:(0:Int)+B*0=y+B*evL B b:=by rw[JT];exact e
  obtain⟨e1,e2⟩:=Qyg ⟨Zm _,hB⟩ (hb y (.head _)) e;cases i with
  |zero=>exact e1
  |succ i=>exact QwL hB [] b ha (λx hx=>hb x (.tail _ hx)) e2 i
 |x::a,[],ha,hb,e,i=>by
  have e:x+B*evL B a=(0:Int)+B*0:=by rw[JT];exact e
  obtain⟨e1,e2⟩:=Qyg (ha x (.head _)) ⟨Zm _,hB⟩ e;cases i with
  |zero=>exact e1
  |succ i=>exact QwL hB a [] (λx hx=>ha x (.tail _ hx)) hb e2 i
 |x::a,y::b,ha,hb,e,i=>by
  obtain⟨e1,e2⟩:=Qyg (ha x (.head _)) (hb y (.head _)) (show x+B*evL B a=y+B*evL B b from e);cases i with
  |zero=>exact e1
  |succ i=>exact QwL hB a b (λx hx=>ha x (.tail _ hx)) (λx hx=>hb x (.tail _ hx)) e2 i
theorem Qdu:∀{l:List Int},(∀x∈l,0<=x)->∀x∈l,x<=evL 1 l
 |a::r,h,x,hx=>by
  have hn:=Qpy (B:=1) (by decide) (l:=r) λy hy=>h y (.tail _ hy)
  have ha:=h a (.head _);show x<=a+1*evL 1 r;rw[YY];rcases Qt.mp hx with rfl | hx
  ·omega
  ·have:=Qdu (l:=r) (λy hy=>h y (.tail _ hy)) x hx;omega
theorem Qs4:∀l:List Int,evL 1 l=l.sum
 |[]=>rfl
 |a::r=>by show a+1*evL 1 r=_;rw[Qs4 r,YY,Jd]
theorem QwK:∀n,gsN 1 n=(n:Int)
 |0=>rfl
 |n+1=>by show gsN 1 n+1^n=_;rw[QwK n,Int.one_pow];omega
theorem QuG{ns:List Int}(hs:JQ ns){x:Nat}(x8:x<=8):∀j,j<=ns.length->0<=prZ 1 ns x j/\prZ 1 ns x j<=14^j
 |0,_=>by show(0:Int)<=1/\(1:Int)<=1;decide
 |j+1,hj=>by
  obtain⟨h1,h2⟩:=QuG hs x8 j (by omega);have b:=(hs.bd _ (getD_mem (show j<ns.length by omega))).2;have g:gsI 1 ((x:Int)+(hN ns j:Int) - (j:Int))<=14:=by unfold gsI;rw[QwK];unfold hN;omega
  have g0:0<=gsI 1 ((x:Int)+(hN ns j:Int) - (j:Int)):=by unfold gsI;rw[QwK];omega
  show 0<=prZ 1 ns x j*_/\prZ 1 ns x j*_<=_;refine⟨QcK h1 g0,?_⟩;rw[QjR];exact Int.mul_le_mul h2 g g0 (by exact Y4 h1 h2)
theorem Qs6:∀{a b:List Int},(∀i,a.getD i 0=b.getD i 0)->(∀z,a.getLast? = some z->z≠0)->(∀z,b.getLast? = some z->z≠0)->a=b:=λ{a b} h ha hb=>by
 have key:∀{a b:List Int},(∀i,a.getD i 0=b.getD i 0)->(∀z,b.getLast? = some z->z≠0)->b.length<=a.length:=λ{a b} h hb=>by
  refine Classical.byContradiction λhn=>?_
  have lb:b.length - 1<b.length:=by omega
  have e1:b.getLast? = some b[b.length - 1]:=by rw[List.getLast?_eq_getElem?,Qg lb]
  have e2:=h (b.length - 1);rw[Qf,QL (by omega),Qf,Qg lb] at e2;exact hb _ e1 e2.symm
 have l1:=key h hb;have l2:=key (λi=>(h i).symm) ha;refine Qp4 (by omega) λi h1 h2=>?_
 have:=h i;rw[Qf,Qg h1,Qf,Qg h2] at this;exact this
def Qfh:DF:=λargs R _=>∃n:Int,args=[.pot,.v (.int n),.v (.int 5)]/\1<=n/\n<=6/\∀ns,JQ ns->R (tI ns)
def tgL(a b:List Int):List Int:=(Qm (max a.length b.length)).map λi=>a.getD i 0+b.getD i 0
def Qxk:DF:=λargs R _=>∃a b:List Int,args=[.v (.list (a.map Qb)),.v (.list (b.map Qb))]/\a.length<=500/\b.length<=500/\R (.list ((tgL a b).map Qb))
def QsN:DF:=λargs R _=>∃(ns:List Int)(x:Nat),args=[.v (tI ns),.v (.int (x:Int))]/\JQ ns/\ns.sum<=20/\x<=8/\R (.list ((opL x ns).map Qb))
def QxZ:DF:=λargs R _=>∃ns,args=[.v (tI ns)]/\JQ ns/\ns.sum<=20/\R (.bool true)
def tgP(N:Nat)(c:Nat->Int)(s:List Int)(j:Nat):List PyData:=(Qm N).map λi=>.int (c i+if i<j then s.getD i 0 else 0)
theorem Qch(N:Nat)(c:Nat->Int)(s:List Int)(j:Nat):(tgP N c s j).length=N:=by unfold tgP;rw[Qe,QD]
theorem Qd6{N:Nat}{c:Nat->Int}{s:List Int}{j i:Nat}(h:i<N):(tgP N c s j)[i]? = some (.int (c i+if i<j then s.getD i 0 else 0)):=by
 unfold tgP;rw[Qh,Q6 h];rfl
theorem Qm3(N:Nat)(a:List Int):(QJ N [Qb 0]).flatten=tgP N (λ_=>0) a 0:=by
 have e:∀n,(QJ n [Qb 0]).flatten=QJ n (Qb 0):=λn=>by
  induction n with
  |zero=>rfl
  |succ n ih=>rw[Ja,JS,ih,Ja];rfl
 rw[e];refine Yk λk=>?_
 by_cases hk:k<N
 ·rw[Qd6 hk,Zr,if_pos hk,if_neg (YM _)];rfl
 ·rw[QL (by rw[JF];omega),QL (by rw[Qch];omega)]
theorem QhO{N:Nat}{c:Nat->Int}{s:List Int}{j:Nat}(h:j<N){y:Int}(hy:s.getD j 0=y):(tgP N c s j).set j (.int (c j+(if j<j then s.getD j 0 else 0)+y))=tgP N c s (j+1):=by
 refine Yk λk=>?_
 rw[QaL,Qch];by_cases z:j=k
 ·subst z;rw[if_pos rfl,if_pos h,Qd6 h,if_neg (by omega),if_pos (by omega),hy,Zf]
 ·rw[if_neg z];by_cases hk:k<N
  ·rw[Qd6 hk,Qd6 hk];have:(k<j)↔(k<j+1):=by omega
   by_cases y:k<j
   ·rw[if_pos y,if_pos (this.mp y)]
   ·rw[if_neg y,if_neg λq=>y (this.mpr q)]
  ·rw[QL (by rw[Qch];omega),QL (by rw[Qch];omega)]
theorem QhN(N:Nat)(c:Nat->Int)(s b:List Int):tgP N c s s.length=tgP N (λi=>c i+s.getD i 0) b 0:=by
 unfold tgP;refine QQ λi _=>?_
 dsimp only
 rw[if_neg (YM _)];by_cases z:i<s.length
 ·rw[if_pos z,Zf]
 ·rw[if_neg z,show s.getD i 0=0 by rw[Qf,QL (by omega)];rfl,Zf,Zf]
theorem Qre(a b:List Int):tgP (max a.length b.length) (λi=>(0+a.getD i 0)+b.getD i 0) [] 0=(tgL a b).map Qb:=by
 unfold tgP tgL;rw[QY];refine QQ λi _=>?_
 show Qb (0+a.getD i 0+b.getD i 0+(if i<0 then _ else 0))=Qb (a.getD i 0+b.getD i 0);rw[if_neg (YM _),Zf,ZD]
section
variable{P:QN}{w:Jj}{K:PySem.W.Frag}{mg:Str->Option Value}{base:J8}
theorem Yp:Ji ["_law_pot_here", "_law_columns", "_law_most", "_law_found", "_law_least", "_law_column", "_law_step"] ["_law_pot_here", "_law_columns", "_law_most"] (Ql Qcw):=⟨rfl,rfl,rfl,by decide +kernel,rfl,by decide +kernel,by decide +kernel⟩
theorem Qi9{f f1  : Addr}{fd fd1:QK}(F:Fun K "_law_stairs" "_law_stairs" Qcw f fd)(T:GlbA mg)
  (m1:mg "_law_take" = some (.ref f1))(G1:FnOk P w K mg base CX0 1 f1 fd1 ["_law_pot_here", "_law_far"] (JE true Qm4))(b1:Binds K fd1 ["_law_pot_here", "_law_far"] [])(k1:PySem.W.keepIn K (.ref f1)=true) :
  FnOk P w K mg base CX0 2 f fd ["_law_pot_here", "_law_columns", "_law_most"] (JE false Qfh):=by
 refine okQ false F Yp (λargs R EX h=>?_) (λcdv A outer s H E hr=>?_)
 ·obtain⟨n,rfl,_⟩:=h;rfl
 ·have hU:=Room.u60 hr;have hI:=Room.i60 hr;refine⟨_,QH (Z8 3 (Zi (Qi5 Jb)) Yp.nd)
   (QH (Z8 4 JA Yp.nd)
   (QH (YO Q8 rfl (QbF (by rfl) T.range (qp 1)) (Zp 5 Yp.nd rfl (by first | exact Q4 rfl | exact Q0 rfl))
    (QH (Z8 6 (Zi (ZS G1 (hr.mono (by decide)) (by rfl) m1 k1 b1 JK (QcP 0 (Zu JA Jo)))) Yp.nd)
   (QH (QaU (YA QcS (Qgc hU) (QP (ZS G1 (hr.mono (by decide)) (by rfl) m1 k1 b1 JK (QcP 0 (Zu JA Jo)))) (Jg JA) (Zc _)) (QZ (Z8 6 (Zi (ZS G1 (hr.mono (by decide)) (by rfl) m1 k1 b1 JK (QcP 0 (Zu (Zi (ZE Zz Yg (qp 2) (Jg JA))) Jo)))) Yp.nd)) Z3)
   (QH (Z8 4 (Zi (Js (Qgt rfl) Qiy (by rfl) T.min Qmj (YB (qp 2) (YB (QP (ZE Zz Yg (qp 4) (QP (ZE Qaa QaY (qp 6) (QP (QbY Qgu QpL (by rfl) T.int Qmk (YB (Jg (QyL (QP (QbG Qn4 QaZ (qp 5) (Jg JA) (Zc _))) (Qc0 (Zi (QbG QcS (Qgc hU) (QP (ZS G1 (hr.mono (by decide)) (by rfl) m1 k1 b1 JK (QcP 0 (Zu JA Jo)))) (Jg JA) (Zc _)))))) Jb))))))) Jb)))) Yp.nd)
   (QZ (Z8 3 (Zi (ZE Zz Yg (qp 3) (QP (Qi5 (QdT (qv 4) Jb))))) Yp.nd))))))
   (QZ (ZW (qv 3))))),λargs R EX h=>?_⟩
  obtain⟨n,rfl,n1,n6,hR⟩:=h;refine⟨⟨by omega,by omega⟩,QcA (λi δ=>∃ns x4 x5 x6,δ=[.pot,.v (.int n),.v (.int 5),.v (tI ns),.v (.int x4),x5,x6]/\ns.length=i/\(∀j∈ns,0<=j/\j<=5)/\nfI ns=true/\0<=x4/\x4<=5/\∀b,ns.getLast? = some b->b<=x4) ⟨[],0,_,_,rfl,rfl,λj hj=>(nomatch hj),rfl,by decide,by decide,λb hb=>(nomatch hb)⟩ ?_ ?_⟩
  ·rintro i δ hi ⟨ns,x4,x5,x6,rfl,hl,hb,hn,h0,h6,hlast⟩;refine⟨_,rfl,by decide,by decide,λr1 r10 r11=>⟨_,rfl,by decide,by decide,λr2 r20 r21=>?_⟩⟩;refine ifC (λzz=>?_) λzz=>?_
   ·refine⟨_,rfl,by decide,by decide,λr3 r30 r31=>?_⟩;have fin:∀v:Int,x4<=v->v<=5->∃ns' x4' x5' x6',[Sl.pot,.v (.int n),.v (.int 5),.v (.tuple (ns.map Qb++[.int v])),.v (.int v),.v (.int (0+(i:Int))),.v (.int r3)]=[.pot,.v (.int n),.v (.int 5),.v (tI ns'),.v (.int x4'),x5',x6']/\ns'.length=i+1/\(∀j∈ns',0<=j/\j<=5)/\nfI ns'=true/\0<=x4'/\x4'<=5/\∀b,ns'.getLast? = some b->b<=x4':=λv v0 v6=>by
     refine⟨ns++[v],v,_,_,by rw[tI,Jk];rfl,by rw[Qx,hl];rfl,λj hj=>?_,Qhf hn λb hb'=>Y4 (hlast b hb') v0,by omega,v6,λb hb'=>?_⟩
     ·rcases Jn.mp hj with z | z
      ·exact hb j z
      ·rw[QB.mp z];omega
     ·rw[Yo] at hb';have:v=b:=by simpa using hb'
      omega
    have fin2:∀t:Int,0<=t->∃v,(if x4+t<5 then x4+t else 5)=v/\x4<=v/\v<=5:=λt t0=>⟨_,rfl,by split<;>omega,by split<;>omega⟩
    refine ifC (λz=>?_) λz=>?_
    ·refine⟨.inl (.inr (by decide)),?_⟩;obtain⟨v,ev,v0,v6⟩:=fin2 (r3*1) (by omega);refine Qdt ev ⟨by rw[Qe];show _+1<=_;omega,fin v v0 v6⟩
    ·refine⟨_,rfl,by decide,by decide,λrb rb0 rb1=>?_⟩;refine⟨.inl (.inr (by show -(2^64:Int)<(if decide (rb=0)=true then 1 else 0)/\(if decide (rb=0)=true then(1:Int) else 0)<2^64;split<;>decide)),?_⟩;obtain⟨v,ev,v0,v6⟩:=fin2 (r3*(if decide (rb=0)=true then 1 else 0)) (by split<;>omega);refine Qdt ev ⟨by rw[Qe];show _+1<=_;omega,fin v v0 v6⟩
   ·skip
    have fin:∀v:Int,x4<=v->v<=5->∃ns' x4' x5' x6',[Sl.pot,.v (.int n),.v (.int 5),.v (.tuple (ns.map Qb++[.int v])),.v (.int v),.v (.int (0+(i:Int))),.v (.int r1)]=[.pot,.v (.int n),.v (.int 5),.v (tI ns'),.v (.int x4'),x5',x6']/\ns'.length=i+1/\(∀j∈ns',0<=j/\j<=5)/\nfI ns'=true/\0<=x4'/\x4'<=5/\∀b,ns'.getLast? = some b->b<=x4':=λv v0 v6=>by
     refine⟨ns++[v],v,_,_,by rw[tI,Jk];rfl,by rw[Qx,hl];rfl,λj hj=>?_,Qhf hn λb hb'=>Y4 (hlast b hb') v0,by omega,v6,λb hb'=>?_⟩
     ·rcases Jn.mp hj with z | z
      ·exact hb j z
      ·rw[QB.mp z];omega
     ·rw[Yo] at hb';have:v=b:=by simpa using hb'
      omega
    have fin2:∀t:Int,0<=t->∃v,(if x4+t<5 then x4+t else 5)=v/\x4<=v/\v<=5:=λt t0=>⟨_,rfl,by split<;>omega,by split<;>omega⟩
    refine ifC (λz=>?_) λz=>?_
    ·refine⟨.inl (.inr (by decide)),?_⟩;obtain⟨v,ev,v0,v6⟩:=fin2 (r1*1) (by omega);refine Qdt ev ⟨by rw[Qe];show _+1<=_;omega,fin v v0 v6⟩
    ·refine⟨_,rfl,by decide,by decide,λrb rb0 rb1=>?_⟩;refine⟨.inl (.inr (by show -(2^64:Int)<(if decide (rb=0)=true then 1 else 0)/\(if decide (rb=0)=true then(1:Int) else 0)<2^64;split<;>decide)),?_⟩;obtain⟨v,ev,v0,v6⟩:=fin2 (r1*(if decide (rb=0)=true then 1 else 0)) (by split<;>omega);refine Qdt ev ⟨by rw[Qe];show _+1<=_;omega,fin v v0 v6⟩
  ·rintro δ ⟨ns,x4,x5,x6,rfl,hl,hb,hn,h0,h6,hlast⟩;exact hR ns ⟨by omega,by omega,λj hj=>⟨(hb j hj).1,by have:=(hb j hj).2;omega⟩,hn⟩
theorem Qf2:Ji ["_law_one", "_law_other", "_law_found", "_law_some", "_law_place", "_law_number"] ["_law_one", "_law_other"] (Ql lTog):=⟨rfl,rfl,rfl,by decide +kernel,rfl,by decide +kernel,by decide +kernel⟩
theorem Qvj{f   : Addr}{fd  : QK}(F:Fun K "_law_together" "_law_together" lTog f fd)(T:GlbA mg) :
  FnOk P w K mg base CX0 1 f fd ["_law_one", "_law_other"] (JE true Qxk):=by
 refine okQ true F Qf2 (λargs R EX h=>?_) (λcdv A outer s H E hr=>?_)
 ·obtain⟨a,b,rfl,_⟩:=h;rfl
 ·have hU:=Room.u60 hr;have hI:=Room.i60 hr;refine⟨_,QH (Y7 2 (ZE Qaa QaY (QP (QaJ (QdT JA Jb))) (QP (Js (Qat rfl) Qbk (by rfl) T.max QeC (YB (QP (Js J1 YG (by rfl) T.len Yi (YB (qp 0) Jb))) (YB (QP (Js J1 YG (by rfl) T.len Yi (YB (qp 1) Jb))) Jb))))) Qf2.nd)
   (QH (YO Q8 rfl (QaW (Zi (QaJ (QdT (qv 0) (QdT (qv 1) Jb))))) (Zp 3 Qf2.nd rfl (by first | exact Q4 rfl | exact Q0 rfl))
    (QZ (YO Q8 rfl (Qbd (by rfl) T.enumerate (qv 3)) (Y8 rfl (JJ 4 (JJ 5 Y9 Qf2.nd rfl (by first | exact Q4 rfl | exact Q0 rfl)) Qf2.nd rfl (by first | exact Q4 rfl | exact Q0 rfl)))
    (QZ (Qpd 2 (Zi (ZE Zz Yg (Jg (Qek Yt Qar (qp 2) (qp 4) (λ_ _=>rfl))) (qp 5))) (qp 4))))))
   (QZ (QaT 2))),λargs R EX h=>?_⟩
  obtain⟨a,b,rfl,a5,b5,hR⟩:=h;have la:=QtH a;have lb:=QtH b;refine Qcu (k:=((max a.length b.length:Nat):Int)) (by rw[la,lb];split<;>omega) ⟨⟨by omega,by omega,by show 1*_<=_;omega⟩,?_⟩;rw[Jz,Qm3 _ a];refine Zq (λt δ=>∃x3 x4 x5,δ=[.v (.list (a.map Qb)),.v (.list (b.map Qb)),.own (match t with | 0=>tgP (max a.length b.length) (λ_=>0) a 0 | 1=>tgP (max a.length b.length) (λi=>0+a.getD i 0) b 0 | _=>tgP (max a.length b.length) (λi=>(0+a.getD i 0)+b.getD i 0) [] 0),x3,x4,x5]) ⟨_,_,_,rfl⟩ ?_ ?_
  ·rintro t d δ hd ⟨x3,x4,x5,rfl⟩
   match t,hd with
   |0,hd=>
    obtain rfl:d=.list (a.map Qb):=(Qr hd).symm;refine Zq (λj δ=>∃x4 x5,δ=[.v (.list (a.map Qb)),.v (.list (b.map Qb)),.own (tgP (max a.length b.length) (λ_=>0) a j),.v (.list (a.map Qb)),x4,x5]) ⟨_,_,rfl⟩ ?_ ?_
    ·rintro j d δ hd2 ⟨x4,x5,rfl⟩;obtain⟨e,he2,rfl⟩:=ZX hd2;rw[Qh] at he2;obtain⟨y,ey,rfl⟩:∃y,a[j]? = some y/\e=.int y:=by
      cases z:a[j]? with
      |none=>rw[z] at he2;cases he2
      |some x=>rw[z] at he2;cases he2;exact⟨x,rfl,rfl⟩
     have hj:j<a.length:=(Qs.mp ey).1;have gy:a.getD j 0=y:=by rw[Qf,ey];rfl
     have hn:j<max a.length b.length:=by omega
     refine⟨rfl,_,Ya (Qd6 hn),j,?_,.v (.int j),.v (.int y),?_⟩
     ·rw[Qch];exact Qdx hn
     ·rw[<- QhO hn gy];rfl
    ·rintro δ ⟨x4,x5,rfl⟩;rw[YC,la,QhN _ _ _ b];exact⟨_,_,_,rfl⟩
   |1,hd=>
    obtain rfl:d=.list (b.map Qb):=(Qr hd).symm;refine Zq (λj δ=>∃x4 x5,δ=[.v (.list (a.map Qb)),.v (.list (b.map Qb)),.own (tgP (max a.length b.length) (λi=>0+a.getD i 0) b j),.v (.list (b.map Qb)),x4,x5]) ⟨_,_,rfl⟩ ?_ ?_
    ·rintro j d δ hd2 ⟨x4,x5,rfl⟩;obtain⟨e,he2,rfl⟩:=ZX hd2;rw[Qh] at he2;obtain⟨y,ey,rfl⟩:∃y,b[j]? = some y/\e=.int y:=by
      cases z:b[j]? with
      |none=>rw[z] at he2;cases he2
      |some x=>rw[z] at he2;cases he2;exact⟨x,rfl,rfl⟩
     have hj:j<b.length:=(Qs.mp ey).1;have gy:b.getD j 0=y:=by rw[Qf,ey];rfl
     have hn:j<max a.length b.length:=by omega
     refine⟨rfl,_,Ya (Qd6 hn),j,?_,.v (.int j),.v (.int y),?_⟩
     ·rw[Qch];exact Qdx hn
     ·rw[<- QhO hn gy];rfl
    ·rintro δ ⟨x4,x5,rfl⟩;rw[YC,lb,QhN _ _ _ []];exact⟨_,_,_,rfl⟩
   |t+2,hd=>cases hd
  ·rintro δ ⟨x3,x4,x5,rfl⟩;show R (.list (tgP (max a.length b.length) (λi=>(0+a.getD i 0)+b.getD i 0) [] 0));rw[Qre];exact hR
end
def wI(cs:List (Int×Int))(k:Nat):List Int:=(Qm (cs.length+1)).map λi=>(((evS cs k).countP λL=>wt cs L == i:Nat):Int)
theorem QjX(cs:List (Int×Int))(k:Nat):wtR cs (evS cs k)=(wI cs k).map Qb:=by
 unfold wtR QjK wI;rw[QY];rfl
theorem QhR(B:Int)(w:Nat):∀M,w<M->Yw M (λi=>(if w=i then(1:Int) else 0)*B^i)=B^w
 |M+1,h=>by
  show Yw M (λi=>(if w=i then(1:Int) else 0)*B^i)+(if w=M then(1:Int) else 0)*B^M=_;by_cases z:w=M
  ·subst z;rw[if_pos rfl,Qcj λi hi=>by rw[if_neg (by omega),ZV],YY,ZD]
  ·rw[QhR B w M (by omega),if_neg z,ZV,Zf]
theorem QpI(B:Int)(cs:List (Int×Int)):∀Ls:List (List (Int×Int)),Yw (cs.length+1) (λi=>((Ls.countP λL=>wt cs L == i:Nat):Int)*B^i)=(Ls.map λL=>B^wt cs L).sum
 |[]=>Qcj λi _=>by show((0:Nat):Int)*_=0;exact ZV _
 |L::Ls=>by
  rw[Jl,Jd,<- QpI B cs Ls,<- QhR B (wt cs L) (cs.length+1) (by have:=QjW cs L;omega),<- QbV];refine YI λi _=>?_
  rw[Qp5,<- QmS]
  congr 1
  by_cases z:wt cs L=i
  ·rw[if_pos z,if_pos (by rw[z];exact beq_self_eq_true _)];omega
  ·rw[if_neg z,if_neg (by simpa using z)];omega
theorem QvS(B:Int)(cs:List (Int×Int))(k:Nat):evL B (wI cs k)=evW B cs k:=by
 have l:(wI cs k).length=cs.length+1:=by unfold wI;rw[Qe,QD]
 rw[Qa3 B _ _ (Qd1 l)];unfold evW;rw[<- QpI];refine YI λi hi=>?_
 congr 1
 unfold wI;rw[Qf,Qh,Q6 hi];rfl
theorem Qxi(cs:List (Int×Int))(k:Nat):∀y∈wI cs k,0<=y:=λy hy=>by
 obtain⟨i,_,rfl⟩:=Qo.mp hy;exact Qdg _
theorem Qc8{f:Nat->Int}:∀{n:Nat},(∀i,i<n->0<=f i)->0<=Yw n f
 |0,_=>Zm _
 |n+1,h=>QgO (Qc8 λi hi=>h i (by omega)) (h n (by omega))
theorem Qcz{l:List Int}(h:∀y∈l,0<=y)(i:Nat):0<=l.getD i 0:=by
 rw[Qf];cases e:l[i]? with
 |none=>exact Zm _
 |some y=>exact h y (Qz e)
theorem Qxl{a b:List Int}(ha:∀y∈a,0<=y)(hb:∀y∈b,0<=y):∀y∈tmS a b,0<=y:=λy hy=>by
 unfold tmS at hy;split at hy
 ·cases hy
 ·unfold cwS at hy;obtain⟨k,_,rfl⟩:=Qo.mp hy;refine Qc8 λi _=>?_
  unfold cwT;split
  ·exact QcK (Qcz ha i) (Qcz hb _)
  ·exact Zm _
theorem Qt9(a b:List Int):(tmS a b).length<=a.length+b.length:=by
 unfold tmS;split
 ·exact Jm _
 ·rw[QdH];omega
theorem Qxm{a b:List Int}(ha:∀y∈a,0<=y)(hb:∀y∈b,0<=y):∀y∈tgL a b,0<=y:=λy hy=>by
 obtain⟨i,_,rfl⟩:=Qo.mp hy;exact QgO (Qcz ha i) (Qcz hb i)
theorem QvT(B:Int)(a b:List Int):evL B (tgL a b)=evL B a+evL B b:=by
 have l:(tgL a b).length=max a.length b.length:=by unfold tgL;rw[Qe,QD]
 rw[Qa3 B (tgL a b) _ (Qd1 l),Qa3 B a (max a.length b.length) (by omega),Qa3 B b (max a.length b.length) (by omega),<- QbV];refine YI λi hi=>?_
 rw[<- QmS]
 congr 1
 unfold tgL;rw[Qf,Qh,Q6 hi];rfl
theorem cw_pos{a b:List Int}(a1:a≠[])(b1:b≠[])(ha:∀y∈a,0<y)(hb:∀y∈b,0<y):∀y∈cwS a b,0<y:=λy hy=>by
 have la:=JP.mpr a1;have lb:=JP.mpr b1;unfold cwS at hy;obtain⟨k,hk,rfl⟩:=Qo.mp hy;have hk:=Q9.mp hk;have gp:∀{l:List Int},(∀y∈l,0<y)->∀i,i<l.length->0<l.getD i 0:=λ{l} h i hi=>by
  rw[Qf,Qg hi];exact h _ (Qbo hi)
 have nn:∀i,0<=cwT a b i k:=λi=>by
  unfold cwT;split
  ·exact QcK (Qcz (λy hy=>QjS (ha y hy)) i) (Qcz (λy hy=>QjS (hb y hy)) _)
  ·exact Zm _
 obtain⟨i,hi,h1,h2⟩:∃i,i<a.length/\i<=k/\k - i<b.length:=⟨k - min k (b.length - 1),by omega,by omega,by omega⟩
 have pi:0<cwT a b i k:=by
  unfold cwT;rw[if_pos h1];exact Int.mul_pos (gp ha i hi) (gp hb _ h2)
 obtain⟨M,hM⟩:∃M,a.length=i+(M+1):=⟨a.length - i - 1,by omega⟩
 rw[hM,Qdj,QeU];have p1:=Qc8 (f:=λi=>cwT a b i k) (n:=i) λi _=>nn i
 have p2:=Qc8 (f:=λj=>cwT a b (i+(j+1)) k) (n:=M) λj _=>nn _
 have p3:0<cwT a b (i+0) k:=pi;omega
theorem Qpk(m:Int):∀(hs t:List Int),(∀h∈hs,0<m+h)->t≠[]->(∀y∈t,0<y)->∀y∈prS m hs t,0<y
 |[],t,_,_,ht=>ht
 |h::hs,t,hh,t1,ht=>by
  have o1:ZZ (m+h)≠[]:=λe=>by
   have:=congrArg QfG e;unfold ZZ at this;rw[JF] at this;have:=hh h (.head _);have h0:(m+h).toNat=0:=by assumption
   omega
  have e:tmS t (ZZ (m+h))=cwS t (ZZ (m+h)):=if_neg λz=>z.elim t1 o1
  show ∀y∈prS m hs (tmS t (ZZ (m+h))),0<y
  rw[e];refine Qpk m hs _ (λx hx=>hh x (.tail _ hx)) (λz=>?_) (cw_pos t1 o1 ht λy hy=>by unfold ZZ at hy;rw[YD hy];decide);have l1:=congrArg QfG z;rw[QdH] at l1;have l1:_+_ - 1=0:=l1;have:=JP.mpr t1;have:=JP.mpr o1;omega
theorem Qu7(x:Int)(ns:List Int):∀y∈opL x ns,0<y:=λy hy=>by
 by_cases z:∀h∈hdS ns,0<x+h
 ·exact Qpk x _ _ z (by simp) (λy hy=>by rw[QB.mp hy];decide) y hy
 ·obtain⟨h,hz⟩:=Classical.not_forall.mp z;obtain⟨hh,hz⟩:=Classical.not_imp.mp hz;have:opL x ns=[]:=Qe9 (by omega) _ hh;rw[this] at hy;cases hy
theorem Qo4{ns:List Int}(hs:JQ ns)(hp:(stC ns).Pairwise plt){x:Nat}(x8:x<=8){F c:List Int}(hF:∀y∈F,0<=y)(he:∀B,evL B F=((Qm (ns.length+1)).map λs=>Qbs B x (ns.length - s)*evW B (stC ns) s).sum)
  (hc:∀i,c.getD i 0=F.getD i 0)(hl:∀z,c.getLast? = some z->z≠0):c=opL x ns:=by
 have l6:=hs.l6;have e1:∀B,evL B F=evL B (opL x ns):=λB=>by rw[he B,Qux B hs hp,QlS B hs]
 have on:∀y∈opL (x:Int) ns,0<=y:=λy hy=>QjS (Qu7 _ _ y hy)
 have bd:=(QuG hs x8 ns.length (Qi _)).2;have p6:(14:Int)^ns.length<=14^6:=(show ∀n:Fin 7,(14:Int)^n.val<=14^6 by decide) ⟨ns.length,by omega⟩;have p7:(14:Int)^6<1000000000:=by decide
 have b1:evL 1 F<1000000000:=by rw[e1,QlS 1 hs];omega
 have b2:evL 1 (opL x ns)<1000000000:=by rw[<- e1];exact b1
 have dg:=QwL (B:=1000000000) (by decide) F (opL x ns) (λy hy=>⟨hF y hy,QoX (Qdu hF y hy) b1⟩) (λy hy=>⟨on y hy,QoX (Qdu on y hy) b2⟩) (e1 _);refine Qs6 (λi=>(hc i).trans (dg i)) hl λz hz=>?_
 have:=Qu7 _ _ z (Qcb hz);omega
section
variable{P:QN}{w:Jj}{K:PySem.W.Frag}{mg:Str->Option Value}{base:J8}
theorem QaQ:Ji ["_law_stairs_here", "_law_number", "_law_columns", "_law_found", "_law_size", "_law_some", "_law_turn"] ["_law_stairs_here", "_law_number"] (Ql lSum):=⟨rfl,rfl,rfl,by decide +kernel,rfl,by decide +kernel,by decide +kernel⟩
theorem QsA{f f1 f2 f3  : Addr}{fd fd1 fd2 fd3:QK}(F:Fun K "_law_sum" "_law_sum" lSum f fd)(T:GlbA mg)
  (m1:mg "by_weight" = some (.ref f1))(G1:FnOk P w K mg base CX0 6 f1 fd1 ["stairs", "size"] (JE true QwN))(b1:Binds K fd1 ["stairs", "size"] [])(k1:PySem.W.keepIn K (.ref f1)=true)
  (m2:mg "_law_times" = some (.ref f2))(G2:FnOk P w K mg base CX0 1 f2 fd2 ["_law_one", "_law_other"] (JE true Qj5))(b2:Binds K fd2 ["_law_one", "_law_other"] [])(k2:PySem.W.keepIn K (.ref f2)=true)
  (m3:mg "_law_together" = some (.ref f3))(G3:FnOk P w K mg base CX0 1 f3 fd3 ["_law_one", "_law_other"] (JE true Qxk))(b3:Binds K fd3 ["_law_one", "_law_other"] [])(k3:PySem.W.keepIn K (.ref f3)=true) :
  FnOk P w K mg base CX0 7 f fd ["_law_stairs_here", "_law_number"] (JE true QsN):=by
 refine okQ true F QaQ (λargs R EX h=>?_) (λcdv A outer s H E hr=>?_)
 ·obtain⟨ns,x,rfl,_⟩:=h;rfl
 ·have hU:=Room.u60 hr;have hI:=Room.i60 hr;refine⟨_,QH (Z8 2 (Zi (Js J1 YG (by rfl) T.len Yi (YB (qp 0) Jb))) QaQ.nd)
   (QH (Y7 3 (QaJ Jb) QaQ.nd)
   (QH (YO Q8 rfl (QbF (by rfl) T.range (QP (ZE Zz Yg (qp 2) (Jg JA)))) (Zp 4 QaQ.nd rfl (by first | exact Q4 rfl | exact Q0 rfl))
    (QH (Z8 5 (Zi (ZS G1 (hr.mono (by decide)) (by rfl) m1 k1 b1 JK (Zu (qv 0) (Zu (qv 4) Jo)))) QaQ.nd)
   (QH (YO Q8 rfl (QbF (by rfl) T.range (QP (ZE Qbx Qb2 (qp 2) (qp 4)))) (Zp 6 QaQ.nd rfl (by first | exact Q4 rfl | exact Q0 rfl))
    (QZ (Z8 5 (Zi (ZS G2 (hr.mono (by decide)) (by rfl) m2 k2 b2 JK (Zu (qv 5) (Zu (Zi (ZE Qaa QaY (QP (QaJ (QdT JA Jb))) (QP (Js (Qat rfl) Qbk (by rfl) T.max QeC (YB (Jg JA) (YB (QP (ZE Qbx Qb2 (qp 1) (qp 6))) Jb)))))) Jo)))) QaQ.nd)))
   (QZ (Y7 3 (Qg2 G3 (hr.mono (by decide)) (by rfl) m3 k3 b3 JK (YB (qp 3) (YB (qp 5) Jb))) QaQ.nd)))))
   (QH (Qh6 Q8 (Qnp (Qh5 (YA Qb1 (Qfc hU) (qp 3) (QP (QaJ Jb)) (Zc _)) (Qe4 (YA QcS (Qgc hU) (Jg (Qek Yt Qar (qp 3) (QP (QrH (Jg JA))) (λ_ _=>rfl))) (Jg JA) (Zc _)))))
    (QZ (QrF 3)))
   (QZ (QaT 3))))),λargs R EX h=>?_⟩
  obtain⟨ns,x,rfl,hs,h20,x8,hR⟩:=h;have l1:=hs.l1;have l6:=hs.l6;have g:=Qa1 hs;have hc:=QeX hs;have ln:(ns.map Qb).length=ns.length:=Qe _;refine⟨⟨by omega,by omega⟩,QcA (λk δ=>∃(F:List Int)(x4 x5 x6:Sl),δ=[.v (tI ns),.v (.int (x:Int)),.v (.int ((ns.map Qb).length:Int)),.own (F.map Qb),x4,x5,x6]/\F.length<=300/\(∀y∈F,0<=y)/\∀B,evL B F=((Qm k).map λs=>Qbs B x (ns.length - s)*evW B (stC ns) s).sum) ⟨[],_,_,_,rfl,Jm _,λy hy=>(nomatch hy),λB=>rfl⟩ ?_ ?_⟩
  ·rintro k δ hk ⟨F,x4,x5,x6,rfl,fl,fn,fe⟩;have hk:k<=ns.length:=by omega
   refine⟨ns,k,by rw[ZD],hs,h20,hk,?_⟩;rw[QjX];have wl:(wI (stC ns) k).length=(stC ns).length+1:=by unfold wI;rw[Qe,QD]
   refine⟨⟨by omega,by omega⟩,QcA (λt δ=>∃(S:List Int)(x6:Sl),δ=[.v (tI ns),.v (.int (x:Int)),.v (.int ((ns.map Qb).length:Int)),.own (F.map Qb),.v (.int (0+(k:Int))),.v (.list (S.map Qb)),x6]/\S.length<=37+9*t/\(∀y∈S,0<=y)/\∀B,evL B S=Qbs B x t*evW B (stC ns) k) ⟨_,_,rfl,by omega,Qxi _ _,λB=>by rw[QvS];exact(YY _).symm⟩ ?_ ?_⟩
   ·rintro t δ ht ⟨S,x6,rfl,sl,sn,se⟩;have ht:t<7:=by omega
    have lo:(ZZ ((x - t:Nat):Int)).length=x - t:=by unfold ZZ;rw[JF,Jz]
    refine Qcu (k:=((x - t:Nat):Int)) (by split<;>omega) ⟨⟨by omega,by omega,by show 1*_<=_;omega⟩,S,ZZ ((x - t:Nat):Int),?_,by omega,by omega,λy hy=>?_,tmS S (ZZ ((x - t:Nat):Int)),.v (.int (0+(t:Int))),rfl,?_,?_,λB=>?_⟩
    ·rw[Qk3]
    ·unfold ZZ at hy;rw[YD hy];decide
    ·have:=Qt9 S (ZZ ((x - t:Nat):Int));omega
    ·exact Qxl sn λy hy=>by unfold ZZ at hy;rw[YD hy];decide
    ·rw[Qpx,se,Qip];show _=Qbs B x t*gsN B (x - t)*_;unfold gsI;rw[Jz]
     ac_rfl
   ·rintro δ ⟨S,x6,rfl,sl,sn,se⟩;have tl:(((ns.map Qb).length:Int) - (0+(k:Int))).toNat=ns.length - k:=by omega
    rw[tl] at sl se;refine⟨F,S,rfl,by omega,by omega,QcB _,tgL F S,_,_,_,rfl,?_,Qxm fn sn,λB=>?_⟩
    ·unfold tgL;rw[Qe,QD];omega
    ·rw[QvT,fe,se,Yb,Jk,QmB];show _=_+(Qbs B x (ns.length - k)*evW B (stC ns) k+0);rw[Zf]
  ·rintro δ ⟨F,x4,x5,x6,rfl,fl,fn,fe⟩;rw[show(((ns.map Qb).length:Int)+1).toNat=ns.length+1 by omega] at fe;refine Qo1 (λm δ=>∃c:List Int,δ=[.v (tI ns),.v (.int (x:Int)),.v (.int ((ns.map Qb).length:Int)),.own (c.map Qb),x4,x5,x6]/\c.length=m/\∀i,c.getD i 0=F.getD i 0) _ ⟨F,rfl,rfl,λ_=>rfl⟩ ?_
   rintro m δ ⟨c,rfl,hm,hcF⟩;refine⟨⟨Qbe _,rfl,.inr (by decide)⟩,?_⟩;rcases QjC c with rfl | ⟨c0,z,rfl⟩
   ·have:([]:List Int)=opL x ns:=Qo4 hs g.srt x8 fn fe hcF λz hz=>nomatch hz
    rw[<- this] at hR;exact hR
   ·rw[QjF] at hm hcF ⊢;have ll:1<=(c0++[z]).length:=by rw[Qx];show 1<=_+1;omega
    have la:=QlA ll;rw[show(c0++[z]).getLastD 0=z by rw[Za,Yo];rfl] at la;refine ifT (show(!Jf (.list ((c0++[z]).map Qb)) (.list []))=true by cases c0<;>rfl) ⟨_,la,?_⟩;refine ifC (λy=>?_) λy=>?_
    ·have y:z=0:=of_decide_eq_true y;refine⟨by simp,_,?_,c0,?_,rfl,λi=>?_⟩
     ·rw[<- hm,Qx];show c0.length<c0.length+1;omega
     ·have dl:((c0++[z]).map Qb).dropLast=c0.map Qb:=by rw[Jk];exact List.dropLast_concat
      show[_,_,_,Sl.own ((c0++[z]).map Qb).dropLast,_,_,_]=_;rw[dl]
     ·rw[<- hcF i,y,Qf,Qf];by_cases q:i<c0.length
      ·rw[ZG q]
      ·rw[QL (by omega),ZA (by omega)];cases e:i - c0.length with
       |zero=>rfl
       |succ n=>rfl
    ·have y:z≠0:=of_decide_eq_false y;have:c0++[z]=opL x ns:=Qo4 hs g.srt x8 fn fe hcF λw hw=>by
      rw[Yo] at hw;have:z=w:=by simpa using hw
      rw[<- this];exact y
     rw[<- this] at hR;exact hR
end
end Rk
namespace Rx
open PySem.Calls L2 Rk Dl
section
variable{X:Cx}{tf:TE}{fe:QV}{pos:Pos}{e:QV}{es:List QV}{t:TA}{M:Addr->Sp->Prop}
end
end Rx
namespace Dl
open PySem.Calls L2 _root_.Rd Rk
section
variable{X:Cx}{e:QV}{es:List QV}{wa:DSl}{pos:Pos}
end
section
variable{P:QN}{w:Jj}{K:PySem.W.Frag}{mg:Str->Option Value}{base:J8}
theorem QxW{x qual:Str}{st:ZK}{f tP:Addr}{tq:Str}{fd:QK}{N ps:List Str}{k:Nat}{fD:DF}(fr:Bool)(F:Fun K x qual st f fd)(S:Ji N ps (Ql st))(len:∀args R EX,fD args R EX->args.length=ps.length)
  (hbody:∀(cdv:Value)(A:Jh)(outer:List Env)(s:Shared)(H:Hp)(E:XK),Room k (A.deeper (envOfC qual (Ql st) s.heap.objs.size f cdv))->TH tP tq H ->
   ∃wd,QSs (Qjl CX0 P w K mg base N qual (Ql st) f cdv A outer s H E).nox E0 (Je st) wd/\∀args R EX,fD args R EX->wd (QlU fr R XF) (stD N args)):FnOk P w K mg base CX0 (k+1) f fd ps (spT tP tq (JE fr fD)):=by
 refine F.ok S (λvs H Q E h=>?_) λcdv A outer s H vs Q E hr h=>?_
 ·obtain⟨_,A,pt,args,R,EX,_,_,q,h,_⟩:=h;rw[q.length];exact len _ _ _ h
 ·obtain⟨hT,A',pt,args,R,EX,dm,hpt,q,h,k,_⟩:=h;obtain⟨wd,hp,hw⟩:=hbody cdv A outer s H E hr hT;exact⟨_,hp.h,⟨H,A',pt⟩,_,_,Qdm dm hpt q,hw args R EX h,Qhl (Ex:=E) (EX:=EX) k QmE⟩
end
end Dl
namespace Rk
open L2 _root_.Rd
open Dl
open Rt
theorem Qya{ns:List Int}(hs:JQ ns){k:Nat}(hk:k<=ns.length):(hcI ns)[k]? = some ((evS (stC ns) k).length:Int):=by
 have g:=Qa1 hs;rw[<- QlK hs,Qpw g k];by_cases z:k<min (sH ns) ns.length+1
 ·have l:k<(cIw (stF ns) (sH ns) ns.length).length:=by unfold cIw;rw[Qe,QD];exact z
  rw[ZG l];unfold cIw;rw[Qh,Q6 z];rfl
 ·have l:(cIw (stF ns) (sH ns) ns.length).length=min (sH ns) ns.length+1:=by unfold cIw;rw[Qe,QD]
  rw[ZA (by omega),l,Zr,if_pos (by omega),<- Qpw g k];have:evS (stC ns) k=[]:=by
   cases e:evS (stC ns) k with
   |nil=>rfl
   |cons L r=>
    obtain⟨st,lL⟩:=(Qas g.r0 k L).mp (by rw[e];exact .head _);have nr:(L.map (·.1)).Nodup:=Jy.mpr (st.rows.imp λ{a b} h e=>by omega);have:=QbW nr (Q:=(Qm (sH ns)).map λ(r:Nat)=>(r:Int)) λx hx=>by
     obtain⟨p,hp,rfl⟩:=Qo.mp hx;have:=QhT p (st.sub p hp);exact Qo.mpr ⟨p.1.toNat,Q9.mpr (by omega),by omega⟩
    rw[Qe,Qe,QD] at this;omega
  rw[this];rfl
theorem Qt2(cs:List (Int×Int))(k:Nat):(wI cs k).sum=((evS cs k).length:Int):=by
 rw[<- Qs4,QvS];unfold evW;induction evS cs k with
 |nil=>rfl
 |cons L r ih=>rw[Jl,Jd,ih,Int.one_pow,QM];omega
theorem QsP{cs:List (Int×Int)}{k:Nat}(h:Qpo cs k=none):evS cs k=[]:=by
 unfold Qpo at h;obtain⟨b1,_,_⟩:=QdN (wtV cs k) ((evS cs k).length - 1);have:=QgH.mp h;exact Qd2 (by omega)
theorem QsO{cs:List (Int×Int)}{k:Nat}{L:List (Int×Int)}(h:Qpo cs k=some L):L∈evS cs k/\∀M∈evS cs k,wt cs L<=wt cs M:=by
 unfold Qpo at h;obtain⟨b1,b2,_⟩:=QdN (wtV cs k) ((evS cs k).length - 1);obtain⟨hb,e⟩:=Qs.mp h;have at_:∀i (h:i<(evS cs k).length),wtV cs k i=((wt cs (evS cs k)[i]:Nat):Int):=λi h=>by
  unfold wtV;rw[Qf,Qg h];rfl
 refine⟨by rw[<- e];exact Qbo hb,λM hM=>?_⟩;obtain⟨j,hj,eM⟩:=List.getElem_of_mem hM;have:=b2 j (by omega);rw[at_ j hj,at_ _ hb,e,eM] at this;omega
theorem Qxj{cs:List (Int×Int)}{k:Nat}(L:List (Int×Int)):(wI cs k)[wt cs L]? = some (((evS cs k).countP λM=>wt cs M == wt cs L:Nat):Int):=by
 unfold wI;rw[Qh,Q6 (by have:=QjW cs L;omega)];rfl
theorem Qt3{cs:List (Int×Int)}{k w:Nat}(h:∀M∈evS cs k,w<=wt cs M):((wI cs k).take w).sum=0:=by
 have z:∀y∈(wI cs k).take w,y=0:=λy hy=>by
  obtain⟨i,hi⟩:=Jw.mp hy;have iw:i<w:=by
   have:=(Qs.mp hi).1;rw[Yz] at this;omega
  rw[QgN iw] at hi;unfold wI at hi;rw[Qh] at hi;cases e:(Qm (cs.length+1))[i]? with
  |none=>rw[e] at hi;cases hi
  |some m=>
   rw[e] at hi;have hm:m=i:=by
    obtain⟨h1,h2⟩:=Qs.mp e;rw[QmQ] at h2;exact h2.symm
   have hi:(((evS cs k).countP λL=>wt cs L == m:Nat):Int)=y:=Qr hi;rw[<- hi,hm,List.countP_eq_zero.mpr λM hM=>by have:=h M hM;simp;omega];rfl
 generalize (wI cs k).take w=l at z;induction l with
 |nil=>rfl
 |cons a r ih=>rw[Jd,z a (.head _),ih λy hy=>z y (.tail _ hy)];rfl
section
variable{P:QN}{w:Jj}{K:PySem.W.Frag}{mg:Str->Option Value}{base:J8}
theorem Qf3:Ji ["_law_stairs_here", "_law_told", "_law_size", "_law_some", "_law_stand"] ["_law_stairs_here"] (Ql Qet):=⟨rfl,rfl,rfl,by decide +kernel,rfl,by decide +kernel,by decide +kernel⟩
theorem Qvl{tP:Addr}{f f1 f2 f3 f4  : Addr}{fd fd1 fd2 fd3 fd4:QK}(F:Fun K "_law_sizes_right" "_law_sizes_right" Qet f fd)(T:GlbA mg)
  (m1:mg "head_counts" = some (.ref f1))(G1:FnOk P w K mg base CX0 5 f1 fd1 ["stairs"] (JE true Qs0))(b1:Binds K fd1 ["stairs"] [])(k1:PySem.W.keepIn K (.ref f1)=true)
  (m2:mg "by_weight" = some (.ref f2))(G2:FnOk P w K mg base CX0 6 f2 fd2 ["stairs", "size"] (JE true QwN))(b2:Binds K fd2 ["stairs", "size"] [])(k2:PySem.W.keepIn K (.ref f2)=true)
  (m3:mg "lightest" = some (.ref f3))(G3:FnOk P w K mg base CX0 6 f3 fd3 ["stairs", "size"] (spT tP Qox (JE false Qlw)))(b3:Binds K fd3 ["stairs", "size"] [])(k3:PySem.W.keepIn K (.ref f3)=true)
  (m4:mg "left_cells" = some (.ref f4))(G4:FnOk P w K mg base CX0 7 f4 fd4 ["stairs", "stand"] (JE false Qhh))(b4:Binds K fd4 ["stairs", "stand"] [])(k4:PySem.W.keepIn K (.ref f4)=true) :
  FnOk P w K mg base CX0 8 f fd ["_law_stairs_here"] (spT tP Qox (JE false QxZ)):=by
 refine QxW false F Qf3 (λargs R EX h=>?_) (λcdv A outer s H E hr hT=>?_)
 ·obtain⟨ns,rfl,_⟩:=h;rfl
 ·have hU:=Room.u60 hr;have hI:=Room.i60 hr;refine⟨_,QH (Z8 1 (Zi (ZS G1 (hr.mono (by decide)) (by rfl) m1 k1 b1 JK (Zu (qv 0) Jo))) Qf3.nd)
   (QH (YO Q8 rfl (QbF (by rfl) T.range (QP (ZE Zz Yg (QP (Js J1 YG (by rfl) T.len Yi (YB (qp 0) Jb))) (Jg JA)))) (Zp 2 Qf3.nd rfl (by first | exact Q4 rfl | exact Q0 rfl))
    (QH (Z8 3 (Zi (ZS G2 (hr.mono (by decide)) (by rfl) m2 k2 b2 JK (Zu (qv 0) (Zu (qv 2) Jo)))) Qf3.nd)
   (QH (Z8 4 (QkH hT G3 (hr.mono (by decide)) (by rfl) m3 k3 b3 JK (Zu (qv 0) (Zu (qv 2) Jo))) Qf3.nd)
   (QH (QaU (Qnp (QkC (YA Qb1 (Qfc hU) (QP (Js (QdL rfl) Qme (by rfl) T.sum QeB (YB (qp 3) Jb))) (Jg (Qek Yt Qar (qp 1) (qp 2) (λ_ _=>rfl))) (Zc _)) (Qf5 (YA Qb1 (Qfc hU) (QP (QbG Qvc QxY (qp 4) (Jg QrG) (Zc _))) (QP (QbG QcS (Qgc hU) (Jg (Qek Yt Qar (qp 1) (qp 2) (λ_ _=>rfl))) (Jg JA) (Zc _))) (Zc _))))) (QZ (ZW QkI)) Z3)
   (QH (QaU (Qnp (Qh5 (YA Qk2 Qpl (qp 4) (Jg QrG) (Zc _)) (Qe4 (Qnp (QkC (YA Qb1 (Qfc hU) (QP (Js J1 YG (by rfl) T.len Yi (YB (qp 4) Jb))) (qp 2) (Zc _)) (Qf5 (YA Qn2 QaZ (Jg (Qek Yt Qar (qp 3) (QP (Js J1 YG (by rfl) T.len Yi (YB (Jg (JY G4 (hr.mono (by decide)) (by rfl) m4 k4 b4 JK (Zu (qv 0) (Zu (qv 4) Jo)))) Jb))) (λ_ _=>rfl))) (Jg JA) (Zc _)))))))) (QZ (ZW QkI)) Z3)
   (QZ (QaU (Qnp (Qh5 (YA Qk2 Qpl (qp 4) (Jg QrG) (Zc _)) (Qe4 (YA Qn4 QaZ (QP (Js (QdL rfl) Qme (by rfl) T.sum QeB (YB (QP (Qe8 (qp 3) Qe7 (Qe6 (QP (Js J1 YG (by rfl) T.len Yi (YB (Jg (JY G4 (hr.mono (by decide)) (by rfl) m4 k4 b4 JK (Zu (qv 0) (Zu (qv 4) Jo)))) Jb)))))) Jb))) (Jg JA) (Zc _))))) (QZ (ZW QkI)) Z3)))))))
   (QZ (ZW QkI))),λargs R EX h=>?_⟩
  obtain⟨ns,rfl,hs,h20,hR⟩:=h;have l1:=hs.l1;have l6:=hs.l6;have g:=Qa1 hs;have hc:=QeX hs;have ln:(ns.map Qb).length=ns.length:=Qe _;refine⟨ns,rfl,hs,⟨by omega,by omega⟩,QcA (λk δ=>∃x2 x3 x4,δ=[.v (tI ns),.v (.list ((hcI ns).map Qb)),x2,x3,x4]) ⟨_,_,_,rfl⟩ ?_ ?_⟩
  ·rintro k δ hk ⟨x2,x3,x4,rfl⟩;have hk:k<=ns.length:=by omega
   have ha:=Qya hs hk;have hat:atI ((hcI ns).map Qb) (0+(k:Int))=some (.int ((evS (stC ns) k).length:Int)):=by
    rw[ZD];exact Ya (by rw[Qh,ha];rfl)
   refine⟨ns,k,by rw[ZD],hs,h20,hk,?_⟩;rw[QjX];refine⟨ns,k,by rw[ZD],hs,h20,hk,?_⟩;refine QgS (wI (stC ns) k) rfl ⟨_,hat,?_⟩;refine ifF (show(!decide ((wI (stC ns) k).sum=((evS (stC ns) k).length:Int)))=false by rw[Qt2];simp) ?_
   unfold QtG;cases e:Qpo (stC ns) k with
   |none=>
    have ev:=QsP e;refine⟨_,hat,?_⟩;rw[ev];exact⟨_,_,_,rfl⟩
   |some L=>
    obtain⟨mL,low⟩:=QsO e;obtain⟨st,lL⟩:=(Qas g.r0 k L).mp mL;have pos:=QiJ mL;have ap:apB L=true:=by
     have n1:(L.map (·.1)).Nodup:=Jy.mpr (st.rows.imp λ{a b} h e=>by omega);unfold apB;rw[decide_eq_true n1,decide_eq_true st.cols];rfl
    have so:Qyv ns (stT L)=true:=Qrk QhT st.sub ap (st.rows.imp λ{a b} h=>.inl h);have lw:(((stC ns).filter (Qeu L)).map pairD).length=wt (stC ns) L:=Qe _;refine⟨_,hat,?_⟩;refine ifF (show(!decide (false=decide (((evS (stC ns) k).length:Int)=0)))=false by rw[decide_eq_false (show ¬((evS (stC ns) k).length:Int)=0 by omega)];rfl) ?_
    refine ifF (show(!decide (((L.map pairD).length:Int)=0+(k:Int)))=false by rw[decide_eq_true (by rw[Qe];omega)];rfl) ?_
    have cp:0<(evS (stC ns) k).countP λM=>wt (stC ns) M == wt (stC ns) L:=List.countP_pos_iff.mpr ⟨L,mL,beq_self_eq_true _⟩
    refine⟨ns,L,rfl,hs,by omega,so,_,by rw[lw];exact Ya (by rw[Qh,Qxj L];rfl),?_⟩;refine ifF (show decide ((((evS (stC ns) k).countP λM=>wt (stC ns) M == wt (stC ns) L:Nat):Int)<1)=false from decide_eq_false (by omega)) ?_
    refine⟨ns,L,rfl,hs,by omega,so,?_⟩;refine QgS ((wI (stC ns) k).take (wt (stC ns) L)) (by rw[lw,QoH _ _ (by omega),Jz,List.map_take]) ?_
    refine ifF (show decide (0<((wI (stC ns) k).take (wt (stC ns) L)).sum)=false by rw[Qt3 low];rfl) ?_
    exact⟨_,_,_,rfl⟩
  ·rintro δ ⟨x2,x3,x4,rfl⟩;exact hR
end
theorem Qs5(ns:List Int):Jf (.list (ns.map Qb)) (.list (ns.map Qb))=true:=by
 show QcG (ns.map Qb) (ns.map Qb)=true;induction ns with
 |nil=>rfl
 |cons x ns ih=>
  show(Jf (.int x) (.int x)&&QcG (ns.map Qb) (ns.map Qb))=true;rw[ih,Bool.and_true];show decide (x=x)=true;exact decide_eq_true rfl
theorem Qtb(l:List Int):(Qb8 (l.map Qb)).depth<=50:=by
 show Jx (l.map Qb)+1<=50;have:=QdF (n:=0) (ds:=l.map Qb) λd hd=>by obtain⟨p,_,rfl⟩:=Qo.mp hd;unfold Yx;exact Qi _
 omega
theorem Qpf{ns:List Int}(hs:JQ ns)(x:Nat):∀j,j<=ns.length->(prL 1 x ((Qm j).map λi=>ns.getD i 0 - (i:Int))=0/\prI x ((Qm j).map λi=>ns.getD i 0 - (i:Int))=0)∨(prL 1 x ((Qm j).map λi=>ns.getD i 0 - (i:Int))=prI x ((Qm j).map λi=>ns.getD i 0 - (i:Int))/\∀c,c+1=j->1<=(x:Int)+(ns.getD c 0 - (c:Int)))
 |0,_=>.inr ⟨rfl,λc hc=>by omega⟩
 |j+1,hj=>by
  have e:(Qm (j+1)).map (λi=>ns.getD i 0 - (i:Int))=(Qm j).map (λi=>ns.getD i 0 - (i:Int))++[ns.getD j 0 - (j:Int)]:=by rw[Yb,Jk];rfl
  have eI:∀l:List Int,∀h:Int,prI x (l++[h])=prI x l*((x:Int)+h):=λl h=>by rw[Qg8];show prI x l*((x+h)*1)=_;rw[Qbq]
  rw[e,Qg7,eI];rcases Qpf hs x j (by omega) with⟨z1,z2⟩ | ⟨z1,z2⟩
  ·exact .inl ⟨by rw[z1,ZV],by rw[z2,ZV]⟩
  ·have b:=(hs.bd _ (getD_mem (show j<ns.length by omega))).1;have hge:0<=(x:Int)+(ns.getD j 0 - (j:Int)):=by
    cases j with
    |zero=>show 0<=(x:Int)+(ns.getD 0 0 - ((0:Nat):Int));omega
    |succ c=>
     have h1:=z2 c rfl;have h2:=Qhe hs.nf (c:=c) (by omega);show 0<=(x:Int)+(ns.getD (c+1) 0 - ((c+1:Nat):Int));omega
   have g:gsI 1 ((x:Int)+(ns.getD j 0 - (j:Int)))=(x:Int)+(ns.getD j 0 - (j:Int)):=by unfold gsI;rw[QwK,QcY hge]
   by_cases z:(x:Int)+(ns.getD j 0 - (j:Int))=0
   ·refine .inl ⟨?_,by rw[z,JT]⟩;rw[g,z,JT]
   ·refine .inr ⟨by rw[g,z1],λc hc=>?_⟩;have:c=j:=by omega
    rw[this];omega
theorem Qu5{ns:List Int}(hs:JQ ns)(x:Nat):(opL (x:Int) ns).sum=prI x (hdL ns):=by
 rw[<- Qs4,QlS 1 hs,Qg6 1 hs x _ (Qi _)];rcases Qpf hs x ns.length (Qi _) with⟨z1,z2⟩ | ⟨z1,_⟩
 ·rw[z1];exact z2.symm
 ·exact z1
section
variable{P:QN}{w:Jj}{K:PySem.W.Frag}{mg:Str->Option Value}{base:J8}
theorem QsF:(["_law_number"]:List Str).Nodup:=by decide +kernel
theorem Qdp:Ji ["_law_script", "_law_at", "_law_pot_here", "_law_stairs_here", "_law_number", "_law_found"] ["_law_script"] (Ql sLaw):=⟨rfl,rfl,rfl,by decide +kernel,rfl,by decide +kernel,by decide +kernel⟩
theorem Qvm{tP:Addr}{f f1 f2 f3 f4 f5 f6 f7 f8  : Addr}{fd fd1 fd2 fd3 fd4 fd5 fd6 fd7 fd8:QK}(F:Fun K "law" "law" sLaw f fd)(T:GlbA mg)
  (m1:mg "_law_cell_at" = some (.ref f1))(G1:FnOk P w K mg base CX0 1 f1 fd1 ["_law_script", "_law_k"] (QbX K))(b1:Binds K fd1 ["_law_script", "_law_k"] [])(k1:PySem.W.keepIn K (.ref f1)=true)
  (m2:mg "_law_pot" = some (.ref f2))(G2:FnOk P w K mg base CX0 1 f2 fd2 ["_law_cell"] (JE true QxI))(b2:Binds K fd2 ["_law_cell"] [])(k2:PySem.W.keepIn K (.ref f2)=true)
  (m3:mg "_law_take" = some (.ref f3))(G3:FnOk P w K mg base CX0 1 f3 fd3 ["_law_pot_here", "_law_far"] (JE true Qm4))(b3:Binds K fd3 ["_law_pot_here", "_law_far"] [])(k3:PySem.W.keepIn K (.ref f3)=true)
  (m4:mg "_law_stairs" = some (.ref f4))(G4:FnOk P w K mg base CX0 2 f4 fd4 ["_law_pot_here", "_law_columns", "_law_most"] (JE false Qfh))(b4:Binds K fd4 ["_law_pot_here", "_law_columns", "_law_most"] [])(k4:PySem.W.keepIn K (.ref f4)=true)
  (m5:mg "_law_sizes_right" = some (.ref f5))(G5:FnOk P w K mg base CX0 8 f5 fd5 ["_law_stairs_here"] (spT tP Qox (JE false QxZ)))(b5:Binds K fd5 ["_law_stairs_here"] [])(k5:PySem.W.keepIn K (.ref f5)=true)
  (m6:mg "ones_product" = some (.ref f6))(G6:FnOk P w K mg base CX0 6 f6 fd6 ["stairs", "number"] (JE true Qss))(b6:Binds K fd6 ["stairs", "number"] [])(k6:PySem.W.keepIn K (.ref f6)=true)
  (m7:mg "_law_sum" = some (.ref f7))(G7:FnOk P w K mg base CX0 7 f7 fd7 ["_law_stairs_here", "_law_number"] (JE true QsN))(b7:Binds K fd7 ["_law_stairs_here", "_law_number"] [])(k7:PySem.W.keepIn K (.ref f7)=true)
  (m8:mg "product_at" = some (.ref f8))(G8:FnOk P w K mg base CX0 6 f8 fd8 ["stairs", "number"] (JE false QrO))(b8:Binds K fd8 ["stairs", "number"] [])(k8:PySem.W.keepIn K (.ref f8)=true) :
  FnOk P w K mg base CX0 9 f fd ["_law_script"] (spT tP Qox (Qd7 K)):=by
 refine QxX F Qdp (λcdv A outer s H E hr hT=>?_);have hU:=Room.u60 hr;have hI:=Room.i60 hr;refine⟨_,QH (YO Q8 rfl (QbF (by rfl) T.range (QP (Js (Qat rfl) Qbk (by rfl) T.max QeC (YB (Jg JA) (YB (QP (Js (Qgt rfl) Qiy (by rfl) T.min Qmj (YB (QP (Quz 0 (by rfl) T.len)) (YB (Jg JA) Jb)))) Jb))))) (Zp 1 Qdp.nd rfl (by first | exact Q4 rfl | exact Q0 rfl))
    (QH (QrE 2 (ZS G2 (hr.mono (by decide)) (by rfl) m2 k2 b2 JK (Zu (Zi (QuA 0 G1 (hr.mono (by decide)) (by rfl) m1 k1 b1 (qp 1))) Jo)) Qdp.nd)
   (QH (Z8 3 (JY G4 (hr.mono (by decide)) (by rfl) m4 k4 b4 JK (QcP 2 (Zu (Zi (ZE Zz Yg (Jg JA) (QP (ZS G3 (hr.mono (by decide)) (by rfl) m3 k3 b3 JK (QcP 2 (Zu JA Jo)))))) (Zu JA Jo)))) Qdp.nd)
   (QH (Qh6 Q8 (YA Qn4 QaZ (QP (Js (QdK rfl) Qhs (by rfl) T.sum QeB (YB (qp 3) Jb))) (Jg JA) (Zc _))
    (QZ (Z8 3 (Zi (QbY Qam Qfs (by rfl) T.tuple Qbl (YB (QP (QaF ["_law_number"] [none] (QaV (qp 3)) (λcl ex s3 H3 C=>⟨(Zp 0 QsF rfl (Q4 rfl) (Q0 rfl)),Z2,(Zi (Js (Qat rfl) Qbk (by rfl) T.max QeC (YB (Jg JA) (YB (QP (ZE Qbx Qb2 (qp 0) (Jg JA))) Jb))))⟩))) Jb))) Qdp.nd)))
   (QH (QaU (QaS (QaR (Jg (QkH hT G5 (hr.mono (by decide)) (by rfl) m5 k5 b5 JK (Zu (qv 3) Jo))))) (QZ (ZW QkI)) Z3)
   (QZ (YO Q8 rfl (QaW (Zi (QaJ (QdT (Zi (ZS G3 (hr.mono (by decide)) (by rfl) m3 k3 b3 JK (QcP 2 (Zu JA Jo)))) (QdT (Zi (ZS G3 (hr.mono (by decide)) (by rfl) m3 k3 b3 JK (QcP 2 (Zu JA Jo)))) Jb))))) (Zp 4 Qdp.nd rfl (by first | exact Q4 rfl | exact Q0 rfl))
    (QH (Z8 5 (Zi (ZS G6 (hr.mono (by decide)) (by rfl) m6 k6 b6 JK (Zu (qv 3) (Zu (qv 4) Jo)))) Qdp.nd)
   (QZ (QaU (Qnp (QkC (YA Qb1 (Qfc hU) (qp 5) (QP (ZS G7 (hr.mono (by decide)) (by rfl) m7 k7 b7 JK (Zu (qv 3) (Zu (qv 4) Jo)))) (Zc _)) (Qf5 (YA Qb1 (Qfc hU) (QP (Js (QdL rfl) Qme (by rfl) T.sum QeB (YB (qp 5) Jb))) (Jg (JY G8 (hr.mono (by decide)) (by rfl) m8 k8 b8 JK (Zu (qv 3) (Zu (qv 4) Jo)))) (Zc _))))) (QZ (ZW QkI)) Z3))))))))))
   (QZ (ZW QkI)),?_⟩
 intro n0 n63;refine Qdt rfl (Qcu rfl ⟨⟨by split<;>split<;>omega,by split<;>split<;>omega⟩,QcA (λi δ=>∃x1 x2 x3 x4 x5,δ=[.scr,x1,x2,x3,x4,x5]) ⟨_,_,_,_,_,rfl⟩ ?_ ?_⟩)
 ·rintro i δ hi ⟨x1,x2,x3,x4,x5,rfl⟩;refine⟨by omega,λc=>⟨c,rfl,λn1=>?_⟩⟩;refine⟨_,rfl,by decide,by decide,λr r0 r1=>⟨_,rfl,by omega,by omega,λns hs=>?_⟩⟩;refine Qo1 (λn δ=>∃ns,δ=[.scr,.v (.int (0+(i:Int))),.pot,.v (tI ns),x4,x5]/\JQ ns/\ns.sum.toNat=n) _ ⟨ns,rfl,hs,rfl⟩ ?_
  rintro n δ ⟨ns,rfl,hs,hn⟩;have h0:=Qkc λi hi=>(hs.bd i hi).1
  refine QgR ns rfl ?_
  refine ifC (λz=>?_) λz=>?_
  ·have z:(16:Int)<ns.sum:=of_decide_eq_true z;refine Qab (λd=>.int (dn1 (toI d))) (λd hd k2 hk=>?_) ?_
   ·obtain⟨i,_,rfl⟩:=Qo.mp hd;exact Qcu (k:=dn1 i) rfl hk
   ·have e:(ns.map Qb).map (λd=>Qb (dn1 (toI d)))=(ns.map dn1).map Qb:=by rw[QY,QY];rfl
    rw[e];have q:=Qo5 (ns:=ns) λi hi=>(hs.bd i hi).1
    have q2:=q.2 (by omega);have q0:=Qkc (ns:=ns.map dn1) λi hi=>((Qf0 hs).bd i hi).1
    exact⟨_,by omega,_,rfl,Qf0 hs,rfl⟩
  ·have z:ns.sum<=16:=by have:=of_decide_eq_false z;omega
   refine⟨ns,rfl,hs,by omega,?_⟩;refine⟨_,rfl,by decide,by decide,λr r0 r1=>⟨_,rfl,by decide,by decide,λr2 r20 r21=>?_⟩⟩;refine Zq (λ_ δ=>∃x1 x4 x5,δ=[.scr,x1,.pot,.v (tI ns),x4,x5]) ⟨_,_,_,rfl⟩ ?_ ?_
   ·rintro j d δ hd ⟨x1,x4,x5,rfl⟩;obtain⟨x,rfl,x8⟩:=Qmu (p:=λd=>∃x:Nat,d=.int (x:Int)/\x<=8) ⟨r.toNat,by rw[QcY r0],by omega⟩ (Qmu ⟨r2.toNat,by rw[QcY r20],by omega⟩ Qwi) d (Qz hd);refine⟨ns,x,rfl,hs,by omega,by omega,by omega,ns,x,rfl,hs,by omega,x8,⟨Qbe _,Qbe _,.inl (Qtb _)⟩,?_⟩;refine ifF (show(!Jf (.list ((opL (x:Int) ns).map Qb)) (.list ((opL (x:Int) ns).map Qb)))=false by rw[Qs5];rfl) ?_
    refine QgS (opL (x:Int) ns) rfl ⟨ns,x,rfl,hs,by omega,by omega,ifF (show(!decide ((opL (x:Int) ns).sum=prI x (hdL ns)))=false by rw[Qu5 hs x];simp) ?_⟩;exact⟨_,_,_,rfl⟩
   ·rintro δ ⟨x1,x4,x5,rfl⟩;exact⟨_,_,_,_,_,rfl⟩
 ·rintro δ ⟨x1,x2,x3,x4,x5,rfl⟩;rfl
end
end Rk
def PySem.W.Fast.tw16881491821897843345:Nat:=0
def PySem.W.Fast.tw7968435481715265477:Nat:=0
def PySem.W.Fast.tw6450305694090093045:Nat:=0
def PySem.W.Fast.tw2924694862561338176:Nat:=0
def PySem.W.Fast.tw6936641898606158789:Nat:=0
def PySem.W.Fast.tw15499015278075902660:Nat:=0
def PySem.W.Fast.tw3608033971748009253:Nat:=0
def PySem.W.Fast.tw18305656550592153573:Nat:=0
def PySem.W.Fast.tw5922899895878294758:Nat:=0
def PySem.W.Fast.tw12754767421385251319:Nat:=0
def PySem.W.Fast.tw6365703706301356963:Nat:=0
def PySem.W.Fast.tw10987105897019836071:Nat:=0
def PySem.W.Fast.tw1069379077745957359:Nat:=0
def PySem.W.Fast.tw13346159742976257617:Nat:=0
def PySem.W.Fast.tw254897532963455480:Nat:=0
def PySem.W.Fast.tw14001459670578071825:Nat:=0
def PySem.W.Fast.tw337143505643351004:Nat:=0
def PySem.W.Fast.tw3814765419012294557:Nat:=0
def PySem.W.Fast.tw706238664333127395:Nat:=0
def PySem.W.Fast.tw13350135571805635502:Nat:=0
def PySem.W.Fast.tw13059319684725700070:Nat:=0
def PySem.W.Fast.tw12534799564520335796:Nat:=0
def PySem.W.Fast.tw17483619836049667152:Nat:=0
def PySem.W.Fast.tw2655911515070479451:Nat:=0
def PySem.W.Fast.tw16244327069039609312:Nat:=0
def PySem.W.Fast.tw14539385478866248982:Nat:=0
def PySem.W.Fast.tw2242106231391090372:Nat:=0
def PySem.W.Fast.tw18061714125874821768:Nat:=0
def PySem.W.Fast.tw160801627124808254:Nat:=0
def PySem.W.Fast.tw3847375223030343557:Nat:=0
def PySem.W.Fast.tw3923087074296642307:Nat:=0
def PySem.W.Fast.tw4814850277918996417:Nat:=0
def PySem.W.Fast.tw514899790763028105:Nat:=0
def PySem.W.Fast.tw13470167679242236048:Nat:=0
def PySem.W.Fast.tw6661202503069668267:Nat:=0
def PySem.W.Fast.tw257517950810986293:Nat:=0
def PySem.W.Fast.tw5681688385506352150:Nat:=0
def PySem.W.Fast.tw12897289873887868664:Nat:=0
def PySem.W.Fast.tw4190938988564099300:Nat:=0
def PySem.W.Fast.tw12106632446326948548:Nat:=0
def PySem.W.Fast.tw12233253415930727682:Nat:=0
def PySem.W.Fast.tw7827329172319651595:Nat:=0
def PySem.W.Fast.tw3562800677937558090:Nat:=0
def PySem.W.Fast.tw6323688372734897750:Nat:=0
def PySem.W.Fast.tw9197139875493198241:Nat:=0
def PySem.W.Fast.tw9011652199977192121:Nat:=0
def PySem.W.Fast.tw1368422945294116432:Nat:=0
def PySem.W.Fast.tw4381479123493630966:Nat:=0
def PySem.W.Fast.tw7809822068128058623:Nat:=0
def PySem.W.Fast.tw4625141187471092833:Nat:=0
def PySem.W.Fast.tw14898237279325307977:Nat:=0
def PySem.W.Fast.tw15990914543112462644:Nat:=0
def PySem.W.Fast.tw1095028349920943559:Nat:=0
def PySem.W.Fast.tw5622590179834101195:Nat:=0
def PySem.W.Fast.tw4857743920739351160:Nat:=0
def PySem.W.Fast.tw4759011875788046329:Nat:=0
def PySem.W.Fast.tw922799407688181225:Nat:=0
def PySem.W.Fast.tw16972664576791735028:Nat:=0
def PySem.W.Fast.tw5037190939546949113:Nat:=0
def PySem.W.Fast.tw13612715415167071666:Nat:=0
def PySem.W.Fast.tw14729894412795182623:Nat:=0
def PySem.W.Fast.tw1740059632104128003:Nat:=0
def PySem.W.Fast.tw8372840568315239748:Nat:=0
def PySem.W.Fast.tw1245483694050197254:Nat:=0
def PySem.W.Fast.tw9876724586213631064:Nat:=0
def PySem.W.Fast.tw13501260024142982218:Nat:=0
def PySem.W.Fast.tw11891901984852499166:Nat:=0
def PySem.W.Fast.tw4148510369522400782:Nat:=0
def PySem.W.Fast.tw17208377076610495262:Nat:=0
def PySem.W.Fast.tw2036488862036281520:Nat:=0
def PySem.W.Fast.tw9000665878904110124:Nat:=0
def PySem.W.Fast.tw4820921811313443598:Nat:=0
def PySem.W.Fast.tw17424510413432518704:Nat:=0
def PySem.W.Fast.tw11097027472812330654:Nat:=0
def PySem.W.Fast.tw18381700200765353008:Nat:=0
def PySem.W.Fast.tw2285153861625349956:Nat:=0
def PySem.W.Fast.tw2573891792751247949:Nat:=0
def PySem.W.Fast.tw10961618180678670019:Nat:=0
def PySem.W.Fast.tw8349882229755694543:Nat:=0
def PySem.W.Fast.tw6582228815810033225:Nat:=0
def PySem.W.Fast.tw15770554142430251619:Nat:=0
def PySem.W.Fast.tw17873136092978805400:Nat:=0
def PySem.W.Fast.tw479546926681695274:Nat:=0
def PySem.W.Fast.tw7276810326484883578:Nat:=0
def PySem.W.Fast.tw17082963378496868701:Nat:=0
def PySem.W.Fast.tw10429522842965742009:Nat:=0
def PySem.W.Fast.tw12122695054421037653:Nat:=0
def PySem.W.Fast.tw3676703809809003781:Nat:=0
def PySem.W.Fast.tw3185052714969155868:Nat:=0
def PySem.W.Fast.tw13525727230238643745:Nat:=0
def PySem.W.Fast.tw2611455862203251792:Nat:=0
def PySem.W.Fast.tw4168178466863341210:Nat:=0
def PySem.W.Fast.tw15248742807333690026:Nat:=0
def PySem.W.Fast.tw3322165998171316292:Nat:=0
def PySem.W.Fast.tw3884470603276930661:Nat:=0
def PySem.W.Fast.tw4789287927747040047:Nat:=0
def PySem.W.Fast.tw14443832016362626012:Nat:=0
def PySem.W.Fast.tw640835849676452993:Nat:=0
def PySem.W.Fast.tw15670816191704369432:Nat:=0
def PySem.W.Fast.tw2223290240904020377:Nat:=0
def PySem.W.Fast.tw8466431089168528557:Nat:=0
def PySem.W.Fast.tw15234904509312468571:Nat:=0
def PySem.W.Fast.tw5785674909591625769:Nat:=0
def PySem.W.Fast.tw7724426566694484642:Nat:=0
def PySem.W.Fast.tw18161530692166144405:Nat:=0
def PySem.W.Fast.tw6275931951945148035:Nat:=0
def PySem.W.Fast.tw3125530869169396867:Nat:=0
def PySem.W.Fast.tw7384208873392965555:Nat:=0
def PySem.W.Fast.tw3028743834353561630:Nat:=0
def PySem.W.Fast.tw18035656675249314817:Nat:=0
def PySem.W.Fast.tw15844570646135845342:Nat:=0
def PySem.W.Fast.tw8898691895567195861:Nat:=0
def PySem.W.Fast.tw5684933390579362625:Nat:=0
def PySem.W.Fast.tw9134985117555217737:Nat:=0
def PySem.W.Fast.tw6164897883542799986:Nat:=0
def PySem.W.Fast.tw961371034488237342:Nat:=0
def PySem.W.Fast.tw16972431988997710627:Nat:=0
def PySem.W.Fast.tw14330081568858390444:Nat:=0
def PySem.W.Fast.tw3684273644947954512:Nat:=0
def PySem.W.Fast.tw9480933021446873077:Nat:=0
def PySem.W.Fast.tw4163367623458987408:Nat:=0
def PySem.W.Fast.tw15811338440678584220:Nat:=0
def PySem.W.Fast.tw4809704041822779905:Nat:=0
def PySem.W.Fast.tw16608278564904635444:Nat:=0
def PySem.W.Fast.tw1870564825099607264:Nat:=0
def PySem.W.Fast.tw4842321291079934830:Nat:=0
def PySem.W.Fast.tw16715043504292635149:Nat:=0
def PySem.W.Fast.tw16455460430655950161:Nat:=0
def PySem.W.Fast.tw17498161920514732932:Nat:=0
def PySem.W.Fast.tw13329810270938305889:Nat:=0
def PySem.W.Fast.tw6992252102265220128:Nat:=0
def PySem.W.Fast.tw12963995134797620292:Nat:=0
def PySem.W.Fast.tw3081207266897596208:Nat:=0
def PySem.W.Fast.tw11223885242350163099:Nat:=0
def PySem.W.Fast.tw26153181921654805:Nat:=0
def PySem.W.Fast.tw5424941726723178474:Nat:=0
def PySem.W.Fast.tw17373347696341639966:Nat:=0
def PySem.W.Fast.tw2591587373489172225:Nat:=0
def PySem.W.Fast.tw4548621646660476418:Nat:=0
def PySem.W.Fast.tw14755863478041518409:Nat:=0
def PySem.W.Fast.tw4633981747692560192:Nat:=0
def PySem.W.Fast.tw15353614703483383074:Nat:=0
def PySem.W.Fast.tw14427774639002941138:Nat:=0
def PySem.W.Fast.tw17852832338873419482:Nat:=0
def PySem.W.Fast.tw16879552833304812720:Nat:=0
def PySem.W.Fast.tw8046609069946269231:Nat:=0
def PySem.W.Fast.tw2360726226352921462:Nat:=0
def PySem.W.Fast.tw5713883783145657225:Nat:=0
def PySem.W.Fast.tw10666919305765294391:Nat:=0
def PySem.W.Fast.tw228853387217069187:Nat:=0
def PySem.W.Fast.tw8276231812094220546:Nat:=0
def PySem.W.Fast.tw5623107302837177182:Nat:=0
def PySem.W.Fast.tw184237916177083973:Nat:=0
def PySem.W.Fast.tw13277342553114382641:Nat:=0
def PySem.W.Fast.tw18370895358876238394:Nat:=0
def PySem.W.Fast.tw9549849746581354399:Nat:=0
def PySem.W.Fast.tw8540832421831145683:Nat:=0
def PySem.W.Fast.tw14437947384861667048:Nat:=0
def PySem.W.Fast.tw7041299905476100703:Nat:=0
def PySem.W.Fast.tw5854143213240890466:Nat:=0
def PySem.W.Fast.tw15212990893417649609:Nat:=0
def PySem.W.Fast.tw3360922489350682226:Nat:=0
def PySem.W.Fast.tw2962944923165316606:Nat:=0
def PySem.W.Fast.tw18348294014381801191:Nat:=0
def PySem.W.Fast.tw15388650857023994954:Nat:=0
def PySem.W.Fast.tw1643383839505349041:Nat:=0
def PySem.W.Fast.tw2832499953576077469:Nat:=0
def PySem.W.Fast.tw6482650640331429760:Nat:=0
def PySem.W.Fast.tw15778350283006690450:Nat:=0
def PySem.W.Fast.tw16356877365714786977:Nat:=0
def PySem.W.Fast.tw6163273896687747218:Nat:=0
def PySem.W.Fast.tw6088673313019577205:Nat:=0
def PySem.W.Fast.tw12607489978173496203:Nat:=0
def PySem.W.Fast.tw2018610562374821538:Nat:=0
def PySem.W.Fast.tw1590036245646565969:Nat:=0
def PySem.W.Fast.tw3409417109549846120:Nat:=0
def PySem.W.Fast.tw6530150130786384411:Nat:=0
def PySem.W.Fast.tw118007510624658824:Nat:=0
def PySem.W.Fast.tw16094314541296677745:Nat:=0
def PySem.W.Fast.tw518180441323609854:Nat:=0
def PySem.W.Fast.tw624808484669758699:Nat:=0
def PySem.W.Fast.tw3226208425182813256:Nat:=0
def PySem.W.Fast.tw8628567433812411357:Nat:=0
def PySem.W.Fast.tw3483678302227030422:Nat:=0
def PySem.W.Fast.tw10003322177702333980:Nat:=0
def PySem.W.Fast.tw1528388682125684757:Nat:=0
def PySem.W.Fast.tw11288680282620414905:Nat:=0
namespace Rk
open L2
theorem QoB{vs:List V}{H:Hp}{Q:VK}{E:XK}(h:Dl.JE true Qps vs H Q E):Dl.JE true Qik vs H Q E:=by
 obtain⟨A,pt,args,R,EX,h1,h2,h3,⟨ns,e,hs,hR⟩,h5,h6⟩:=h;exact⟨A,pt,args,R,EX,h1,h2,h3,⟨ns,e,hs,hR _ (Qap _) (QgU _)⟩,h5,h6⟩
theorem Qwh{l:PySem.W.OpenLaw}{w:Jj}{K:PySem.W.Frag}{h:J8}{mg:Str->Option Value}{fa f1 f2 f3 f4 f5 f6 f7 f8 f9 f10 f11 f12 f13 f14 f15 f16 f17 f18 f19 f20 f21 f22 f23 f24 f25 f26 f27 f28 f29 f30 f31 f32 f33 f34 f35 f36 f37:Addr}(X:K.In h)(G:h.Ns mainGlobals mg)(hfa:mg "law" = some (.ref fa))
  {od1 an1 od2 an2 od3 an3 od4 an4 od5 an5 od6 an6 od7 an7 od8 an8 od9 an9 od10 an10 od11 an11 od12 an12 od13 an13 od14 an14 od15 an15 od16 an16 od17 an17 od18 an18 od19 an19 od20 an20 od21 an21 od22 an22 od23 an23 od24 an24 od25 an25 od26 an26 od27 an27 od28 an28 od29 an29 od30 an30 od31 an31 od32 an32 od33 an33 od34 an34 od35 an35 od36 an36 od37 an37:Option Addr} {sl1 sl2 sl3 sl4 sl5 sl6 sl7 sl8 sl9 sl10 sl11 sl12 sl13 sl14 sl15 sl16 sl17 sl18 sl19 sl20 sl21 sl22 sl23 sl24 sl25 sl26 sl27 sl28 sl29 sl30 sl31 sl32 sl33 sl34 sl35 sl36 sl37:Array (Option Value)} {oc1 kV1 dc1 pm1 cd1 ct1 oc2 kV2 dc2 pm2 cd2 ct2 oc3 kV3 dc3 pm3 cd3 ct3 oc4 kV4 dc4 pm4 cd4 ct4 oc5 kV5 dc5 pm5 cd5 ct5 oc6 kV6 dc6 pm6 cd6 ct6 oc7 kV7 dc7 pm7 cd7 ct7 oc8 kV8 dc8 pm8 cd8 ct8 oc9 kV9 dc9 pm9 cd9 ct9 oc10 kV10 dc10 pm10 cd10 ct10 oc11 kV11 dc11 pm11 cd11 ct11 oc12 kV12 dc12 pm12 cd12 ct12 oc13 kV13 dc13 pm13 cd13 ct13 oc14 kV14 dc14 pm14 cd14 ct14 oc15 kV15 dc15 pm15 cd15 ct15 oc16 kV16 dc16 pm16 cd16 ct16 oc17 kV17 dc17 pm17 cd17 ct17 oc18 kV18 dc18 pm18 cd18 ct18 oc19 kV19 dc19 pm19 cd19 ct19 oc20 kV20 dc20 pm20 cd20 ct20 oc21 kV21 dc21 pm21 cd21 ct21 oc22 kV22 dc22 pm22 cd22 ct22 oc23 kV23 dc23 pm23 cd23 ct23 oc24 kV24 dc24 pm24 cd24 ct24 oc25 kV25 dc25 pm25 cd25 ct25 oc26 kV26 dc26 pm26 cd26 ct26 oc27 kV27 dc27 pm27 cd27 ct27 oc28 kV28 dc28 pm28 cd28 ct28 oc29 kV29 dc29 pm29 cd29 ct29 oc30 kV30 dc30 pm30 cd30 ct30 oc31 kV31 dc31 pm31 cd31 ct31 oc32 kV32 dc32 pm32 cd32 ct32 oc33 kV33 dc33 pm33 cd33 ct33 oc34 kV34 dc34 pm34 cd34 ct34 oc35 kV35 dc35 pm35 cd35 ct35 oc36 kV36 dc36 pm36 cd36 ct36 oc37 kV37 dc37 pm37 cd37 ct37:Value}
  (a1:PySem.W.nsIn K mainGlobals "is_whole" = some (some (.ref f1))) (l1:K.lookup f1=some ⟨oc1,od1,.func (PySem.W.fnOf "is_whole" "is_whole" (Jp Qd9) (Je Qd9) (Ql Qd9) .none kV1 dc1 pm1 an1 cd1 ct1),sl1⟩) (c1:PySem.W.codeIn K cd1 "is_whole" = true) (k1:PySem.W.keepIn K (.ref f1)=true)
  (a2:PySem.W.nsIn K mainGlobals "is_whole_within" = some (some (.ref f2)))(l2:K.lookup f2=some ⟨oc2,od2,.func (PySem.W.fnOf "is_whole_within" "is_whole_within" (Jp Qcl) (Je Qcl) (Ql Qcl) .none kV2 dc2 pm2 an2 cd2 ct2),sl2⟩)(c2:PySem.W.codeIn K cd2 "is_whole_within" = true)(k2:PySem.W.keepIn K (.ref f2)=true)
  (a3:PySem.W.nsIn K mainGlobals "is_rising" = some (some (.ref f3)))(l3:K.lookup f3=some ⟨oc3,od3,.func (PySem.W.fnOf "is_rising" "is_rising" (Jp Qco) (Je Qco) (Ql Qco) .none kV3 dc3 pm3 an3 cd3 ct3),sl3⟩)(c3:PySem.W.codeIn K cd3 "is_rising" = true)(k3:PySem.W.keepIn K (.ref f3)=true)
  (a4:PySem.W.nsIn K mainGlobals "is_never_falling" = some (some (.ref f4)))(l4:K.lookup f4=some ⟨oc4,od4,.func (PySem.W.fnOf "is_never_falling" "is_never_falling" (Jp Qec) (Je Qec) (Ql Qec) .none kV4 dc4 pm4 an4 cd4 ct4),sl4⟩)(c4:PySem.W.codeIn K cd4 "is_never_falling" = true)(k4:PySem.W.keepIn K (.ref f4)=true)
  (a5:PySem.W.nsIn K mainGlobals "is_cells" = some (some (.ref f5)))(l5:K.lookup f5=some ⟨oc5,od5,.func (PySem.W.fnOf "is_cells" "is_cells" (Jp Qeh) (Je Qeh) (Ql Qeh) .none kV5 dc5 pm5 an5 cd5 ct5),sl5⟩)(c5:PySem.W.codeIn K cd5 "is_cells" = true)(k5:PySem.W.keepIn K (.ref f5)=true)
  (a6:PySem.W.nsIn K mainGlobals "is_place" = some (some (.ref f6)))(l6:K.lookup f6=some ⟨oc6,od6,.func (PySem.W.fnOf "is_place" "is_place" (Jp Qeb) (Je Qeb) (Ql Qeb) .none kV6 dc6 pm6 an6 cd6 ct6),sl6⟩)(c6:PySem.W.codeIn K cd6 "is_place" = true)(k6:PySem.W.keepIn K (.ref f6)=true)
  (a7:PySem.W.nsIn K mainGlobals "is_stairs" = some (some (.ref f7)))(l7:K.lookup f7=some ⟨oc7,od7,.func (PySem.W.fnOf "is_stairs" "is_stairs" (Jp Qcm) (Je Qcm) (Ql Qcm) .none kV7 dc7 pm7 an7 cd7 ct7),sl7⟩)(c7:PySem.W.codeIn K cd7 "is_stairs" = true)(k7:PySem.W.keepIn K (.ref f7)=true)
  (a8:PySem.W.nsIn K mainGlobals "refuse_no_stairs" = some (some (.ref f8)))(l8:K.lookup f8=some ⟨oc8,od8,.func (PySem.W.fnOf "refuse_no_stairs" "refuse_no_stairs" (Jp QiW) (Je QiW) (Ql QiW) .none kV8 dc8 pm8 an8 cd8 ct8),sl8⟩)(c8:PySem.W.codeIn K cd8 "refuse_no_stairs" = true)(k8:PySem.W.keepIn K (.ref f8)=true)
  (a9:PySem.W.nsIn K mainGlobals "stair_board" = some (some (.ref f9)))(l9:K.lookup f9=some ⟨oc9,od9,.func (PySem.W.fnOf "stair_board" "stair_board" (Jp Qcn) (Je Qcn) (Ql Qcn) .none kV9 dc9 pm9 an9 cd9 ct9),sl9⟩)(c9:PySem.W.codeIn K cd9 "stair_board" = true)(k9:PySem.W.keepIn K (.ref f9)=true)
  (a10:PySem.W.nsIn K mainGlobals "heads" = some (some (.ref f10)))(l10:K.lookup f10=some ⟨oc10,od10,.func (PySem.W.fnOf "heads" "heads" (Jp Qef) (Je Qef) (Ql Qef) .none kV10 dc10 pm10 an10 cd10 ct10),sl10⟩)(c10:PySem.W.codeIn K cd10 "heads" = true)(k10:PySem.W.keepIn K (.ref f10)=true)
  (a11:PySem.W.nsIn K mainGlobals "head_counts" = some (some (.ref f11)))(l11:K.lookup f11=some ⟨oc11,od11,.func (PySem.W.fnOf "head_counts" "head_counts" (Jp Qi1) (Je Qi1) (Ql Qi1) .none kV11 dc11 pm11 an11 cd11 ct11),sl11⟩)(c11:PySem.W.codeIn K cd11 "head_counts" = true)(k11:PySem.W.keepIn K (.ref f11)=true)
  (a12:PySem.W.nsIn K mainGlobals "counts_with_column" = some (some (.ref f12)))(l12:K.lookup f12=some ⟨oc12,od12,.func (PySem.W.fnOf "counts_with_column" "counts_with_column" (Jp Qi2) (Je Qi2) (Ql Qi2) .none kV12 dc12 pm12 an12 cd12 ct12),sl12⟩)(c12:PySem.W.codeIn K cd12 "counts_with_column" = true)(k12:PySem.W.keepIn K (.ref f12)=true)
  (a13:PySem.W.nsIn K mainGlobals "product_at" = some (some (.ref f13)))(l13:K.lookup f13=some ⟨oc13,od13,.func (PySem.W.fnOf "product_at" "product_at" (Jp QiY) (Je QiY) (Ql QiY) .none kV13 dc13 pm13 an13 cd13 ct13),sl13⟩)(c13:PySem.W.codeIn K cd13 "product_at" = true)(k13:PySem.W.keepIn K (.ref f13)=true)
  (a14:PySem.W.nsIn K mainGlobals "multiplied" = some (some (.ref f14)))(l14:K.lookup f14=some ⟨oc14,od14,.func (PySem.W.fnOf "multiplied" "multiplied" (Jp Qi0) (Je Qi0) (Ql Qi0) .none kV14 dc14 pm14 an14 cd14 ct14),sl14⟩)(c14:PySem.W.codeIn K cd14 "multiplied" = true)(k14:PySem.W.keepIn K (.ref f14)=true)
  (a15:PySem.W.nsIn K mainGlobals "is_stand" = some (some (.ref f15)))(l15:K.lookup f15=some ⟨oc15,od15,.func (PySem.W.fnOf "is_stand" "is_stand" (Jp Qea) (Je Qea) (Ql Qea) .none kV15 dc15 pm15 an15 cd15 ct15),sl15⟩)(c15:PySem.W.codeIn K cd15 "is_stand" = true)(k15:PySem.W.keepIn K (.ref f15)=true)
  (a16:PySem.W.nsIn K mainGlobals "are_apart" = some (some (.ref f16)))(l16:K.lookup f16=some ⟨oc16,od16,.func (PySem.W.fnOf "are_apart" "are_apart" (Jp Qej) (Je Qej) (Ql Qej) .none kV16 dc16 pm16 an16 cd16 ct16),sl16⟩)(c16:PySem.W.codeIn K cd16 "are_apart" = true)(k16:PySem.W.keepIn K (.ref f16)=true)
  (a17:PySem.W.nsIn K mainGlobals "every_stand" = some (some (.ref f17)))(l17:K.lookup f17=some ⟨oc17,od17,.func (PySem.W.fnOf "every_stand" "every_stand" (Jp Qeg) (Je Qeg) (Ql Qeg) .none kV17 dc17 pm17 an17 cd17 ct17),sl17⟩)(c17:PySem.W.codeIn K cd17 "every_stand" = true)(k17:PySem.W.keepIn K (.ref f17)=true)
  (a18:PySem.W.nsIn K mainGlobals "followers" = some (some (.ref f18)))(l18:K.lookup f18=some ⟨oc18,od18,.func (PySem.W.fnOf "followers" "followers" (Jp sFol) (Je sFol) (Ql sFol) .none kV18 dc18 pm18 an18 cd18 ct18),sl18⟩)(c18:PySem.W.codeIn K cd18 "followers" = true)(k18:PySem.W.keepIn K (.ref f18)=true)
  (a19:PySem.W.nsIn K mainGlobals "row_behind" = some (some (.ref f19)))(l19:K.lookup f19=some ⟨oc19,od19,.func (PySem.W.fnOf "row_behind" "row_behind" (Jp QiU) (Je QiU) (Ql QiU) .none kV19 dc19 pm19 an19 cd19 ct19),sl19⟩)(c19:PySem.W.codeIn K cd19 "row_behind" = true)(k19:PySem.W.keepIn K (.ref f19)=true)
  (a20:PySem.W.nsIn K mainGlobals "left_cells" = some (some (.ref f20)))(l20:K.lookup f20=some ⟨oc20,od20,.func (PySem.W.fnOf "left_cells" "left_cells" (Jp Qee) (Je Qee) (Ql Qee) .none kV20 dc20 pm20 an20 cd20 ct20),sl20⟩)(c20:PySem.W.codeIn K cd20 "left_cells" = true)(k20:PySem.W.keepIn K (.ref f20)=true)
  (a21:PySem.W.nsIn K mainGlobals "cells_left" = some (some (.ref f21)))(l21:K.lookup f21=some ⟨oc21,od21,.func (PySem.W.fnOf "cells_left" "cells_left" (Jp Qei) (Je Qei) (Ql Qei) .none kV21 dc21 pm21 an21 cd21 ct21),sl21⟩)(c21:PySem.W.codeIn K cd21 "cells_left" = true)(k21:PySem.W.keepIn K (.ref f21)=true)
  (a22:PySem.W.nsIn K mainGlobals "is_left" = some (some (.ref f22)))(l22:K.lookup f22=some ⟨oc22,od22,.func (PySem.W.fnOf "is_left" "is_left" (Jp Qcp) (Je Qcp) (Ql Qcp) .none kV22 dc22 pm22 an22 cd22 ct22),sl22⟩)(c22:PySem.W.codeIn K cd22 "is_left" = true)(k22:PySem.W.keepIn K (.ref f22)=true)
  (a23:PySem.W.nsIn K mainGlobals "by_weight" = some (some (.ref f23)))(l23:K.lookup f23=some ⟨oc23,od23,.func (PySem.W.fnOf "by_weight" "by_weight" (Jp sByW) (Je sByW) (Ql sByW) .none kV23 dc23 pm23 an23 cd23 ct23),sl23⟩)(c23:PySem.W.codeIn K cd23 "by_weight" = true)(k23:PySem.W.keepIn K (.ref f23)=true)
  (a24:PySem.W.nsIn K mainGlobals "lightest" = some (some (.ref f24)))(l24:K.lookup f24=some ⟨oc24,od24,.func (PySem.W.fnOf "lightest" "lightest" (Jp Qed) (Je Qed) (Ql Qed) .none kV24 dc24 pm24 an24 cd24 ct24),sl24⟩)(c24:PySem.W.codeIn K cd24 "lightest" = true)(k24:PySem.W.keepIn K (.ref f24)=true)
  (a25:PySem.W.nsIn K mainGlobals "weight" = some (some (.ref f25)))(l25:K.lookup f25=some ⟨oc25,od25,.func (PySem.W.fnOf "weight" "weight" (Jp sWt) (Je sWt) (Ql sWt) .none kV25 dc25 pm25 an25 cd25 ct25),sl25⟩)(c25:PySem.W.codeIn K cd25 "weight" = true)(k25:PySem.W.keepIn K (.ref f25)=true)
  (a26:PySem.W.nsIn K mainGlobals "ones_product" = some (some (.ref f26)))(l26:K.lookup f26=some ⟨oc26,od26,.func (PySem.W.fnOf "ones_product" "ones_product" (Jp QiZ) (Je QiZ) (Ql QiZ) .none kV26 dc26 pm26 an26 cd26 ct26),sl26⟩)(c26:PySem.W.codeIn K cd26 "ones_product" = true)(k26:PySem.W.keepIn K (.ref f26)=true)
  (a27:PySem.W.nsIn K mainGlobals "refuse_too_many" = some (some (.ref f27)))(l27:K.lookup f27=some ⟨oc27,od27,.func (PySem.W.fnOf "refuse_too_many" "refuse_too_many" (Jp QiX) (Je QiX) (Ql QiX) .none kV27 dc27 pm27 an27 cd27 ct27),sl27⟩)(c27:PySem.W.codeIn K cd27 "refuse_too_many" = true)(k27:PySem.W.keepIn K (.ref f27)=true)
  (a28:PySem.W.nsIn K mainGlobals "refuse_no_size" = some (some (.ref f28)))(l28:K.lookup f28=some ⟨oc28,od28,.func (PySem.W.fnOf "refuse_no_size" "refuse_no_size" (Jp QiV) (Je QiV) (Ql QiV) .none kV28 dc28 pm28 an28 cd28 ct28),sl28⟩)(c28:PySem.W.codeIn K cd28 "refuse_no_size" = true)(k28:PySem.W.keepIn K (.ref f28)=true)
  (a29:PySem.W.nsIn K mainGlobals "_law_cell_at" = some (some (.ref f29)))(l29:K.lookup f29=some ⟨oc29,od29,.func (PySem.W.fnOf "_law_cell_at" "_law_cell_at" (Jp Qcx) (Je Qcx) (Ql Qcx) .none kV29 dc29 pm29 an29 cd29 ct29),sl29⟩)(c29:PySem.W.codeIn K cd29 "_law_cell_at" = true)(k29:PySem.W.keepIn K (.ref f29)=true)
  (a30:PySem.W.nsIn K mainGlobals "_law_pot" = some (some (.ref f30)))(l30:K.lookup f30=some ⟨oc30,od30,.func (PySem.W.fnOf "_law_pot" "_law_pot" (Jp lPot) (Je lPot) (Ql lPot) .none kV30 dc30 pm30 an30 cd30 ct30),sl30⟩)(c30:PySem.W.codeIn K cd30 "_law_pot" = true)(k30:PySem.W.keepIn K (.ref f30)=true)
  (a31:PySem.W.nsIn K mainGlobals "_law_take" = some (some (.ref f31)))(l31:K.lookup f31=some ⟨oc31,od31,.func (PySem.W.fnOf "_law_take" "_law_take" (Jp Qjd) (Je Qjd) (Ql Qjd) .none kV31 dc31 pm31 an31 cd31 ct31),sl31⟩)(c31:PySem.W.codeIn K cd31 "_law_take" = true)(k31:PySem.W.keepIn K (.ref f31)=true)
  (a32:PySem.W.nsIn K mainGlobals "_law_stairs" = some (some (.ref f32)))(l32:K.lookup f32=some ⟨oc32,od32,.func (PySem.W.fnOf "_law_stairs" "_law_stairs" (Jp Qcw) (Je Qcw) (Ql Qcw) .none kV32 dc32 pm32 an32 cd32 ct32),sl32⟩)(c32:PySem.W.codeIn K cd32 "_law_stairs" = true)(k32:PySem.W.keepIn K (.ref f32)=true)
  (a33:PySem.W.nsIn K mainGlobals "_law_times" = some (some (.ref f33)))(l33:K.lookup f33=some ⟨oc33,od33,.func (PySem.W.fnOf "_law_times" "_law_times" (Jp Qes) (Je Qes) (Ql Qes) .none kV33 dc33 pm33 an33 cd33 ct33),sl33⟩)(c33:PySem.W.codeIn K cd33 "_law_times" = true)(k33:PySem.W.keepIn K (.ref f33)=true)
  (a34:PySem.W.nsIn K mainGlobals "_law_together" = some (some (.ref f34)))(l34:K.lookup f34=some ⟨oc34,od34,.func (PySem.W.fnOf "_law_together" "_law_together" (Jp lTog) (Je lTog) (Ql lTog) .none kV34 dc34 pm34 an34 cd34 ct34),sl34⟩)(c34:PySem.W.codeIn K cd34 "_law_together" = true)(k34:PySem.W.keepIn K (.ref f34)=true)
  (a35:PySem.W.nsIn K mainGlobals "_law_sum" = some (some (.ref f35)))(l35:K.lookup f35=some ⟨oc35,od35,.func (PySem.W.fnOf "_law_sum" "_law_sum" (Jp lSum) (Je lSum) (Ql lSum) .none kV35 dc35 pm35 an35 cd35 ct35),sl35⟩)(c35:PySem.W.codeIn K cd35 "_law_sum" = true)(k35:PySem.W.keepIn K (.ref f35)=true)
  (a36:PySem.W.nsIn K mainGlobals "_law_sizes_right" = some (some (.ref f36)))(l36:K.lookup f36=some ⟨oc36,od36,.func (PySem.W.fnOf "_law_sizes_right" "_law_sizes_right" (Jp Qet) (Je Qet) (Ql Qet) .none kV36 dc36 pm36 an36 cd36 ct36),sl36⟩)(c36:PySem.W.codeIn K cd36 "_law_sizes_right" = true)(k36:PySem.W.keepIn K (.ref f36)=true)
  (a37:PySem.W.nsIn K mainGlobals "law" = some (some (.ref f37)))(l37:K.lookup f37=some ⟨oc37,od37,.func (PySem.W.fnOf "law" "law" (Jp sLaw) (Je sLaw) (Ql sLaw) .none kV37 dc37 pm37 an37 cd37 ct37),sl37⟩)(c37:PySem.W.codeIn K cd37 "law" = true)(k37:PySem.W.keepIn K (.ref f37)=true)
  (z1:PySem.W.nsIn K mainGlobals "isinstance" = some none)
  (z2:PySem.W.nsIn K mainGlobals "int" = some none)
  (z3:PySem.W.nsIn K mainGlobals "bool" = some none)
  (z4:PySem.W.nsIn K mainGlobals "str" = some none)
  (z5:PySem.W.nsIn K mainGlobals "tuple" = some none)
  (z6:PySem.W.nsIn K mainGlobals "list" = some none)
  (z7:PySem.W.nsIn K mainGlobals "all" = some none)
  (z8:PySem.W.nsIn K mainGlobals "len" = some none)
  (z9:PySem.W.nsIn K mainGlobals "zip" = some none)
  (z10:PySem.W.nsIn K mainGlobals "enumerate" = some none)
  (z11:PySem.W.nsIn K mainGlobals "range" = some none)
  (z12:PySem.W.nsIn K mainGlobals "max" = some none)
  (z13:PySem.W.nsIn K mainGlobals "min" = some none)
  (z14:PySem.W.nsIn K mainGlobals "sorted" = some none)
  (z15:PySem.W.nsIn K mainGlobals "sum" = some none)
  (z16:PySem.W.nsIn K mainGlobals "set" = some none)
  (z17:PySem.W.nsIn K mainGlobals "any" = some none)
  (z18:PySem.W.nsIn K mainGlobals "reversed" = some none)
  (z19:PySem.W.nsIn K mainGlobals "divmod" = some none)
  {tA:_} (aA:PySem.W.nsIn K mainGlobals "MOST_LINES" = some (some (.int 6 tA)))
  {tB:_} (aB:PySem.W.nsIn K mainGlobals "MOST_CELLS" = some (some (.int 20 tB)))
  {tC:_} (aC:PySem.W.nsIn K mainGlobals "MOST_ADDED" = some (some (.int 8 tC)))
  {tD:_} (aD:PySem.W.nsIn K mainGlobals "MOST_TAKEN" = some (some (.int 1000000000 tD)))
  {tc tP:Addr} (tT:PySem.W.tabIn K "lightest" = some (tc,tP))
  :
  ∃fd:QK,(∀(s:Shared)(v:Value),QmU s fd ⟨[v],[]⟩ [("_law_script",v)])/\∀base:J8,K.In base->base.Ns mainGlobals mg->PySem.W.CodeHd base tc tP->Qbz base mg->FnOk l.prog w K mg base CX0 9 fa fd ["_law_script"] (spT tP Qox (Dl.Qd7 K)):=by
 have e:=hfa.symm.trans (PySem.W.mg_of X G a37);cases e;have T:=(⟨(PySem.W.mg_none_of X G z1),(PySem.W.mg_none_of X G z2),(PySem.W.mg_none_of X G z3),(PySem.W.mg_none_of X G z4),(PySem.W.mg_none_of X G z5),(PySem.W.mg_none_of X G z6),(PySem.W.mg_none_of X G z7),(PySem.W.mg_none_of X G z8),(PySem.W.mg_none_of X G z9),(PySem.W.mg_none_of X G z10),(PySem.W.mg_none_of X G z11),(PySem.W.mg_none_of X G z12),(PySem.W.mg_none_of X G z13),(PySem.W.mg_none_of X G z14),(PySem.W.mg_none_of X G z15),(PySem.W.mg_none_of X G z16),(PySem.W.mg_none_of X G z17),(PySem.W.mg_none_of X G z18),(PySem.W.mg_none_of X G z19)⟩:GlbA mg);have F1:=JZ (st:=Qd9) l1 c1 k1;have b1:=F1.binds (ps:=["thing"]) λ_ _ _ _ _ _ us hl=>match us,hl with | [_],_=>rfl
 have m1:=PySem.W.mg_of X G a1;have F2:=JZ (st:=Qcl) l2 c2 k2;have b2:=F2.binds (ps:=["thing", "least", "most"]) λ_ _ _ _ _ _ us hl=>match us,hl with | [_,_,_],_=>rfl
 have m2:=PySem.W.mg_of X G a2;have F3:=JZ (st:=Qco) l3 c3 k3;have b3:=F3.binds (ps:=["things"]) λ_ _ _ _ _ _ us hl=>match us,hl with | [_],_=>rfl
 have m3:=PySem.W.mg_of X G a3;have F4:=JZ (st:=Qec) l4 c4 k4;have b4:=F4.binds (ps:=["things"]) λ_ _ _ _ _ _ us hl=>match us,hl with | [_],_=>rfl
 have m4:=PySem.W.mg_of X G a4;have F5:=JZ (st:=Qeh) l5 c5 k5;have b5:=F5.binds (ps:=["high", "wide", "thing"]) λ_ _ _ _ _ _ us hl=>match us,hl with | [_,_,_],_=>rfl
 have m5:=PySem.W.mg_of X G a5;have F6:=JZ (st:=Qeb) l6 c6 k6;have b6:=F6.binds (ps:=["high", "wide", "thing"]) λ_ _ _ _ _ _ us hl=>match us,hl with | [_,_,_],_=>rfl
 have m6:=PySem.W.mg_of X G a6;have F7:=JZ (st:=Qcm) l7 c7 k7;have b7:=F7.binds (ps:=["thing"]) λ_ _ _ _ _ _ us hl=>match us,hl with | [_],_=>rfl
 have m7:=PySem.W.mg_of X G a7;have F8:=JZ (st:=QiW) l8 c8 k8;have b8:=F8.binds (ps:=["stairs"]) λ_ _ _ _ _ _ us hl=>match us,hl with | [_],_=>rfl
 have m8:=PySem.W.mg_of X G a8;have F9:=JZ (st:=Qcn) l9 c9 k9;have b9:=F9.binds (ps:=["stairs"]) λ_ _ _ _ _ _ us hl=>match us,hl with | [_],_=>rfl
 have m9:=PySem.W.mg_of X G a9;have F10:=JZ (st:=Qef) l10 c10 k10;have b10:=F10.binds (ps:=["stairs"]) λ_ _ _ _ _ _ us hl=>match us,hl with | [_],_=>rfl
 have m10:=PySem.W.mg_of X G a10;have F11:=JZ (st:=Qi1) l11 c11 k11;have b11:=F11.binds (ps:=["stairs"]) λ_ _ _ _ _ _ us hl=>match us,hl with | [_],_=>rfl
 have m11:=PySem.W.mg_of X G a11;have F12:=JZ (st:=Qi2) l12 c12 k12;have b12:=F12.binds (ps:=["told", "number"]) λ_ _ _ _ _ _ us hl=>match us,hl with | [_,_],_=>rfl
 have m12:=PySem.W.mg_of X G a12;have F13:=JZ (st:=QiY) l13 c13 k13;have b13:=F13.binds (ps:=["stairs", "number"]) λ_ _ _ _ _ _ us hl=>match us,hl with | [_,_],_=>rfl
 have m13:=PySem.W.mg_of X G a13;have F14:=JZ (st:=Qi0) l14 c14 k14;have b14:=F14.binds (ps:=["one", "other"]) λ_ _ _ _ _ _ us hl=>match us,hl with | [_,_],_=>rfl
 have m14:=PySem.W.mg_of X G a14;have F15:=JZ (st:=Qea) l15 c15 k15;have b15:=F15.binds (ps:=["board", "thing"]) λ_ _ _ _ _ _ us hl=>match us,hl with | [_,_],_=>rfl
 have m15:=PySem.W.mg_of X G a15;have F16:=JZ (st:=Qej) l16 c16 k16;have b16:=F16.binds (ps:=["cells"]) λ_ _ _ _ _ _ us hl=>match us,hl with | [_],_=>rfl
 have m16:=PySem.W.mg_of X G a16;have F17:=JZ (st:=Qeg) l17 c17 k17;have b17:=F17.binds (ps:=["board", "size"]) λ_ _ _ _ _ _ us hl=>match us,hl with | [_,_],_=>rfl
 have m17:=PySem.W.mg_of X G a17;have F18:=JZ (st:=sFol) l18 c18 k18;have b18:=F18.binds (ps:=["board", "start"]) λ_ _ _ _ _ _ us hl=>match us,hl with | [_,_],_=>rfl
 have m18:=PySem.W.mg_of X G a18;have F19:=JZ (st:=QiU) l19 c19 k19;have b19:=F19.binds (ps:=["start"]) λ_ _ _ _ _ _ us hl=>match us,hl with | [_],_=>rfl
 have m19:=PySem.W.mg_of X G a19;have F20:=JZ (st:=Qee) l20 c20 k20;have b20:=F20.binds (ps:=["stairs", "stand"]) λ_ _ _ _ _ _ us hl=>match us,hl with | [_,_],_=>rfl
 have m20:=PySem.W.mg_of X G a20;have F21:=JZ (st:=Qei) l21 c21 k21;have b21:=F21.binds (ps:=["board", "stand"]) λ_ _ _ _ _ _ us hl=>match us,hl with | [_,_],_=>rfl
 have m21:=PySem.W.mg_of X G a21;have F22:=JZ (st:=Qcp) l22 c22 k22;have b22:=F22.binds (ps:=["stand", "cell"]) λ_ _ _ _ _ _ us hl=>match us,hl with | [_,_],_=>rfl
 have m22:=PySem.W.mg_of X G a22;have F23:=JZ (st:=sByW) l23 c23 k23;have b23:=F23.binds (ps:=["stairs", "size"]) λ_ _ _ _ _ _ us hl=>match us,hl with | [_,_],_=>rfl
 have m23:=PySem.W.mg_of X G a23;have F24:=JZ (st:=Qed) l24 c24 k24;have b24:=F24.binds (ps:=["stairs", "size"]) λ_ _ _ _ _ _ us hl=>match us,hl with | [_,_],_=>rfl
 have m24:=PySem.W.mg_of X G a24;have F25:=JZ (st:=sWt) l25 c25 k25;have b25:=F25.binds (ps:=["board", "stand"]) λ_ _ _ _ _ _ us hl=>match us,hl with | [_,_],_=>rfl
 have m25:=PySem.W.mg_of X G a25;have F26:=JZ (st:=QiZ) l26 c26 k26;have b26:=F26.binds (ps:=["stairs", "number"]) λ_ _ _ _ _ _ us hl=>match us,hl with | [_,_],_=>rfl
 have m26:=PySem.W.mg_of X G a26;have F27:=JZ (st:=QiX) l27 c27 k27;have b27:=F27.binds (ps:=["stairs"]) λ_ _ _ _ _ _ us hl=>match us,hl with | [_],_=>rfl
 have m27:=PySem.W.mg_of X G a27;have F28:=JZ (st:=QiV) l28 c28 k28;have b28:=F28.binds (ps:=["stairs", "size"]) λ_ _ _ _ _ _ us hl=>match us,hl with | [_,_],_=>rfl
 have m28:=PySem.W.mg_of X G a28;have F29:=JZ (st:=Qcx) l29 c29 k29;have b29:=F29.binds (ps:=["_law_script", "_law_k"]) λ_ _ _ _ _ _ us hl=>match us,hl with | [_,_],_=>rfl
 have m29:=PySem.W.mg_of X G a29;have F30:=JZ (st:=lPot) l30 c30 k30;have b30:=F30.binds (ps:=["_law_cell"]) λ_ _ _ _ _ _ us hl=>match us,hl with | [_],_=>rfl
 have m30:=PySem.W.mg_of X G a30;have F31:=JZ (st:=Qjd) l31 c31 k31;have b31:=F31.binds (ps:=["_law_pot_here", "_law_far"]) λ_ _ _ _ _ _ us hl=>match us,hl with | [_,_],_=>rfl
 have m31:=PySem.W.mg_of X G a31;have F32:=JZ (st:=Qcw) l32 c32 k32;have b32:=F32.binds (ps:=["_law_pot_here", "_law_columns", "_law_most"]) λ_ _ _ _ _ _ us hl=>match us,hl with | [_,_,_],_=>rfl
 have m32:=PySem.W.mg_of X G a32;have F33:=JZ (st:=Qes) l33 c33 k33;have b33:=F33.binds (ps:=["_law_one", "_law_other"]) λ_ _ _ _ _ _ us hl=>match us,hl with | [_,_],_=>rfl
 have m33:=PySem.W.mg_of X G a33;have F34:=JZ (st:=lTog) l34 c34 k34;have b34:=F34.binds (ps:=["_law_one", "_law_other"]) λ_ _ _ _ _ _ us hl=>match us,hl with | [_,_],_=>rfl
 have m34:=PySem.W.mg_of X G a34;have F35:=JZ (st:=lSum) l35 c35 k35;have b35:=F35.binds (ps:=["_law_stairs_here", "_law_number"]) λ_ _ _ _ _ _ us hl=>match us,hl with | [_,_],_=>rfl
 have m35:=PySem.W.mg_of X G a35;have F36:=JZ (st:=Qet) l36 c36 k36;have b36:=F36.binds (ps:=["_law_stairs_here"]) λ_ _ _ _ _ _ us hl=>match us,hl with | [_],_=>rfl
 have m36:=PySem.W.mg_of X G a36;have F37:=JZ (st:=sLaw) l37 c37 k37;refine⟨PySem.W.fnOf "law" "law" (Jp sLaw) (Je sLaw) (Ql sLaw) .none kV37 dc37 pm37 an37 cd37 ct37,λs v=>.of_eq rfl,λbase _ _ hC hB=>?_⟩;have G1:FnOk l.prog w K mg base CX0 1 f1 _ ["thing"] (Dl.JE false Dl.QjZ):=Qn6 F1 T ;have G2:FnOk l.prog w K mg base CX0 2 f2 _ ["thing", "least", "most"] (Dl.JE false QbE):=Qk4 F2 T m1 G1 b1 k1;have G3:FnOk l.prog w K mg base CX0 1 f3 _ ["things"] (Dl.JE false QgZ):=Qk8 F3 T ;have G4:FnOk l.prog w K mg base CX0 1 f4 _ ["things"] (Dl.JE false Qli):=Qob F4 T ;have G6:FnOk l.prog w K mg base CX0 3 f6 _ ["high", "wide", "thing"] (Dl.JE false QkO):=Qoa F6 T m2 G2 b2 k2;have G5:FnOk l.prog w K mg base CX0 4 f5 _ ["high", "wide", "thing"] (Dl.JE false Qmd):=Qog F5 T m6 G6 b6 k6 m3 G3 b3 k3;have G16:FnOk l.prog w K mg base CX0 1 f16 _ ["cells"] (Dl.JE false Qms):=Qoh F16 T ;have G15:FnOk l.prog w K mg base CX0 5 f15 _ ["board", "thing"] (Dl.JE false Qkh):=Qn8 F15 T m5 G5 b5 k5 m16 G16 b16 k16;have G7:FnOk l.prog w K mg base CX0 3 f7 _ ["thing"] (Dl.JE false QgT):=Qk6 ⟨_,PySem.W.mg_of X G aA⟩ F7 T m2 G2 b2 k2 m4 G4 b4 k4;have G8:FnOk l.prog w K mg base CX0 4 f8 _ ["stairs"] (Dl.JE false Qg0):=Qn9 F8 T m7 G7 b7 k7;have G9:FnOk l.prog w K mg base CX0 5 f9 _ ["stairs"] (Dl.JE false Quj):=Qk7 F9 T m8 G8 b8 k8;have G22:FnOk l.prog w K mg base CX0 1 f22 _ ["stand", "cell"] (Dl.JE false Qhj):=Qk9 F22 T ;have G21:FnOk l.prog w K mg base CX0 2 f21 _ ["board", "stand"] (Dl.JE false Qiw):=Qof F21 T m22 G22 b22 k22;have G20:FnOk l.prog w K mg base CX0 7 f20 _ ["stairs", "stand"] (Dl.JE false Qhh):=Qod F20 T m9 G9 b9 k9 m15 G15 b15 k15 m21 G21 b21 k21;have G19:FnOk l.prog w K mg base CX0 1 f19 _ ["start"] (Dl.JE false Qrx):=Qsu F19 T ;have G18:FnOk l.prog w K mg base CX0 2 f18 _ ["board", "start"] (Dl.JE false Qyc):=Qvn F18 T m19 G19 b19 k19;have G17:FnOk l.prog w K mg base CX0 3 f17 _ ["board", "size"] (Dl.JE true evD):=QxV F17 T m18 G18 b18 k18;have G25:FnOk l.prog w K mg base CX0 3 f25 _ ["board", "stand"] (Dl.JE false wtD):=Qk5 F25 T m21 G21 b21 k21;have G27:FnOk l.prog w K mg base CX0 5 f27 _ ["stairs"] (Dl.JE false Qky):=Qsw ⟨_,PySem.W.mg_of X G aB⟩ F27 T m8 G8 b8 k8;have G28:FnOk l.prog w K mg base CX0 3 f28 _ ["stairs", "size"] (Dl.JE false Qnm):=Qsv F28 T m2 G2 b2 k2;have G23:FnOk l.prog w K mg base CX0 6 f23 _ ["stairs", "size"] (Dl.JE true QwN):=Qvo F23 T m27 G27 b27 k27 m28 G28 b28 k28 m9 G9 b9 k9 m17 G17 b17 k17 m25 G25 b25 k25;have G24:FnOk l.prog w K mg base CX0 6 f24 _ ["stairs", "size"] (spT tP Qox (Dl.JE false Qlw)):=Qoc (PySem.W.law_code X G tT (PySem.W.mg_of X G a24) (X _ _ l24) rfl) hC hB F24 T m27 G27 b27 k27 m28 G28 b28 k28 m9 G9 b9 k9 m17 G17 b17 k17 m25 G25 b25 k25;have G10:FnOk l.prog w K mg base CX0 5 f10 _ ["stairs"] (Dl.JE true Qik):=Qoe F10 T m8 G8 b8 k8;have G12:FnOk l.prog w K mg base CX0 1 f12 _ ["told", "number"] (Dl.JE true Qtp):=QsC F12 T ;have G11:FnOk l.prog w K mg base CX0 5 f11 _ ["stairs"] (Dl.JE true Qs0):=QsB F11 T m8 G8 b8 k8 m12 G12 b12 k12;have G13:FnOk l.prog w K mg base CX0 6 f13 _ ["stairs", "number"] (Dl.JE false QrO):=Qsx ⟨_,PySem.W.mg_of X G aD⟩ F13 T m8 G8 b8 k8 m2 G2 b2 k2 m10 (G10.imp λ_ _ _ _ h=>QoB h) b10 k10;have G14:FnOk l.prog w K mg base CX0 1 f14 _ ["one", "other"] (Dl.JE true QsI):=Qsz F14 T ;have G26:FnOk l.prog w K mg base CX0 6 f26 _ ["stairs", "number"] (Dl.JE true Qss):=Qsy ⟨_,PySem.W.mg_of X G aC⟩ F26 T m27 G27 b27 k27 m2 G2 b2 k2 m10 G10 b10 k10 m14 G14 b14 k14;have G29:FnOk l.prog w K mg base CX0 1 f29 _ ["_law_script", "_law_k"] (QbX K):=Qla F29 T ;have G30:FnOk l.prog w K mg base CX0 1 f30 _ ["_law_cell"] (Dl.JE true Dl.QxI):=(Qvk F30 T).imp λ_ _ _ _ h=>Dl.QxH h
 have G31:FnOk l.prog w K mg base CX0 1 f31 _ ["_law_pot_here", "_law_far"] (Dl.JE true Dl.Qm4):=(Qst F31 T).imp λ_ _ _ _ h=>Dl.Qua h
 have G32:FnOk l.prog w K mg base CX0 2 f32 _ ["_law_pot_here", "_law_columns", "_law_most"] (Dl.JE false Qfh):=Qi9 F32 T m31 G31 b31 k31;have G33:FnOk l.prog w K mg base CX0 1 f33 _ ["_law_one", "_law_other"] (Dl.JE true Qj5):=Qn7 F33 T ;have G34:FnOk l.prog w K mg base CX0 1 f34 _ ["_law_one", "_law_other"] (Dl.JE true Qxk):=Qvj F34 T ;have G35:FnOk l.prog w K mg base CX0 7 f35 _ ["_law_stairs_here", "_law_number"] (Dl.JE true QsN):=QsA F35 T m23 G23 b23 k23 m33 G33 b33 k33 m34 G34 b34 k34;have G36:FnOk l.prog w K mg base CX0 8 f36 _ ["_law_stairs_here"] (spT tP Qox (Dl.JE false QxZ)):=Qvl F36 T m11 G11 b11 k11 m23 G23 b23 k23 m24 G24 b24 k24 m20 G20 b20 k20;exact Qvm F37 T m29 G29 b29 k29 m30 G30 b30 k30 m31 G31 b31 k31 m32 G32 b32 k32 m36 G36 b36 k36 m26 G26 b26 k26 m35 G35 b35 k35 m13 G13 b13 k13
theorem Qzi{tc tP:Addr}{l:PySem.W.OpenLaw}{q:QN}{loose:List Str}{XP:(Str->Option Value)->J8->Prop}{YP:Jj->J8->Prop}{d:DefRec}{K:Params->PySem.W.Frag}(hn:l.most=some 63)(hdf:d.params.defaults=[])
  (hY:∀(w:Jj)(h:J8),YP w h->(K w.params).In h)(hTb:∀(w:Jj)(h:J8),YP w h->h.get? tP=some (PySem.W.tabObj #[]))
  (hno:∀w:Jj,PySem.W.noTabs (K w.params)=true)(hCd:∀w:Jj,PySem.W.codeHdIn (K w.params) tc tP=true)
  (F:∀(w:Jj)(mg:Str->Option Value)(fa:Addr)(h:J8),(K w.params).In h->h.Ns mainGlobals mg->mg d.name=some (.ref fa) ->
   ∃fd:QK,(∀(s:Shared)(u:Value),QmU s fd ⟨[u],[]⟩ [("_law_script",u)])/\∀base:J8,(K w.params).In base->base.Ns mainGlobals mg->PySem.W.CodeHd base tc tP->Qbz base mg->FnOk l.prog w (K w.params) mg base CX0 9 fa fd ["_law_script"] (spT tP Qox (Dl.Qd7 (K w.params)))) :
  PySem.W.WalkO q loose XP YP l.row.toRowW d [] (λf vs=>PySem.call f vs):=
 L2.QmX (n:=63) (k:=9) (x := "_law_script") (CX:=λ_=>CX0) (sp:=λw=>(Dl.Qd7 (K w.params))) hn (by decide) hdf ⟨rfl,by decide,by decide⟩ hY F hno hTb hCd (λ_ _ a ns hl hS=>⟨a,ns,rfl,hS,hl,λ_=>rfl⟩) λ_ _ _ _ _ z=>z
end Rk
open PySem.W
set_option maxRecDepth 100000 in
set_option maxHeartbeats 0 in
theorem PySem.Challenge.cw_rooklands_k75_whole_weights_holds : PySem.Challenge.rw_rooklands_k75_whole_weights.Holds := by
 w_on;o_law;k_head;(case hw=>w_witness2)
 k_fill
 refine Rk.Qzi (l:=PySem.Challenge.rw_rooklands_k75_whole_weights) (tc:=228) (tP:=224) rfl rfl (λw h Y=>PySem.W.km_in_of Y) (λw h Y=>PySem.W.km_tabs_of Y _ (List.Mem.head _)) ?hNoT ?hCdT ?F
 case hNoT=>intro w;kernel_rfl
 case hCdT=>intro w;kernel_rfl
 case F=>
  intro w mg fa h KX G hmg;refine' Rk.Qwh KX G hmg ?a1 ?l1 ?c1 ?k1 ?a2 ?l2 ?c2 ?k2 ?a3 ?l3 ?c3 ?k3 ?a4 ?l4 ?c4 ?k4 ?a5 ?l5 ?c5 ?k5 ?a6 ?l6 ?c6 ?k6 ?a7 ?l7 ?c7 ?k7 ?a8 ?l8 ?c8 ?k8 ?a9 ?l9 ?c9 ?k9 ?a10 ?l10 ?c10 ?k10 ?a11 ?l11 ?c11 ?k11 ?a12 ?l12 ?c12 ?k12 ?a13 ?l13 ?c13 ?k13 ?a14 ?l14 ?c14 ?k14 ?a15 ?l15 ?c15 ?k15 ?a16 ?l16 ?c16 ?k16 ?a17 ?l17 ?c17 ?k17 ?a18 ?l18 ?c18 ?k18 ?a19 ?l19 ?c19 ?k19 ?a20 ?l20 ?c20 ?k20 ?a21 ?l21 ?c21 ?k21 ?a22 ?l22 ?c22 ?k22 ?a23 ?l23 ?c23 ?k23 ?a24 ?l24 ?c24 ?k24 ?a25 ?l25 ?c25 ?k25 ?a26 ?l26 ?c26 ?k26 ?a27 ?l27 ?c27 ?k27 ?a28 ?l28 ?c28 ?k28 ?a29 ?l29 ?c29 ?k29 ?a30 ?l30 ?c30 ?k30 ?a31 ?l31 ?c31 ?k31 ?a32 ?l32 ?c32 ?k32 ?a33 ?l33 ?c33 ?k33 ?a34 ?l34 ?c34 ?k34 ?a35 ?l35 ?c35 ?k35 ?a36 ?l36 ?c36 ?k36 ?a37 ?l37 ?c37 ?k37 ?z1 ?z2 ?z3 ?z4 ?z5 ?z6 ?z7 ?z8 ?z9 ?z10 ?z11 ?z12 ?z13 ?z14 ?z15 ?z16 ?z17 ?z18 ?z19 ?aA ?aB ?aC ?aD ?tT
  (case a1=>k_is)
  (case l1=>k_is)
  (case c1=>k_is)
  (case k1=>k_is)
  (case a2=>k_is)
  (case l2=>k_is)
  (case c2=>k_is)
  (case k2=>k_is)
  (case a3=>k_is)
  (case l3=>k_is)
  (case c3=>k_is)
  (case k3=>k_is)
  (case a4=>k_is)
  (case l4=>k_is)
  (case c4=>k_is)
  (case k4=>k_is)
  (case a5=>k_is)
  (case l5=>k_is)
  (case c5=>k_is)
  (case k5=>k_is)
  (case a6=>k_is)
  (case l6=>k_is)
  (case c6=>k_is)
  (case k6=>k_is)
  (case a7=>k_is)
  (case l7=>k_is)
  (case c7=>k_is)
  (case k7=>k_is)
  (case a8=>k_is)
  (case l8=>k_is)
  (case c8=>k_is)
  (case k8=>k_is)
  (case a9=>k_is)
  (case l9=>k_is)
  (case c9=>k_is)
  (case k9=>k_is)
  (case a10=>k_is)
  (case l10=>k_is)
  (case c10=>k_is)
  (case k10=>k_is)
  (case a11=>k_is)
  (case l11=>k_is)
  (case c11=>k_is)
  (case k11=>k_is)
  (case a12=>k_is)
  (case l12=>k_is)
  (case c12=>k_is)
  (case k12=>k_is)
  (case a13=>k_is)
  (case l13=>k_is)
  (case c13=>k_is)
  (case k13=>k_is)
  (case a14=>k_is)
  (case l14=>k_is)
  (case c14=>k_is)
  (case k14=>k_is)
  (case a15=>k_is)
  (case l15=>k_is)
  (case c15=>k_is)
  (case k15=>k_is)
  (case a16=>k_is)
  (case l16=>k_is)
  (case c16=>k_is)
  (case k16=>k_is)
  (case a17=>k_is)
  (case l17=>k_is)
  (case c17=>k_is)
  (case k17=>k_is)
  (case a18=>k_is)
  (case l18=>k_is)
  (case c18=>k_is)
  (case k18=>k_is)
  (case a19=>k_is)
  (case l19=>k_is)
  (case c19=>k_is)
  (case k19=>k_is)
  (case a20=>k_is)
  (case l20=>k_is)
  (case c20=>k_is)
  (case k20=>k_is)
  (case a21=>k_is)
  (case l21=>k_is)
  (case c21=>k_is)
  (case k21=>k_is)
  (case a22=>k_is)
  (case l22=>k_is)
  (case c22=>k_is)
  (case k22=>k_is)
  (case a23=>k_is)
  (case l23=>k_is)
  (case c23=>k_is)
  (case k23=>k_is)
  (case a24=>k_is)
  (case l24=>k_is)
  (case c24=>k_is)
  (case k24=>k_is)
  (case a25=>k_is)
  (case l25=>k_is)
  (case c25=>k_is)
  (case k25=>k_is)
  (case a26=>k_is)
  (case l26=>k_is)
  (case c26=>k_is)
  (case k26=>k_is)
  (case a27=>k_is)
  (case l27=>k_is)
  (case c27=>k_is)
  (case k27=>k_is)
  (case a28=>k_is)
  (case l28=>k_is)
  (case c28=>k_is)
  (case k28=>k_is)
  (case a29=>k_is)
  (case l29=>k_is)
  (case c29=>k_is)
  (case k29=>k_is)
  (case a30=>k_is)
  (case l30=>k_is)
  (case c30=>k_is)
  (case k30=>k_is)
  (case a31=>k_is)
  (case l31=>k_is)
  (case c31=>k_is)
  (case k31=>k_is)
  (case a32=>k_is)
  (case l32=>k_is)
  (case c32=>k_is)
  (case k32=>k_is)
  (case a33=>k_is)
  (case l33=>k_is)
  (case c33=>k_is)
  (case k33=>k_is)
  (case a34=>k_is)
  (case l34=>k_is)
  (case c34=>k_is)
  (case k34=>k_is)
  (case a35=>k_is)
  (case l35=>k_is)
  (case c35=>k_is)
  (case k35=>k_is)
  (case a36=>k_is)
  (case l36=>k_is)
  (case c36=>k_is)
  (case k36=>k_is)
  (case a37=>k_is)
  (case l37=>k_is)
  (case c37=>k_is)
  (case k37=>k_is)
  (case z1=>k_is)
  (case z2=>k_is)
  (case z3=>k_is)
  (case z4=>k_is)
  (case z5=>k_is)
  (case z6=>k_is)
  (case z7=>k_is)
  (case z8=>k_is)
  (case z9=>k_is)
  (case z10=>k_is)
  (case z11=>k_is)
  (case z12=>k_is)
  (case z13=>k_is)
  (case z14=>k_is)
  (case z15=>k_is)
  (case z16=>k_is)
  (case z17=>k_is)
  (case z18=>k_is)
  (case z19=>k_is)
  (case aA=>k_is)
  (case aB=>k_is)
  (case aC=>k_is)
  (case aD=>k_is)
  (case tT=>kernel_rfl)
