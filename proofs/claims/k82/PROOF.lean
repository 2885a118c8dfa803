import PyProof.Rows.All
import Wide.All
import OpenK.AllK
import Wide.FinOn
import Lean
import PyProof.EqAt
import PyProof.EqKinds
import PyProof.TupleCall
import PyProof.Rows.SortRuns
import PyProof.Rows.SortShellK
import PyProof.P3Eq
import PyProof.Draws
import PyProof.EnumMake
import PyProof.NeData
import KE.LcSums
import PyProof.WalkInts
import PyProof.SeqI3
import KE.KSortTup
import KE.KRevIter
import PyProof.FactsAll.range_2
import PyProof.DictCompW
import PyProof.SetRoads
import PyProof.FactsAll.set_1
import PyProof.Rows.SetFrom
import PyProof.CollectWalk
import PyProof.Walks
import PyProof.TupleIter
import PyProof.TupleKey
import PySem.Challenge.RW_rooklands_k82_steps_and_partings
local macro_rules | `(tactic| omega) => `(tactic| first | lia | omega +splitDisjunctions)
open PySem renaming PyData->Qa,wpAny_pure->Qg,Program->QB,FuncData->QQ,Expr->Q2,Around->Q9,World->Jl,wpAny_newObj_type->JC,wpAny_holding->J7,Heap->Za,wpAny_field->Zd,wpAny_callSpecial?_slot->Zr,wpAny_call_entry->ZO,Stmt->Z4,wpAny_truthy_bool->Yn,wpAny_comprehension_free->Yo,Scope->Yp,Paired->YK,wpAny_seqItems->YL,wpAny_setField_rec->YR,wpAny_Call_Name_kw->YS,ReadsAll->YT,mem_of_lookup->Y8,wpAny_newFunctionEnv->Qae,wpAny_execs_nil->QaA,codeAny_compStart_list->QaX,SetTable->Qa5,NameKind->Qa6,codeAny_mono->Qbe,Fin->Qbf,wpAny_execs_cons->Qbr,Reads->Qbs,call_meets->QbO,wpAny_passesOwn->QbT,wpAny_attempt->QcM,Comprehension->QcP,Builtin->QcQ,wpAny_pyIter_zip->Qc9,wpAny_loadPart'->QdQ,Builtin->QdU,BindsTo->QdW,wpAny_call->Qd3,wpAny_updateSeq_pair->Qen,Keyword->Qe9,wpAny_pyIter_tuple->QfM,wpAny_onRaise->QfN,wpAny_sequenceKey->QgT,wpAny_Return_some->QgU,wpAny_typeOf->QhQ,IsPart->QhU,noFill_tuple_add->Qh1,Model->Qj2,wpAny_newFunctionEnv_cells->QkN,wpAny_letOwnedTupleGo_zip->QkY,wpAny_newList->QnZ,seq_tuple_add->Qn1,evalPart_none->Qn3,call->Qn4,seqIndex_neg->Qr0,exec_Assign_Name_used->Qr2,concat_meets->Qr3,codeAny_call_function->Qr4,Result->Qr5,IsZip->Qsa,CmpOp->Qsc,codeAny_call_builtin->Qt9,wpAny_letGo->Quk,sizeLine_eq->Qul,seqIndex_of->Qum,wpAny_List_spliced->QwN,tupleKind_room_in1->QwO,ZipApart->QwP,Within->QwR,wpAny_pyIter_list->Qw9,wpAny_collect_seq->Qxa,wpAny_assign_Name->Qxb,wpAny_Name->Qxc,typeIs_int->Qxd,slot_list_getitem->Qxe
open PySem.W renaming Frag->Qb,keepIn->Qc,kitOne->Qh,nsIn->Qm,mg_of->Qr,codeIn->Qz,fnOf->QD,mg_none_of->Q0,kia_one->J8,mroIn->Zh,findIn->Zw,excIn->Z0,kia_tup->Qaf,clsIn->Qag,callWith_K->Qbm,cellsFrom_some->QbY,methodObj->QdS,kitx_list->QdT,instObj->Qe6,OpenLaw->Qe7,lookIn->QfQ,looks_mroIn->Qj0,hideAll_get->Qj1,of_hideAll->QkO,kitx_tuple->QkP,codeRec_of->QkQ,specialIn->QkZ,kitx_none->Qk0,kitx_dict->Qk1,kitx_bool->Qk2,plainGet->QnQ,kitx_str->QnR,kitx_int->QnS,takesIn->Qn5,hideAll->Qn6,typeIn->QpZ,kitAny->Qp0,looks_findIn->Qr1,WalkO->Qr6,Looks->Qr7
open List renaming length_append->Qd,length_map->Qe,getElem?_eq_getElem->Ql,size_toArray->Qu,mem_map->Qw,length_cons->QC,mem_of_getElem?->QM,mem_cons->QN,getElem?_eq_some_iff->QU,map_append->Q1,append_assoc->Q3,all_eq_true->Q4,getElem?_map->Q5,mem_append_right->Jb,mem_iff_getElem?->Jf,map_cons->Jh,append_nil->Ji,map_map->Jj,lookup_cons->Jn,length_take->Jo,pairwise_append->Jp,mem_cons_of_mem->Jq,range->Jr,take_append_drop->Jw,mem_singleton->Jz,mem_append->JB,flatten_cons->JG,replicate->JI,getElem?_append_right->JR,take_add_one->JV,take_length->J5,mem_cons_self->Zi,not_mem_nil->Zm,length_drop->Zn,getD_eq_getElem?_getD->Zs,flatMap_cons->Zy,getElem?_append_left->Zz,length_set->ZG,drop_zero->ZQ,replicate_succ->ZT,length_reverse->ZU,flatMap_append->ZV,drop_of_length_le->ZY,pairwise_iff_getElem->Z7,length_range->Yd,find?_cons->Ye,map_congr_left->Yk,flatten_append->Yl,filterMap_cons->Ym,take_of_length_le->Yz,pairwise_cons->YC,mem_filterMap->YD,getElem?_eq_none->YM,nodup_append->YU,extract_eq_take_drop->Y5,mem_toArray->Y9,length_nil->Qak,getElem?_set_self->Qav,mapM_toArray->Qaz,perm_append_comm->QaH,any_eq_true->QaZ,mem_append_left->Qa1,getElem?_set_ne->Qa2,all_cons->Qa7,sublist_flatten_of_mem->Qbn,mem_filter->Qbo,map_id->Qbp,getElem?_drop->QbC,drop_eq_getElem_cons->QbP,reverse_cons->QbX,pairwise_singleton->Qca,getElem?_replicate->Qcb,filter_cons_of_pos->Qcc,filter_cons_of_neg->Qcd,any_cons->Qce,getElem_mem->Qcp,of_mem_zip->QcG,nodup_cons->QcH,nil_append->QcI,length_singleton->QcJ,length_replicate->QcK,length_filter_le->QcL,mem_of_mem_take->Qdd,take_take->Qdf,getElem?_range->QdJ,zip_cons_cons->Qd5,getElem?_take->Qd6,ext_getElem?->Qe2,map_nil->Qe8,zipIdx_cons->Qfi,mem_reverse->Qfj,dropLast_concat_getLast->QfT,range_succ->QgM,lookup->QgN,forIn_cons->QgO,foldl_cons->QgP,mem_range->QhS,drop_drop->QhT,take_nil->QiY,getElem?_cons_zero->QiZ,getElem?_cons_succ->Qi0,range_succ_eq_map->Qj3,filterMap_append->QkR,any_map->QkS,all_map->QkT,mem_of_mem_drop->Qk4,toList_toArray->QnU,length_pos_iff->QnV,set_cons_zero->Qn8,filterMap_map->Qn9,take_sublist->Qp2,pairwise_map->Qp3,getElem?_set->Qp4,foldl->Qp5,getElem_map->Qr8,flatMap_nil->Qr9,zipIdx_nil->Qud,take_zero->Qus,forIn_nil->Qut,drop_nil->QwV
open PySem.Heap renaming get?_push_of_some->Qf,lt_size->Qs,get?_push_size->QP,size_push->Z8,SameBut->QaI,get?_update_other->Qj5,get?_update_self->QkU,IsTuple->Qxy,FlyingW->Qxz
open PyProof.Rows renaming wpS_bind->Qi,wpS_pure->Qj,slot_tuple_getitem->Jg,wpS_forRange->JZ,SortSt->J3,callWith_type1->ZJ,wpS_mono->YA,SortKind->YB,wpS_modify->Qau,wpS_get->Qcn,step_dedup->Qcv,AllBare->QdX,wpS_lift->Qd2,slicePart_none->Qe0,entry_tuple_getitem->Qe4,args_tuple_getitem->QfO,oneTypeOnly'_eq->QjX,get?_update_seq->QjY,tupleItemsOf_->Qn0,listUpdate_at->Qn2,subscriptTail_builtinR->QpY,seqEpoch_at->Qun,Subscript_->Qxi
open Nat renaming le_refl->Qk,zero_le->Qv,ne_of_lt->QJ,lt_of_lt_of_le->QL,le_trans->Jc,zero_add->ZR,le_of_lt->Z5,lt_irrefl->Yq,lt_of_le_of_lt->YH,min_eq_left->YO,lt_succ_of_lt->QaB,ne_of_gt->QcN,min_self->QcO,add_zero->Qfh,min_le_right->QfR,le_max_right->QfS,lt_trans->Qk3,min_eq_right->Quc,min_le_left->Qur
open Bool renaming and_eq_true_iff->Qo,false_ne_true->QF,and_eq_true->JJ,eq_iff_iff->ZW,true_and->YV,false_and->Y7,false_eq_true->Qal,and_false->Qdh,false_or->QwY
open PySem.PyData renaming int->Qp,depthAll->QV,eqv->Ja,canLayAll0->Jd,depth->Jt,bool->YG,canLay0->YY,tuple->Qay,none->Qdb,str->Qd4,eqvAll->Qua,list->QwS
open Array renaming length_toList->Qq,toList_append->JA,getElem?_toList->ZF,perm_iff_toList_perm->YW,toList_extract->Qa0,size_extract->QbA,getElem?_eq_getElem->QbD,toList_reverse->QcR,mem_toList_iff->QcS,all_eq_true_iff_forall_mem->Qd7,toList_push->Qep,toList_inj->Qfa,getD_eq_getD_getElem?->QfW,toList_setIfInBounds->QgS,mem_of_getElem?->Qj7,getElem_toList->QkW,size_map->Quf,toList->QwZ
open Option.some renaming inj->Qy
open Or renaming inl->QZ,inr->Q8
open PySem.NameKind renaming free->Je,cell->YI
open False renaming elim->Jx
open PySem.Builtin.SmallTypes renaming nextOf->JK,ownedTupleIsFree->ZA,ownedTupleHandOut->Qbu
open Int renaming toNat_natCast->JL,mul_le_mul->Qh2,le_antisymm->Quu
open PySem.Value renaming ref->JP,none->ZH,bool->ZP,type->YN,int->Qcw,builtin->QdR,str->QfP,isStrOf->Quo,isInt->Qxg,float->Qxh
open PySem.Builtin.Slice renaming slicePlaces->JQ,sliceAdjust->Zj,sliceApplied->Yr,sliceFields->QdV,slicePartIndex->QxD
open PySem.Builtin.Tuple renaming tupleExact->JS,tupleItemsOf->QaC,tupleIsExact->QxB,tupleCompareSizes->QxC
open Option renaming map_eq_some_iff->JU,isSome_iff_exists->QgY,isSome_map->QnT,getD_none->Qn7,none->QwU
open ForInStep renaming yield->JY,done->Qbg
open PySem.PassesOwn renaming never->Zf
open PySem.Builtin.Int renaming intBits->Zk,intTooBig->QfV
open PySem.Builtin.List renaming listTooLong->Zx
open PySem.F renaming plainAttrs_list->Yf,slot_tuple_iterator_next->Y6,args_tuple_add_2->QbB,entry_tuple_add->QbV,slot_tuple_add->QbZ,slot_tuple_lt->Qco,slot_zip_next->Qdg,excBase_ValueError->Qfg,type_list_extend->QgK,slot_list_extend->QgL,args_tuple_lt_2->QgX,entry_tuple_lt->QhR,args_tuple_iterator_next_1->QhV,entry_tuple_iterator_next->Qh3,excAttr_ValueError->Qp6,args_list_extend_2->Qp7,entry_list_extend->Qsb,slot_list_extend->Que,args_zip_next_1->Quv,entry_zip_next->QwX,slot_int_rmul->QxA
open PySem.Obj renaming mapSeq->Yg,data_mapFields->Qp1
open True renaming intro->Ys
open List.Perm renaming append_right->Qah,append_left->Qap,trans->QaM,eq_of_pairwise->Qbt,refl->QnW
open PySem.Challenge renaming rw_rooklands_k82_steps_and_partings->Qao,pw_rooklands_k82_steps_and_partings->Qup
open PySem.Str renaming ofString->QaL
open PySem.SeqAt.Reads renaming unique->QaY
open List.Sublist renaming length_le->Qbz
open Sum renaming inl->QbU,inr->QgV
open PySem.SeqAt renaming eqv_refl->Qda,eqAt_reads->Qe5
open Ne renaming symm->Qdc
open Array.Perm renaming refl->Qd8
open PySem.Builtin.Range renaming rangeSize->Qeo
open PySem.PyData.int renaming inj->Qe1
open PySem.SetTable renaming Probe->Qff,runEnd->QnP
open PySem.Heap.IsSliceOf renaming new->QfU
open PySem.Heap.SameBut renaming update->QgQ
open PySem.Calls renaming Name_function_global->QgR,call_function_entry->QgZ,evalArgs_plain->QkV,spliced_cons->QnX,spliced_nil->Qob
open PySem.SeqAt.EqAt renaming bool_bool->QgW
open Sum.inl renaming inj->QjZ
open PyProof.Rows.IsTup renaming new->Qj4
open PySem.Heap.DictOf renaming new->Qj6
open List.cons renaming inj->Qoa
open PySem.Paired renaming length->Qub
open Prod.mk renaming inj->Quq
open PySem.Shared renaming heap->QwQ
open Prod renaming ext->QwT
open PySem.Heap.UpToSlots renaming of_keeps->QwW
open PySem.W.WShape renaming has->Qxf
open PyProof.Rows.SortSt renaming mk'->Qxj
open PySem.W.Looks renaming of_pure->Qxk
open PySem.EqMixed renaming ne_str_int->Qxl,ne_str_bool->Qxm,ne_int_str->Qxn,ne_bool_str->Qxo,eq_str_int->Qxp,eq_str_bool->Qxq,eq_int_str->Qxr,eq_bool_str->Qxs
open List.Pairwise renaming of_map->Qxt,nil->Qxu,map->Qxv,imp_of_mem->Qxw,imp->Qxx
open PySem PySem.Spec PyProof.Rows
set_option Elab.async false
set_option linter.all false
set_option maxRecDepth 100000
namespace L2
abbrev Key:=Sum Int Str
def Qkz:Key->Value->Bool
 |.inl k,v=>Qxg k v
 |.inr x,v=>Quo x v
def QzM(w:Jl):Key->Int
 |.inl k=>hashInt k
 |.inr x=>hashStr w x
theorem Yc:∀{k:Key}{v:Value},Qkz k v=true->(∃i t,k=QbU i/\v=Qcw i t)∨(∃x t,k=QgV x/\v=QfP x t)
 |.inl i,v,h=>by
  obtain⟨t,e⟩:=Value.isInt_shape (k:=i) (v:=v) h;exact .inl ⟨i,t,rfl,e⟩
 |.inr x,v,h=>by
  obtain⟨t,e⟩:=Value.isStrOf_shape (x:=x) (v:=v) h;exact .inr ⟨x,t,rfl,e⟩
theorem QmM(i:Int)(t:Tok):Qkz (.inl i) (.int i t)=true:=by simp[Qkz,Qxg]
theorem QmL(x:Str)(t:Tok):Qkz (.inr x) (.str x t)=true:=by simp[Qkz,Quo]
theorem Qv2(a b:Int):decide ((QbU a:Key)=QbU b)=(a == b):=by
 by_cases e:a=b
 ·subst e;simp
 ·have h:¬(QbU a:Key)=QbU b:=λq=>e (QjZ q)
  rw[decide_eq_false h];exact(beq_eq_false_iff_ne.mpr e).symm
theorem QvY(a b:Str):decide ((QgV a:Key)=QgV b)=decide (a=b):=by
 by_cases e:a=b
 ·subst e;simp
 ·have h:¬(QgV a:Key)=QgV b:=λq=>e (Sum.inr.inj q)
  rw[decide_eq_false h,decide_eq_false e]
theorem Qv1(a:Int)(b:Str):decide ((QbU a:Key)=QgV b)=false:=decide_eq_false (λq=>nomatch q)
theorem QvZ(a:Str)(b:Int):decide ((QgV a:Key)=QbU b)=false:=decide_eq_false (λq=>nomatch q)
def Qax(prog:QB)(w:Jl):PySem.KeyKind prog w Key where
 is:=Qkz
 hash:=QzM w
 inj:=λv a b ha hb=>by
  rcases Yc ha with⟨i,t,rfl,rfl⟩ | ⟨x,t,rfl,rfl⟩
  ·rcases Yc hb with⟨j,u,rfl,e⟩ | ⟨y,u,rfl,e⟩
   ·injection e with e1 _;rw[e1]
   ·exact nomatch e
  ·rcases Yc hb with⟨j,u,rfl,e⟩ | ⟨y,u,rfl,e⟩
   ·exact nomatch e
   ·injection e with e1 _;rw[e1]
 byValue:=λk v h=>by
  rcases Yc h with⟨i,t,rfl,rfl⟩ | ⟨x,t,rfl,rfl⟩<;>rfl
 pyHash:=λhv h=>by
  rcases Yc hv with⟨i,t,rfl,rfl⟩ | ⟨x,t,rfl,rfl⟩
  ·exact wpAny_pyHash_int h
  ·exact wpAny_pyHash_str h
 eqBool:=λhu hv h=>by
  rcases Yc hu with⟨i,t,rfl,rfl⟩ | ⟨x,t,rfl,rfl⟩
  ·rcases Yc hv with⟨j,u,rfl,rfl⟩ | ⟨y,u,rfl,rfl⟩
   ·rw[Qv2] at h;exact wpAny_eqBool_int h
   ·rw[Qv1] at h;exact SeqAt.EqAt.int_str i t y u _ _ _ _ h
  ·rcases Yc hv with⟨j,u,rfl,rfl⟩ | ⟨y,u,rfl,rfl⟩
   ·rw[QvZ] at h;exact SeqAt.EqAt.str_int x t j u _ _ _ _ h
   ·rw[QvY] at h;exact wpAny_eqBool_str h
 «strs» := λk x t v h=>by
  rcases Yc h with⟨i,u,rfl,e⟩ | ⟨y,u,rfl,e⟩
  ·exact nomatch e
  ·injection e with e1 _
   subst e1;cases v<;>rfl
theorem Qiv(prog:QB)(w:Jl)(i:Int)(t:Tok):(Qax prog w).is (.inl i) (.int i t)=true:=QmM i t
theorem Qiu(prog:QB)(w:Jl)(x:Str)(t:Tok):(Qax prog w).is (.inr x) (.str x t)=true:=QmL x t
inductive V where
 |non | bl (b:Bool) | int (i:Int) | str (x:Str) | byt (b:Array UInt8) | flt (b:UInt64) | ref (a:Addr) | ty (n:String)
 deriving DecidableEq
def RelV:V->Value->Prop
 |.non,u=>u=ZH
 |.bl b,u=>u=ZP b
 |.int i,u=>∃t,u=Qcw i t
 |.str x,u=>∃t,u=QfP x t
 |.byt b,u=>∃t,u=Value.bytes b t
 |.flt b,u=>∃t,u=Qxh b t
 |.ref a,u=>u=JP a
 |.ty n,u=>u=YN n
abbrev Vals:List V->List Value->Prop:=YK RelV
theorem Vals.length{xs:List V}{us:List Value}(r:Vals xs us):xs.length=us.length:=Qub r
theorem Vals.get:∀{xs:List V}{us:List Value}{i:Nat}{x:V},Vals xs us->xs[i]? = some x->∃u,us[i]? = some u/\RelV x u
 |_,_,_,_,.nil,e=>by simp at e
 |_,_,0,_,.cons r _,e=>by simp at e;subst e;exact⟨_,rfl,r⟩
 |_,_,i+1,x,.cons _ t,e=>by
  obtain⟨u,h1,h2⟩:=Vals.get (i:=i) (x:=x) t (by simpa using e);exact⟨u,by simpa using h1,h2⟩
theorem Vals.set{x:V}{u:Value}(r:RelV x u):∀{xs:List V}{us:List Value}(i:Nat),Vals xs us->Vals (xs.set i x) (us.set i u)
 |_,_,_,.nil=>.nil
 |_,_,0,.cons _ t=>.cons r t
 |_,_,i+1,.cons q t=>.cons q (Vals.set r i t)
theorem Vals.append:∀{xs ys:List V}{us ws:List Value},Vals xs us->Vals ys ws->Vals (xs++ys) (us++ws)
 |_,_,_,_,.nil,s=>s
 |_,_,_,_,.cons r t,s=>.cons r (Vals.append t s)
theorem Vals.take:∀{xs:List V}{us:List Value}(n:Nat),Vals xs us->Vals (xs.take n) (us.take n)
 |_,_,0,_=>.nil
 |_,_,_+1,.nil=>.nil
 |_,_,n+1,.cons r t=>.cons r (Vals.take n t)
theorem Vals.drop:∀{xs:List V}{us:List Value}(n:Nat),Vals xs us->Vals (xs.drop n) (us.drop n)
 |_,_,0,r=>r
 |_,_,_+1,.nil=>.nil
 |_,_,n+1,.cons _ t=>Vals.drop n t
def RelO:Option V->Option Value->Prop
 |some v,some u=>RelV v u
 |none,none=>True
 |_,_=>False
def KV{κ:Type}:List (κ×V)->List (κ×Value)->Prop:=YK λ(p:κ×V)(q:κ×Value)=>p.1=q.1/\RelV p.2 q.2
def kV:Key->V
 |.inl i=>.int i
 |.inr x=>.str x
inductive HO where
 /-- a list -/
 |lst (xs:List V)
 /-- a tuple (never changes) -/
 |tup (xs:List V)
 /-- a dict whose keys are ints and texts;one whose keys are tuples of ints and texts (the empty one is both) -/
 |dK (kvs:List (Key×V)) | dT (kvs:List (List Key×V))
 /-- a set of ints: its members,its size -/
 |set (S:Int->Bool) (n:Nat)
 /-- an instance of the class at C,its dict at dx,its attributes -/
 |ins (C dx:Addr) (fs:List (Str×V))
 /-- the dict of the instance at x -/
 |own (x:Addr)
 /-- the dict of an exception -/
 |xd (fs:List (Str×V))
 /-- a bound method,f of x -/
 |met (f x:Addr)
 /-- a range object lo,lo+1,.. below hi -/
 |rng (lo hi:Int)
 /-- a thing that is known to the object (the script;a dict while a loop walks it): read,never written while it is so -/
 |frz (o:Obj) (u:HO)
 /-- a code object's table -/
 |tbl (ps:Array Value)
 /-- any other thing,by what is true of its one object (a def of one's own: SetO a S n:=HO.ext λh=>..) -/
 |ext (φ:Za->Prop)
abbrev Hp:=Addr->Option HO
def upd(H:Hp)(a:Addr)(o:HO):Hp:=λb=>if b=a then some o else H b
theorem Jm{H:Hp}{a:Addr}{o:HO}:upd H a o a=some o:=by unfold upd;rw[if_pos rfl]
theorem JX{H:Hp}{a b:Addr}{o:HO}(h:b≠a):upd H a o b=H b:=by unfold upd;rw[if_neg h]
theorem ZX{H:Hp}{a b:Addr}{o:HO}(h:H a=some o)(h':H b=none):a≠b:=by
 intro e;subst e;rw[h] at h';cases h'
section
variable(P:QB)(w:Jl)
def ObjOk(H:Hp)(h:Za)(a:Addr):HO->Prop
 |.lst xs=>xs.length<=sizeLine/\∃(its:List Value)(n:Nat),Vals xs its/\h.get? a=some { cls:=.type "list",data:=.seq its.toArray n }
 |.tup xs=>xs.length<=sizeLine/\∃its:List Value,Vals xs its/\IsTup h a its.toArray
 |.dK kvs=>kvs.length<=sizeLine/\(a == sysModules)=false/\∃vs,KV kvs vs/\h.DictOf (Qax P w) a vs
 |.dT kvs=>kvs.length<=sizeLine/\(a == sysModules)=false/\∃xs:List (List Key×Addr×Value),
   YK (λ(p:List Key×V)(q:List Key×Addr×Value)=>p.1=q.1/\H q.2.1=some (.tup (p.1.map kV))/\RelV p.2 q.2.2) kvs xs /\
   ∃o es ep,h.get? a=some o/\o.ExactDict/\o.data=.dict es ep/\es.toList=xs.map (entryOfKey (tupleKind (Qax P w)))/\(xs.map (·.1)).Nodup
 |.set S n=>h.SetOf (intKind P w) a S n
 |.ins C dx fs=>H dx=some (.own a)/\fs.length<=1000/\dx≠a/\h.get? a=some (PySem.W.instObj C dx) /\
   ∃mA,h.Ns1 dx mA/\(∀f,RelO (fs.lookup f) (mA f))/\PySem.Within mA (fs.map (·.1))
 |.own _=>∃o,h.get? a=some o
 |.xd fs=>∃mA,h.Ns1 a mA/\∀f,RelO (fs.lookup f) (mA f)
 |.rng lo hi=>∃t u v,h.get? a=some { cls:=.type "range",data:=.fields #[.int lo t,.int hi u,.int 1 v] }
 |.frz o u=>h.get? a=some o/\ObjOk H h a u
 |.tbl ps=>h.get? a=some { cls:=.none,data:=.fields ps }
 |.met f x=>h.get? a=some (PySem.W.methodObj (.ref f) (.ref x))
 |.ext φ=>φ h/\(∃o,h.get? a=some o)/\∀h1 h2:Za,φ h1->(∀o,h1.get? a=some o->h2.get? a=some o)->φ h2
def HOk(H:Hp)(h:Za):Prop:=∀a o,H a=some o->ObjOk P w H h a o
end
section
variable{P:QB}{w:Jl}{H H':Hp}{h h':Za}{a:Addr}{o:HO}
theorem ObjOk.lt(x:ObjOk P w H h a o):a<h.objs.size:=by
 cases o with
 |lst xs=>obtain⟨_,_,_,_,e⟩:=x;exact Qs e
 |tup xs=>obtain⟨_,_,_,p⟩:=x;exact p.lt
 |dK kvs=>obtain⟨_,_,_,_,o,_,_,e,_⟩:=x;exact Qs e
 |dT kvs=>obtain⟨_,_,_,_,o,_,_,e,_⟩:=x;exact Qs e
 |set S n=>obtain⟨o,_,_,_,e,_⟩:=x;exact Qs e
 |ins C dx fs=>obtain⟨_,_,_,e,_⟩:=x;exact Qs e
 |own y=>obtain⟨_,e⟩:=x;exact Qs e
 |xd fs=>obtain⟨_,⟨_,_,_,e,_⟩,_⟩:=x;exact Qs e
 |rng lo hi=>obtain⟨_,_,_,e⟩:=x;exact Qs e
 |frz ob u=>obtain⟨e,_⟩:=x;exact Qs e
 |tbl ps=>exact Qs (show h.get? a=some _ from x)
 |met f y=>exact Qs (show h.get? a=some _ from x)
 |ext φ=>obtain⟨_,⟨_,e⟩,_⟩:=x;exact Qs e
theorem YK.mapP{α β:Type}{F G:α->β->Prop}:∀{l₁:List α}{l₂:List β},YK F l₁ l₂->(∀a b,F a b->G a b)->YK G l₁ l₂
 |_,_,.nil,_=>.nil
 |_,_,.cons r t,f=>.cons (f _ _ r) (YK.mapP t f)
theorem ObjOk.stay(x:ObjOk P w H h a o)(k:∀b u,(b=a∨H b=some (.own a))->h.get? b=some u->h'.get? b=some u)
  (ho:∀b,H b=some (.own a)->H' b=some (.own a))(ht:∀b xs,H b=some (.tup xs)->H' b=some (.tup xs)):ObjOk P w H' h' a o:=by
 induction o with
 |lst xs=>obtain⟨z,its,n,r,e⟩:=x;exact⟨z,its,n,r,k _ _ (.inl rfl) e⟩
 |tup xs=>obtain⟨z,its,r,ob,e,c⟩:=x;exact⟨z,its,r,ob,k _ _ (.inl rfl) e,c⟩
 |dK kvs=>obtain⟨z,y,vs,r,ob,es,ep,e,c⟩:=x;exact⟨z,y,vs,r,ob,es,ep,k _ _ (.inl rfl) e,c⟩
 |dT kvs=>
  obtain⟨z,y,xs,r,ob,es,ep,e,c⟩:=x;exact⟨z,y,xs,YK.mapP r λp q z=>⟨z.1,ht _ _ z.2.1,z.2.2⟩,ob,es,ep,k _ _ (.inl rfl) e,c⟩
 |set S n=>obtain⟨ob,es,ep,t,e,c⟩:=x;exact⟨ob,es,ep,t,k _ _ (.inl rfl) e,c⟩
 |ins C dx fs=>
  obtain⟨d,z,ne,e,mA,⟨od,es,ep,e2,c⟩,r⟩:=x;exact⟨ho _ d,z,ne,k _ _ (.inl rfl) e,mA,⟨od,es,ep,k _ _ (.inr d) e2,c⟩,r⟩
 |own y=>obtain⟨ob,e⟩:=x;exact⟨ob,k _ _ (.inl rfl) e⟩
 |xd fs=>obtain⟨mA,⟨od,es,ep,e,c⟩,r⟩:=x;exact⟨mA,⟨od,es,ep,k _ _ (.inl rfl) e,c⟩,r⟩
 |rng lo hi=>obtain⟨t,u,v,e⟩:=x;exact⟨t,u,v,k _ _ (.inl rfl) e⟩
 |frz ob u ih=>obtain⟨e,q⟩:=x;exact⟨k _ _ (.inl rfl) e,ih q⟩
 |tbl ps=>
  have e:h.get? a=some { cls:=.none,data:=.fields ps }:=x;show h'.get? a=some { cls:=.none,data:=.fields ps };exact k a _ (.inl rfl) e
 |met f y=>
  have e:h.get? a=some (PySem.W.methodObj (.ref f) (.ref y)):=x;show h'.get? a=some (PySem.W.methodObj (.ref f) (.ref y));exact k a _ (.inl rfl) e
 |ext φ=>obtain⟨p,⟨o,e⟩,st⟩:=x;exact⟨st _ _ p λo q=>k _ _ (.inl rfl) q,⟨o,k _ _ (.inl rfl) e⟩,st⟩
theorem HOk.lt(x:HOk P w H h)(e:H a=some o):a<h.objs.size:=(x a o e).lt
theorem HOk.fresh(x:HOk P w H h)(e:h.objs.size<=a):H a=none:=by
 cases q:H a with
 |none=>rfl
 |some u=>exact absurd (QL (x.lt q) e) (Yq _)
theorem HOk.kept(x:HOk P w H h)(k:∀b u,h.get? b=some u->h'.get? b=some u):HOk P w H h':=λa o e=>
 (x a o e).stay (λb u _ q=>k b u q) (λ_ q=>q) λ_ _ q=>q
theorem HOk.laid(x:HOk P w H h)(k:∀b u,h.get? b=some u->h'.get? b=some u)(hp:h.objs.size<=a)(new:ObjOk P w (upd H a o) h' a o):HOk P w (upd H a o) h':=λb u e=>by
 have hn:=x.fresh hp;by_cases hb:b=a
 ·subst hb;rw[Jm] at e;cases e;exact new
 ·rw[JX hb] at e;exact(x b u e).stay (λc v _ q=>k c v q) (λc q=>by rw[JX (ZX q hn)];exact q) λc xs q=>by rw[JX (ZX q hn)];exact q
end
def Rd(H:Hp)(a:Addr)(u:HO):Prop:=H a=some u∨∃o,H a=some (.frz o u)
theorem Rd.ok{P:QB}{w:Jl}{H:Hp}{h:Za}{a:Addr}{u:HO}(r:Rd H a u)(x:HOk P w H h):ObjOk P w H h a u:=by
 rcases r with r | ⟨o,r⟩
 ·exact x a u r
 ·obtain⟨_,q⟩:=x a _ r;exact q
def Mut:Option HO->Prop
 |some (.lst _)=>True
 |some (.dK _)=>True
 |some (.dT _)=>True
 |some (.set _ _)=>True
 |some (.ins _ _ _)=>True
 |some (.ext _)=>True
 |_=>False
section
variable{P:QB}{w:Jl}{H:Hp}{h h':Za}{x e:Addr}{o':HO}
theorem HOk.write(ok:HOk P w H h)(mu:Mut (H x))(he:e=x∨H e=some (.own x))(k:∀b u,b≠e->h.get? b=some u->h'.get? b=some u)(heo:∃u,h'.get? e=some u)
  (new:ObjOk P w (upd H x o') h' x o'):HOk P w (upd H x o') h':=λb u q=>by
 have nown:∀c y,H c=some (.own y)->c≠x:=λc y r z=>by subst z;rw[r] at mu;exact mu
 have ntup:∀c xs,H c=some (.tup xs)->c≠x:=λc xs r z=>by subst z;rw[r] at mu;exact mu
 by_cases hb:b=x
 ·subst hb;rw[Jm] at q;cases q;exact new
 ·rw[JX hb] at q;by_cases hbe:b=e
  ·have q':H b=some (.own x):=by
    rcases he with z | z
    ·exact absurd (hbe.trans z) hb
    ·rw[hbe];exact z
   rw[q] at q';cases q';obtain⟨v,hv⟩:=heo;exact⟨v,by rw[hbe];exact hv⟩
  ·refine(ok b u q).stay (λc v hc r=>k c v ?_ r) (λc r=>by rw[JX (nown c b r)];exact r) λc xs r=>by rw[JX (ntup c xs r)];exact r
   rcases hc with rfl | hc
   ·exact hbe
   ·rintro rfl;rcases he with z | z
    ·exact nown c b hc z
    ·rw[hc] at z;cases z;exact hb rfl
end
structure Un (fs ex:List Addr) (H H':Hp) (h h':Za):Prop where
 keep:∀b o,h.get? b=some o->H b=none->b∉fs->b∉ex->h'.get? b=some o
 slot:∀b o,h.get? b=some o->H b=none->b∈fs->b∉ex->∃sl,h'.get? b=some { o with slots:=sl }
 free:∀b o,h.get? b=some o->H b=none->b∉ex->H' b=none
 there:∀b o,h.get? b=some o->b∉ex->∃o',h'.get? b=some o'
 tups:∀b xs,H b=some (.tup xs)->H' b=some (.tup xs)
 frzs:∀b o u,H b=some (.frz o u)->H' b=some (.frz o u)
 tbls:∀b ps,H b=some (.tbl ps)->∃more,H' b=some (.tbl (ps++more))
section
variable{fs fs' ex ex':List Addr}{H H1 H2:Hp}{h h1 h2 h':Za}{a x e:Addr}{o:HO}
theorem Un.any(u:Un fs ex H H1 h h1){b:Addr}{ob:Obj}(q:h.get? b=some ob)(n:H b=none)(hx:b∉ex):∃sl,h1.get? b=some { ob with slots:=sl }:=by
 by_cases hb:b∈fs
 ·exact u.slot b ob q n hb hx
 ·exact⟨ob.slots,u.keep b ob q n hb hx⟩
theorem Un.kept(k:∀b u,h.get? b=some u->h'.get? b=some u):Un fs ex H H h h':=
 ⟨λb ob q _ _ _=>k b ob q,λb ob q _ _ _=>⟨ob.slots,k b ob q⟩,λ_ _ _ n _=>n,λb ob q _=>⟨ob,k b ob q⟩,λ_ _ q=>q,λ_ _ _ q=>q,λ_ ps q=>⟨#[],by rw[q];simp⟩⟩
theorem Un.refl:Un fs ex H H h h:=Un.kept λ_ _ q=>q
theorem Un.laid(k:∀b u,h.get? b=some u->h'.get? b=some u)(hp:h.objs.size<=a)(hn:H a=none):Un fs ex H (upd H a o) h h' where
 keep:=λb u q _ _ _=>k b u q
 slot:=λb u q _ _ _=>⟨u.slots,k b u q⟩
 free:=λb u q n _=>by rw[JX (QJ (QL (Qs q) hp))];exact n
 there:=λb u q _=>⟨u,k b u q⟩
 tups:=λb xs q=>by rw[JX (ZX q hn)];exact q
 frzs:=λb u xs q=>by rw[JX (ZX q hn)];exact q
 tbls:=λb ps q=>⟨#[],by rw[JX (ZX q hn),q];simp⟩
theorem Un.write(mu:Mut (H x))(he:e=x∨H e=some (.own x))(k:∀b u,b≠e->h.get? b=some u->h'.get? b=some u)(heo:∃u,h'.get? e=some u):Un fs ex H (upd H x o) h h':=by
 have hx:∀b,H b=none->b≠x:=λb n z=>by subst z;rw[n] at mu;exact mu
 have hb:∀b,H b=none->b≠e:=λb n z=>by
  subst z;rcases he with r | r
  ·exact hx b n r
  ·rw[n] at r;cases r
 have hm:∀b u,H b=some u->¬Mut (some u)->b≠x:=λb u q nm z=>by subst z;rw[q] at mu;exact nm mu
 refine⟨λb u q n _ _=>k b u (hb b n) q,λb u q n _ _=>⟨u.slots,k b u (hb b n) q⟩,λb u q n _=>by rw[JX (hx b n)];exact n,λb u q _=>?_,
  λb xs q=>by rw[JX (hm b _ q λz=>z)];exact q,λb u xs q=>by rw[JX (hm b _ q λz=>z)];exact q,λb ps q=>⟨#[],by rw[JX (hm b _ q λz=>z),q];simp⟩⟩
 by_cases hbe:b=e
 ·subst hbe;exact heo
 ·exact⟨u,k b u hbe q⟩
end
def trk(h:Za)(H:Hp):List Addr:=(Jr h.objs.size).filter λa=>(H a).isSome
def QpG(h:Za)(H:Hp):Za:=PySem.W.hideAll h (trk h H)
theorem QmY(h:Za)(H:Hp):(QpG h H).objs.size=h.objs.size:=PySem.W.hideAll_size _ _
theorem QpF{h:Za}{H:Hp}{b:Addr}{o:Obj}(e:h.get? b=some o)(n:H b=none):(QpG h H).get? b=some o:=
 PySem.W.hideAll_get _ e λhm=>by
  have q:(H b).isSome=true:=(Qbo.mp hm).2;rw[n] at q;simp at q
theorem Qtn{h:Za}{H:Hp}{b:Addr}{o:Obj}(e:(QpG h H).get? b=some o):h.get? b=some o/\H b=none:=by
 have e':h.get? b=some o:=PySem.W.of_hideAll (trk h H) e;refine⟨e',?_⟩;cases q:H b with
 |none=>rfl
 |some x=>
  have hm:b∈trk h H:=Qbo.mpr ⟨QhS.mpr (Qs e'),by simp[q]⟩;have z:(QpG h H).get? b=none:=PySem.W.hideAll_none (trk h H) hm;rw[z] at e;cases e
def Qt7(g h:Za)(L:Addr):List (Addr×Obj):=(Jr h.objs.size).filterMap λa=>if a=L∨(g.get? a).isSome=true then none else(h.get? a).map λo=>(a,o)
def rest(g h:Za)(L d:Addr):List (Addr×Obj):=(Qt7 g h L).filter λp=>decide (p.1≠d)
structure Mod (K:PySem.W.Frag) (mg:Str->Option Value) (base:Za):Prop where
 kin:K.In base
 glob:base.Ns mainGlobals mg
 blt:∃mb,base.Ns builtinsNs mb/\∀x:Str,x ≠ "__name__" -> mb x=bootBuiltins x
 nolimit:base.NoLimit
structure Cx where
 prog:QB
 w:Jl
 K:PySem.W.Frag
 mg:Str->Option Value
 base:Za
 A:Q9
 N:List Str
 s₀:Shared
 H₀:Hp
 env:Env
 outer:List Env
 stack:List Env
 ex:List Addr
 fn:Str->Bool
 calm:Bool
 pn:List (Addr×Obj)
 xe:Value->Shared->Prop
def frs(l:List Env):List Addr:=l.filterMap (·.frame)
abbrev Cx.fs (X:Cx):List Addr:=frs X.outer
def Vis(sc:Yp)(x:Str):Prop:=sc.names.lookup x=some .local∨sc.names.lookup x=some .cell∨sc.names.lookup x=some .free
def Loc(sc:Yp)(x:Str):Prop:=sc.names.lookup x=some .local∨sc.names.lookup x=some .cell
def Look(env:Env)(h:Za)(m:Str->Option Value)(x:Str)(u:Value):Prop:=
 (env.kindOf x=some .local/\m x=some u)∨((env.kindOf x=some .cell∨env.kindOf x=some .free)/\∃c,env.cells.lookup x=some c/\h.IsCell c (some u))
structure Cx.Ok (X:Cx):Prop where
 mod:Mod X.K X.mg X.base
 kind:X.env.scope.kind=.function
 glob:X.env.globals=mainGlobals
 blt:X.env.builtins=builtinsNs
 above:X.s₀.heap.objs.size<=X.env.locals
 inj:∀x y c,X.env.cells.lookup x=some c->X.env.cells.lookup y=some c->x=y
 has:∀x,(X.env.kindOf x=some .cell∨X.env.kindOf x=some .free)->∃c,X.env.cells.lookup x=some c
 cab:∀x c,X.fn x=true->X.env.cells.lookup x=some c->X.s₀.heap.objs.size<=c
 hd:X.calm=true->X.A.handled=none
 frames:X.A.frames=some X.stack
 stk:X.stack=X.outer∨(X.stack=X.env::X.outer/\X.env.frame=some X.env.locals)
 exf:∀b∈X.ex,b≠X.env.locals/\∀x c,X.env.cells.lookup x=some c->c≠b
 bs:∀b o,X.base.get? b=some o->X.s₀.heap.get? b=some o/\X.H₀ b=none
 bsz:X.base.objs.size<=X.s₀.heap.objs.size
 noex:∀b o,X.base.get? b=some o->b∉X.ex
 exfs:∀b∈X.ex,b∉X.fs
 funs:X.s₀.heap.FunFrames X.base X.outer
 frf:∀b∈X.fs,X.H₀ b=none
structure Inv (X:Cx) (pins:List (Addr×Obj)) (σ:List (Option V)) (H:Hp) (s:Shared):Prop where
 ok:X.Ok
 os:s.os=X.s₀.os
 bare:QdX s.gens
 base:Un X.fs X.ex X.H₀ H X.s₀.heap s.heap
 loc:∃m,s.heap.Ns X.env.locals m/\∀(i:Nat)(x:Str)(v:V),X.N[i]? = some x->σ[i]? = some (some v)->Vis X.env.scope x->∃u,RelV v u/\Look X.env s.heap m x u
 cell:∀x c,X.env.cells.lookup x=some c->∃v,s.heap.IsCell c v
 free:H X.env.locals=none
 freeC:∀x c,X.env.cells.lookup x=some c->H c=none
 pin:∀p∈X.pn++pins,s.heap.get? p.1=some p.2/\H p.1=none/\p.1≠X.env.locals/\p.1∉X.fs/\∀v,p.2.data≠.cell v
 hok:HOk X.prog X.w H s.heap
 len:σ.length=X.N.length
section
variable{X:Cx}{pins:List (Addr×Obj)}{σ:List (Option V)}{H H':Hp}{s:Shared}{h':Za}
theorem Cx.Ok.nofr(ok:X.Ok){b:Addr}{o:Obj}(e:X.base.get? b=some o):b∉X.fs:=λhb=>by
 have:=(ok.funs.mem hb).1;rw[e] at this;cases this
theorem Inv.bs(I:Inv X pins σ H s):∀b o,X.base.get? b=some o->s.heap.get? b=some o/\H b=none:=λb o e=>
 ⟨I.base.keep b o (I.ok.bs b o e).1 (I.ok.bs b o e).2 (I.ok.nofr e) (I.ok.noex b o e),I.base.free b o (I.ok.bs b o e).1 (I.ok.bs b o e).2 (I.ok.noex b o e)⟩
theorem Inv.bk(I:Inv X pins σ H s):∀b o,X.base.get? b=some o->s.heap.get? b=some o:=λb o e=>(I.bs b o e).1
theorem Inv.mod(I:Inv X pins σ H s):Mod X.K X.mg X.base:=I.ok.mod
theorem Inv.kIn(I:Inv X pins σ H s):X.K.In s.heap:=I.ok.mod.kin.keeps I.bk
theorem Inv.fr(I:Inv X pins σ H s):∃m,Fr X.base X.env.locals s.heap m:=
 let ⟨m,hn,_⟩:=I.loc
 ⟨m,hn,I.bk,Jc I.ok.bsz I.ok.above⟩
theorem Inv.lt(I:Inv X pins σ H s):X.env.locals<s.heap.objs.size:=let ⟨_,hn,_⟩:=I.loc;hn.lt
theorem Inv.sz(I:Inv X pins σ H s):X.s₀.heap.objs.size<=s.heap.objs.size:=Jc I.ok.above (Z5 I.lt)
theorem Inv.nofs(I:Inv X pins σ H s){a:Addr}(h:s.heap.objs.size<=a):a∉X.fs:=λhb=>by
 obtain⟨_,o,ho,_⟩:=I.ok.funs.mem hb;exact absurd (QL (Qs ho) (Jc I.sz h)) (Yq _)
theorem Inv.cne(I:Inv X pins σ H s):∀x c,X.env.cells.lookup x=some c->c≠X.env.locals:=λx c e z=>by
 obtain⟨v,o,ho,hd⟩:=I.cell x c e;obtain⟨m,⟨o',es,ep,ho',hd',_⟩,_⟩:=I.loc;rw[z,ho'] at ho;cases ho;rw[hd'] at hd;cases hd
theorem Inv.funs(I:Inv X pins σ H s):s.heap.FunFrames X.base X.outer:=by
 have all:∀(l:List Env),(∀b∈frs l,b∈X.fs)->X.s₀.heap.FunFrames X.base l->s.heap.FunFrames X.base l:=by
  intro l;induction l with
  |nil=>intro _ _;trivial
  |cons env r ih=>
   intro hs hl;obtain⟨hk,⟨L,o,hf,hn,ho,hd⟩,hr⟩:=hl;have hL:L∈X.fs:=hs L (by unfold frs;rw[Ym,hf];exact Zi);obtain⟨sl,e⟩:=I.base.slot L o ho (I.ok.frf L hL) hL λz=>I.ok.exfs L z hL
   exact⟨hk,⟨L,_,hf,hn,e,hd⟩,ih (λb hb=>hs b (by unfold frs;rw[Ym,hf];exact Jq _ hb)) hr⟩
 exact all X.outer (λ_ hb=>hb) I.ok.funs
theorem Inv.stack(I:Inv X pins σ H s):s.heap.FunFrames X.base X.stack:=by
 rcases I.ok.stk with e | ⟨e,hf⟩
 ·rw[e];exact I.funs
 ·rw[e];obtain⟨m,hn,_⟩:=I.loc;refine .cons (by rw[I.ok.kind];decide) hf hn ?_ I.funs
  exact Heap.get?_none_of_le (Jc I.ok.bsz I.ok.above)
theorem Inv.stkSub(I:Inv X pins σ H s):∀b∈frs X.stack,b∈X.env.locals::X.fs:=λb hb=>by
 rcases I.ok.stk with e | ⟨e,hf⟩
 ·rw[e] at hb;exact Jq _ hb
 ·rw[e] at hb;unfold frs at hb;rw[Ym,hf] at hb;exact hb
theorem Inv.stkFree(I:Inv X pins σ H s):∀b∈frs X.stack,H b=none:=λb hb=>by
 rcases QN.mp (I.stkSub b hb) with e | hb
 ·rw[e];exact I.free
 ·obtain⟨_,o,ho,_⟩:=I.ok.funs.mem hb;exact I.base.free b o ho (I.ok.frf b hb) λz=>I.ok.exfs b z hb
theorem Inv.step{g':Array GenState}{t':Nat}{d':Drawn}{ch:List Addr}(I:Inv X pins σ H s)
  (hch:∀b∈ch,(b∈X.ex∨X.s₀.heap.objs.size<=b)/\b≠X.env.locals/\(∀x c,X.env.cells.lookup x=some c->c≠b)/\∀p∈X.pn++pins,p.1≠b)
  (keep:∀b o,b≠X.env.locals->b∉X.fs->b∉ch->s.heap.get? b=some o->H b=none->h'.get? b=some o)
  (slot:∀b o,b≠X.env.locals->b∈X.fs->b∉ch->s.heap.get? b=some o->H b=none->∃sl,h'.get? b=some { o with slots:=sl })(free:∀b o,b∉ch->s.heap.get? b=some o->H b=none->H' b=none)
  (there:∀b o,b∉ch->s.heap.get? b=some o->∃o',h'.get? b=some o')
  (tups:∀b xs,H b=some (.tup xs)->H' b=some (.tup xs))(frzs:∀b o u,H b=some (.frz o u)->H' b=some (.frz o u))(tbls:∀b ps,H b=some (.tbl ps)->∃more,H' b=some (.tbl (ps++more)))
  (ns:∀m,s.heap.Ns X.env.locals m->h'.Ns X.env.locals m)(hok:HOk X.prog X.w H' h')(hg:QdX g') :
  Inv X pins σ H' { s with heap:=h',gens:=g',drawn:=d',toks:=t' }:=by
 have neL:∀b o,X.s₀.heap.get? b=some o->b≠X.env.locals:=λb o e=>QJ (QL (Qs e) I.ok.above)
 have neC:∀b o,X.s₀.heap.get? b=some o->b∉X.ex->b∉ch:=λb o e hx hb=>by
  rcases(hch b hb).1 with z | z
  ·exact hx z
  ·exact absurd (QL (Qs e) z) (Yq _)
 have cellK:∀x c,X.env.cells.lookup x=some c->∀v,s.heap.IsCell c v->h'.IsCell c v:=λx c e v ⟨o,ho,hd⟩=>by
  have nch:c∉ch:=λz=>(hch c z).2.2.1 x c e rfl
  by_cases hc:c∈X.fs
  ·obtain⟨sl,q⟩:=slot c o (I.cne x c e) hc nch ho (I.freeC x c e);exact⟨_,q,hd⟩
  ·exact⟨o,keep c o (I.cne x c e) hc nch ho (I.freeC x c e),hd⟩
 refine⟨I.ok,I.os,hg,⟨λb o e n hb hx=>?_,λb o e n hb hx=>?_,λb o e n hx=>?_,λb o e hx=>?_,λb xs e=>tups b xs (I.base.tups b xs e),λb o xs e=>frzs b o xs (I.base.frzs b o xs e),λb ps e=>?_⟩,?_,λx c e=>?_,?_,λx c e=>?_,λp hp=>?_,hok,I.len⟩
 ·exact keep b o (neL b o e) hb (neC b o e hx) (I.base.keep b o e n hb hx) (I.base.free b o e n hx)
 ·obtain⟨sl,e1⟩:=I.base.slot b o e n hb hx;obtain⟨sl',e2⟩:=slot b _ (neL b o e) hb (neC b o e hx) e1 (I.base.free b o e n hx);exact⟨sl',e2⟩
 ·obtain⟨o',e1⟩:=I.base.there b o e hx;exact free b o' (neC b o e hx) e1 (I.base.free b o e n hx)
 ·obtain⟨o',e1⟩:=I.base.there b o e hx;exact there b o' (neC b o e hx) e1
 ·obtain⟨m1,e1⟩:=I.base.tbls b ps e;obtain⟨m2,e2⟩:=tbls b _ e1;exact⟨m1++m2,by rw[e2,Array.append_assoc]⟩
 ·obtain⟨m,hn,hl⟩:=I.loc;refine⟨m,ns m hn,λi x v e1 e2 e3=>?_⟩;obtain⟨u,r,l⟩:=hl i x v e1 e2 e3;refine⟨u,r,?_⟩;rcases l with l | ⟨k,c,e,z⟩
  ·exact .inl l
  ·exact .inr ⟨k,c,e,cellK x c e _ z⟩
 ·obtain⟨v,z⟩:=I.cell x c e;exact⟨v,cellK x c e v z⟩
 ·obtain⟨m,⟨o,_,_,ho,_⟩,_⟩:=I.loc;exact free _ o (λz=>(hch _ z).2.1 rfl) ho I.free
 ·obtain⟨v,o,ho,hd⟩:=I.cell x c e;exact free c o (λz=>(hch c z).2.2.1 x c e rfl) ho (I.freeC x c e)
 ·obtain⟨e,n,ne,nf,d⟩:=I.pin p hp;have nch:p.1∉ch:=λz=>(hch p.1 z).2.2.2 p hp rfl
  exact⟨keep p.1 p.2 ne nf nch e n,free p.1 p.2 nch e n,ne,nf,d⟩
theorem Inv.un{t':Nat}(I:Inv X pins σ H s)(u:Un X.fs [] H H' s.heap h')(hok:HOk X.prog X.w H' h'):Inv X pins σ H' { s with heap:=h',toks:=t' }:=by
 obtain⟨m,⟨o,es,ep,ho,r⟩,_⟩:=id I.loc;obtain⟨sl,hL⟩:=u.any ho I.free (by simp);exact I.step (g':=s.gens) (d':=s.drawn) (ch:=[]) (λ_ z=>nomatch z) (λb o _ hb _ e n=>u.keep b o e n hb (by simp)) (λb o _ hb _ e n=>u.slot b o e n hb (by simp)) (λb o _ e n=>u.free b o e n (by simp)) (λb o _ e=>u.there b o e (by simp)) u.tups u.frzs u.tbls (λm' hm=>by
  obtain⟨o',es',ep',ho',r'⟩:=hm;rw[ho] at ho';cases ho';exact⟨_,es',ep',hL,r'⟩) hok I.bare
theorem Inv.call{g':Array GenState}{t':Nat}{d':Drawn}{ch:List Addr}(I:Inv X pins σ H s)(u:Un (frs X.stack) ch H H' s.heap h')(hok:HOk X.prog X.w H' h')(hg:QdX g')
  (hch:∀b∈ch,(b∈X.ex∨X.s₀.heap.objs.size<=b)/\b≠X.env.locals/\(∀x c,X.env.cells.lookup x=some c->c≠b)/\∀p∈X.pn++pins,p.1≠b) :
  Inv X pins σ H' { s with heap:=h',gens:=g',drawn:=d',toks:=t' }:=by
 obtain⟨m,⟨o,es,ep,ho,r⟩,_⟩:=id I.loc;obtain⟨sl,hL⟩:=u.any ho I.free λz=>(hch _ z).2.1 rfl
 exact I.step (ch:=ch) hch (λb o hL hb hc e n=>u.keep b o e n (λz=>(QN.mp (I.stkSub b z)).elim hL hb) hc) (λb o _ _ hc e n=>u.any e n hc) (λb o hc e n=>u.free b o e n hc) (λb o hc e=>u.there b o e hc) u.tups u.frzs u.tbls (λm' hm=>by
  obtain⟨o',es',ep',ho',r'⟩:=hm;rw[ho] at ho';cases ho';exact⟨_,es',ep',hL,r'⟩) hok hg
theorem Inv.turned{t':Nat}{it:Addr}(I:Inv X pins σ H s)(k:∀b o,b≠it->s.heap.get? b=some o->h'.get? b=some o)(hn:H it=none)(hL:it≠X.env.locals)
  (h1:it∈X.ex∨X.s₀.heap.objs.size<=it)(h2:∀x c,X.env.cells.lookup x=some c->c≠it)(h3:∀p∈X.pn++pins,p.1≠it):Inv X pins σ H { s with heap:=h',toks:=t' }:=by
 have nit:∀b u,H b=some u->b≠it:=λb u e z=>by rw[z,hn] at e;cases e
 refine I.step (g':=s.gens) (d':=s.drawn) (ch:=[it]) (λb hb=>?_) (λb o _ _ hc e _=>k b o (λz=>hc (by simp[z])) e) (λb o _ _ hc e _=>⟨o.slots,k b o (λz=>hc (by simp[z])) e⟩) (λ_ _ _ _ n=>n)
  (λb o hc e=>⟨o,k b o (λz=>hc (by simp[z])) e⟩) (λ_ _ e=>e) (λ_ _ _ e=>e) (λb ps e=>⟨#[],by rw[e];simp⟩) (λm hm=>?_) (λb u e=>?_) I.bare
 ·have e:b=it:=by simpa using hb
  subst e;exact⟨h1,hL,h2,h3⟩
 ·obtain⟨o,es,ep,ho,r⟩:=hm;exact⟨o,es,ep,k _ o (Qdc hL) ho,r⟩
 ·refine(I.hok b u e).stay (λc v hc q=>k c v ?_ q) (λ_ q=>q) λ_ _ q=>q
  rcases hc with z | z
  ·rw[z];exact nit b u e
  ·exact nit c _ z
theorem Inv.tok(I:Inv X pins σ H s)(t:Nat):Inv X pins σ H { s with toks:=t }:=I.un (h':=s.heap) (t':=t) Un.refl I.hok
theorem Inv.kept{t':Nat}(I:Inv X pins σ H s)(k:∀b u,s.heap.get? b=some u->h'.get? b=some u):Inv X pins σ H { s with heap:=h',toks:=t' }:=I.un (Un.kept k) (I.hok.kept k)
theorem Inv.laid{a:Addr}{o:HO}{t':Nat}(I:Inv X pins σ H s)(k:∀b u,s.heap.get? b=some u->h'.get? b=some u)(hp:s.heap.objs.size<=a)(new:ObjOk X.prog X.w (upd H a o) h' a o) :
  Inv X pins σ (upd H a o) { s with heap:=h',toks:=t' }:=I.un (Un.laid k hp (I.hok.fresh hp)) (I.hok.laid k hp new)
theorem Inv.write{x e:Addr}{o:HO}{t':Nat}(I:Inv X pins σ H s)(mu:Mut (H x))(he:e=x∨H e=some (.own x))(k:∀b u,b≠e->s.heap.get? b=some u->h'.get? b=some u)(heo:∃u,h'.get? e=some u)
  (new:ObjOk X.prog X.w (upd H x o) h' x o):Inv X pins σ (upd H x o) { s with heap:=h',toks:=t' }:=I.un (Un.write mu he k heo) (I.hok.write mu he k heo new)
theorem Inv.weak{σ':List (Option V)}(I:Inv X pins σ H s)(hl:σ'.length=σ.length)(w:∀(i:Nat) v,σ'[i]? = some (some v)->σ[i]? = some (some v)):Inv X pins σ' H s:=
 ⟨I.ok,I.os,I.bare,I.base,let ⟨m,hn,hl'⟩:=I.loc;⟨m,hn,λi x v e1 e2 e3=>hl' i x v e1 (w i v e2) e3⟩,I.cell,I.free,I.freeC,I.pin,I.hok,hl.trans I.len⟩
theorem Inv.pins_of{pins':List (Addr×Obj)}(I:Inv X pins σ H s)(h:∀p∈pins',s.heap.get? p.1=some p.2/\H p.1=none/\p.1≠X.env.locals/\p.1∉X.fs/\∀v,p.2.data≠.cell v):Inv X pins' σ H s:=
 ⟨I.ok,I.os,I.bare,I.base,I.loc,I.cell,I.free,I.freeC,λp hp=>(JB.mp hp).elim (λz=>I.pin p (Qa1 _ z)) (h p),I.hok,I.len⟩
theorem Qgl{N:List Str}(hN:N.Nodup){i j:Nat}{x:Str}(a:N[i]? = some x)(b:N[j]? = some x):i=j:=by
 obtain⟨h1,e1⟩:=QU.mp a;obtain⟨h2,e2⟩:=QU.mp b;exact(List.getElem_inj hN).mp (e1.trans e2.symm)
theorem Qg7{M:Qj2}{A:Q9}{E:Value->Shared->Prop}{i:Nat}{x:Str}{v:V}{u:Value}{Q:Unit->Shared->Prop}(I:Inv X pins σ H s)(hN:X.N.Nodup)(hi:X.N[i]? = some x)(hx:Loc X.env.scope x)(r:RelV v u)
  (h:∀s',Inv X pins (σ.set i (some v)) H s'->(∃a,QaI a s.heap s'.heap/\(a=X.env.locals∨X.env.cells.lookup x=some a))->Q () s')(hf:X.fn x=true∨X.env.scope.names.lookup x=some .local:=by first | exact .inl rfl | exact .inr rfl | assumption):wpAny M A (storeName X.env x u) Q E s:=by
 obtain⟨m,hn,hl⟩:=id I.loc;have hcls:(X.env.scope.kind == .class||(X.env.scope.kind == .module&&X.env.locals != X.env.globals))=false:=by rw[I.ok.kind];rfl
 have hiσ:i < σ.length:=by rw[I.len];exact(QU.mp hi).1
 have cne:=I.cne;have tracked:∀{a:Addr}{h':Za},(∃o,s.heap.get? a=some o/\H a=none)->QaI a s.heap h'->HOk X.prog X.w H h':=λ{a h'} ha hs b ob e=>by
  obtain⟨_,_,hfree⟩:=ha;refine(I.hok b ob e).stay (λc w' hc q=>(hs.2 c ?_).trans q) (λ_ q=>q) λ_ _ q=>q
  rintro rfl;rcases hc with rfl | hc
  ·rw[hfree] at e;cases e
  ·rw[hfree] at hc;cases hc
 rcases hx with hk | hk
 ·refine wpAny_storeName_local hk hn (λh' hn' hs=>?_) hcls;obtain⟨oL,_,_,hoL,_⟩:=id hn;refine h _ ⟨I.ok,I.os,I.bare,⟨λb o e n hb hx=>?_,λb o e n hb hx=>?_,I.base.free,λb o e hx=>?_,I.base.tups,I.base.frzs,I.base.tbls⟩,⟨_,hn',λj y v' e1 e2 e3=>?_⟩,λy c e=>?_,I.free,I.freeC,λp hp=>?_,tracked ⟨oL,hoL,I.free⟩ hs,by simpa using I.len⟩ ⟨_,hs,.inl rfl⟩
  ·exact(hs.2 b (QJ (QL (Qs e) I.ok.above))).trans (I.base.keep b o e n hb hx)
  ·obtain⟨sl,e1⟩:=I.base.slot b o e n hb hx;exact⟨sl,(hs.2 b (QJ (QL (Qs e) I.ok.above))).trans e1⟩
  ·obtain⟨o',e1⟩:=I.base.there b o e hx;exact⟨o',(hs.2 b (QJ (QL (Qs e) I.ok.above))).trans e1⟩
  ·by_cases hj:j=i
   ·subst hj;rw[hi] at e1;cases e1;rw[Qav hiσ] at e2;cases e2;exact⟨u,r,.inl ⟨hk,by simp⟩⟩
   ·rw[Qa2 (Qdc hj)] at e2;obtain⟨u',r',q⟩:=hl j y v' e1 e2 e3;refine⟨u',r',?_⟩;rcases q with⟨k,e⟩ | ⟨k,c,e,z⟩
    ·refine .inl ⟨k,?_⟩;have:y≠x:=λe=>hj (Qgl hN e1 (e ▸ hi))
     simp[this,e]
    ·exact .inr ⟨k,c,e,z.sameBut hs (cne y c e)⟩
  ·obtain⟨w',z⟩:=I.cell y c e;exact⟨w',z.sameBut hs (cne y c e)⟩
  ·obtain⟨e,n,ne,nf,d⟩:=I.pin p hp;exact⟨(hs.2 p.1 ne).trans e,n,ne,nf,d⟩
 ·have hfn:X.fn x=true:=by
   rcases hf with z | z
   ·exact z
   ·rw[z] at hk;cases hk
  obtain⟨c,hc⟩:=I.ok.has x (.inl hk);obtain⟨w',z⟩:=I.cell x c hc;refine wpAny_storeName_cell I.ok.kind hk hc z (λh' hc' hs=>?_);obtain⟨oc,hoc,hocd⟩:=id z;refine h { s with heap:=h' } ⟨I.ok,I.os,I.bare,⟨λb o e n hb hx=>?_,λb o e n hb hx=>?_,I.base.free,λb o e hx=>?_,I.base.tups,I.base.frzs,I.base.tbls⟩,⟨m,hn.sameBut hs (Qdc (cne x c hc)),λj y v' e1 e2 e3=>?_⟩,λy c' e=>?_,I.free,I.freeC,λp hp=>?_,tracked ⟨oc,hoc,I.freeC x c hc⟩ hs,by simpa using I.len⟩ ⟨c,hs,.inr hc⟩
  ·exact(hs.2 b (QJ (QL (Qs e) (I.ok.cab x c hfn hc)))).trans (I.base.keep b o e n hb hx)
  ·obtain⟨sl,e1⟩:=I.base.slot b o e n hb hx;exact⟨sl,(hs.2 b (QJ (QL (Qs e) (I.ok.cab x c hfn hc)))).trans e1⟩
  ·obtain⟨o',e1⟩:=I.base.there b o e hx;exact⟨o',(hs.2 b (QJ (QL (Qs e) (I.ok.cab x c hfn hc)))).trans e1⟩
  ·by_cases hj:j=i
   ·subst hj;rw[hi] at e1;cases e1;rw[Qav hiσ] at e2;cases e2;exact⟨u,r,.inr ⟨.inl hk,c,hc,hc'⟩⟩
   ·rw[Qa2 (Qdc hj)] at e2;obtain⟨u',r',q⟩:=hl j y v' e1 e2 e3;refine⟨u',r',?_⟩;rcases q with q | ⟨k,c',e,z'⟩
    ·exact .inl q
    ·refine .inr ⟨k,c',e,z'.sameBut hs ?_⟩;rintro rfl;exact hj (Qgl hN e1 (I.ok.inj _ _ _ e hc ▸ hi))
  ·by_cases hcc:c'=c
   ·subst hcc;exact⟨_,hc'⟩
   ·obtain⟨w2,z2⟩:=I.cell y c' e;exact⟨w2,z2.sameBut hs hcc⟩
  ·obtain⟨e,n,ne,nf,d⟩:=I.pin p hp;refine⟨(hs.2 p.1 ?_).trans e,n,ne,nf,d⟩;intro q;rw[q,hoc] at e;have q':oc=p.2:=Qy e;exact d w' (by rw[<- q'];exact hocd)
theorem Qf4{M:Qj2}{A:Q9}{E:Value->Shared->Prop}{i:Nat}{x:Str}{v:V}{u:Value}{Q:Unit->Shared->Prop}(I:Inv X pins σ H s)(hN:X.N.Nodup)(hi:X.N[i]? = some x)(hx:Loc X.env.scope x)(r:RelV v u)
  (h:∀s',Inv X pins (σ.set i (some v)) H s'->Q () s')(hf:X.fn x=true∨X.env.scope.names.lookup x=some .local:=by first | exact .inl rfl | exact .inr rfl | assumption):wpAny M A (storeName X.env x u) Q E s:=
 Qg7 I hN hi hx r (λs' I' _=>h s' I') hf
theorem Inv.call'{s':Shared}{ch:List Addr}(I:Inv X pins σ H s)(ho:s'.os=s.os)(u:Un (frs X.stack) ch H H' s.heap s'.heap)(hok:HOk X.prog X.w H' s'.heap)(hg:QdX s'.gens)
  (hch:∀b∈ch,(b∈X.ex∨X.s₀.heap.objs.size<=b)/\b≠X.env.locals/\(∀x c,X.env.cells.lookup x=some c->c≠b)/\∀p∈X.pn++pins,p.1≠b):Inv X pins σ H' s':=by
 obtain⟨h',g',d',t',o'⟩:=s';have e:o'=s.os:=ho;subst e;exact I.call (g':=g') (t':=t') (d':=d') u hok hg hch
end
abbrev XK:=Value->Option Addr->Hp->Prop
abbrev St:=List (Option V)
abbrev VK:=V->Hp->Prop
abbrev TE:=St->Hp->VK->Prop
abbrev TT:=St->Hp->(Bool->Hp->Prop)->Prop
abbrev TA:=St->Hp->(List V->Hp->Prop)->Prop
structure Ends where
 nx:St->Hp->Prop
 rt:VK
 bk:St->Hp->Prop:=λ_ _=>False
 ct:St->Hp->Prop:=λ_ _=>False
abbrev TS:=Ends->St->Hp->Prop
def EP(X:Cx)(pins:List (Addr×Obj))(σ:St)(Q:VK)(u:Value)(s':Shared):Prop:=∃v H',Inv X pins σ H' s'/\RelV v u/\Q v H'
def TP(X:Cx)(pins:List (Addr×Obj))(σ:St)(Q:Bool->Hp->Prop)(b:Bool)(s':Shared):Prop:=∃H',Inv X pins σ H' s'/\Q b H'
def AP(X:Cx)(pins:List (Addr×Obj))(σ:St)(Q:List V->Hp->Prop)(us:List Value)(s':Shared):Prop:=∃vs H',Inv X pins σ H' s'/\Vals vs us/\Q vs H'
def SP(X:Cx)(pins:List (Addr×Obj))(D:Ends)(f:Flow)(s':Shared):Prop:=
 match f with
 |.next=>∃σ' H',Inv X pins σ' H' s'/\D.nx σ' H'
 |.brk=>∃σ' H',Inv X pins σ' H' s'/\D.bk σ' H'
 |.cont=>∃σ' H',Inv X pins σ' H' s'/\D.ct σ' H'
 |.ret u=>∃v σ' H',Inv X pins σ' H' s'/\RelV v u/\D.rt v H'
def PE(X:Cx)(e:Q2)(t:TE):Prop:=
 ∀(pins:List (Addr×Obj))(s:Shared)(σ:St)(H:Hp)(Q:VK),Inv X pins σ H s->t σ H Q->wpAny (model X.prog X.w) X.A (eval e X.env) (EP X pins σ Q) X.xe s
def PT(X:Cx)(e:Q2)(t:TT):Prop:=
 ∀(pins:List (Addr×Obj))(s:Shared)(σ:St)(H:Hp)(Q:Bool->Hp->Prop),Inv X pins σ H s->t σ H Q->wpAny (model X.prog X.w) X.A (isTrue e X.env (eval e X.env)) (TP X pins σ Q) X.xe s
def PW(X:Cx)(e:Q2)(t:TT):Prop:=
 ∀(whole:Sem Value)(pins:List (Addr×Obj))(s:Shared)(σ:St)(H:Hp)(Q:Bool->Hp->Prop),Inv X pins σ H s->t σ H Q->wpAny (model X.prog X.w) X.A (isTrue e X.env whole) (TP X pins σ Q) X.xe s
theorem PW.pt{X:Cx}{e:Q2}{t:TT}(h:PW X e t):PT X e t:=h _
def PA(X:Cx)(es:List Q2)(t:TA):Prop:=
 ∀(pos:Pos)(pins:List (Addr×Obj))(s:Shared)(σ:St)(H:Hp)(Q:List V->Hp->Prop),Inv X pins σ H s->t σ H Q->wpAny (model X.prog X.w) X.A (spliced (backTo pos (starEach es X.env))) (AP X pins σ Q) X.xe s
def PS(X:Cx)(st:Z4)(t:TS):Prop:=
 ∀(pins:List (Addr×Obj))(s:Shared)(σ:St)(H:Hp)(D:Ends),Inv X pins σ H s->t D σ H->wpAny (model X.prog X.w) X.A (exec st X.env) (SP X pins D) X.xe s
def PSs(X:Cx)(st:List Z4)(t:TS):Prop:=
 ∀(pins:List (Addr×Obj))(s:Shared)(σ:St)(H:Hp)(D:Ends),Inv X pins σ H s->t D σ H->wpAny (model X.prog X.w) X.A (execs st X.env) (SP X pins D) X.xe s
theorem thn{α:Type}{t:Sem α}{Q Q':α->Shared->Prop}{M:Qj2}{A:Q9}{E:Value->Shared->Prop}{s:Shared}(h:wpAny M A t Q E s)(hQ:∀a s,Q a s->Q' a s):wpAny M A t Q' E s:=wpAny_mono h hQ λ_ _ x=>x
section
variable{X:Cx}
def QhW(i:Nat):TE:=λσ H Q=>∃v,σ[i]? = some (some v)/\Q v H
def tC(v:V):TE:=λ_ H Q=>Q v H
theorem Qrw{i:Nat}{x:Str}{pos:Pos}(hN:X.N[i]? = some x)(hv:Vis X.env.scope x)(hd:(x == ("__debug__" : Str))=false:=by decide)(hcd:(x == ("__classdict__" : Str))=false:=by decide):PE X (.Name x pos) (QhW i):=by
 intro pins s σ H Q I h;obtain⟨v,e,h⟩:=h;obtain⟨m,hn,hl⟩:=I.loc;obtain⟨u,r,l⟩:=hl i x v hN e hv;have fin:EP X pins σ Q u s:=⟨v,H,I,r,h⟩;rcases l with⟨hk,hm⟩ | ⟨hk,c,hc,hcell⟩
 ·exact Qxc (wpAny_loadName_local I.ok.kind hk hn hm fin) hd
 ·rcases hk with hk | hk
  ·exact Qxc (wpAny_loadName_cell I.ok.kind hk hc hcell fin) hd
  ·exact Qxc (wpAny_loadName_free I.ok.kind hk hc hcell fin hcd) hd
theorem YQ{i j pos}:PE X (.Constant (.int i) j pos) (tC (.int i)):=λ_ _ _ H _ I h=>wpAny_Constant_int ⟨.int i,H,I.tok _,⟨_,rfl⟩,h⟩
theorem QoM{b j pos}:PE X (.Constant (.bool b) j pos) (tC (.bl b)):=λ_ _ _ H _ I h=>Constant_bool ⟨.bl b,H,I,rfl,h⟩
theorem Qry{j pos}:PE X (.Constant .none j pos) (tC .non):=λ_ _ _ H _ I h=>Constant_none ⟨.non,H,I,rfl,h⟩
theorem QlY{x j pos}:PE X (.Constant (.str x) j pos) (tC (.str x)):=λ_ _ _ H _ I h=>Calls.Constant_str ⟨.str x,H,I.tok _,⟨_,rfl⟩,h⟩
def Gl(X:Cx)(x:Str):Prop:=X.env.kindOf x=some .globalImplicit
theorem Qdv{E:Value->Shared->Prop}{pins:List (Addr×Obj)}{s:Shared}{σ:St}{H:Hp}{x:Str}{u:Value}{pos:Pos}{Q:Value->Shared->Prop}(I:Inv X pins σ H s)(hg:Gl X x)(hm:X.mg x=some u)(h:Q u s)
  (hd:(x == ("__debug__" : Str))=false:=by decide):wpAny (model X.prog X.w) X.A (eval (.Name x pos) X.env) Q E s:=
 QgR I.ok.kind hg (Calls.loadGlobal_global (by rw[I.ok.glob];exact I.mod.glob.keeps I.bk) hm h) hd
theorem QeO{E:Value->Shared->Prop}{pins:List (Addr×Obj)}{s:Shared}{σ:St}{H:Hp}{x:Str}{u:Value}{pos:Pos}{Q:Value->Shared->Prop}(I:Inv X pins σ H s)(hg:Gl X x)(hm:X.mg x=none)(hv:bootBuiltins x=some u)(h:Q u s)
  (hn:x ≠ "__name__" := by decide)(hd:(x == ("__debug__" : Str))=false:=by decide):wpAny (model X.prog X.w) X.A (eval (.Name x pos) X.env) Q E s:=by
 obtain⟨mb,h1,h2⟩:=I.mod.blt;exact QgR I.ok.kind hg (Calls.loadGlobal_builtin (by rw[I.ok.glob];exact I.mod.glob.keeps I.bk) hm (by rw[I.ok.blt];exact h1.keeps I.bk) ((h2 x hn).trans hv) h) hd
theorem Qil{x:Str}{v:V}{u:Value}{pos:Pos}(hg:Gl X x)(hm:X.mg x=some u)(r:RelV v u)(hd:(x == ("__debug__" : Str))=false:=by decide):PE X (.Name x pos) (tC v):=
 λ_ _ _ H _ I h=>Qdv I hg hm ⟨v,H,I,r,h⟩ hd
theorem Qac{x:Str}{v:V}{u:Value}{pos:Pos}(hg:Gl X x)(hm:X.mg x=none)(hv:bootBuiltins x=some u)(r:RelV v u)(hn:x ≠ "__name__" := by decide)(hd:(x == ("__debug__" : Str))=false:=by decide):PE X (.Name x pos) (tC v):=
 λ_ _ _ H _ I h=>QeO I hg hm hv ⟨v,H,I,r,h⟩ hn hd
variable{a b:Q2}{ta tb:TE}{pos:Pos}
def tB(t:TE):TT:=λσ H Q=>t σ H λx H1=>∃c,x=.bl c/\Q c H1
theorem Qhh{e:Q2}{t:TE}(h:PE X e t)(he:∀whole,isTrue e X.env whole=(do let v <- whole;standAt e.pos;holding [v] (truthy v)):=by intro _;rfl):PT X e (tB t):=by
 intro pins s σ H Q I hw;refine isTrue_plain (thn (h pins s σ H _ I hw) λv s1 ⟨x,H1,I1,r1,q1⟩=>?_) (he _);obtain⟨d,rfl,q⟩:=q1;cases r1;exact Yn ⟨H1,I1,q⟩
variable{tA tB':TT}{rest:List Q2}
def tOr(t u:TT):TT:=λσ H Q=>t σ H λc H1=>if c=true then Q true H1 else u σ H1 Q
def Qzv(t:TT):TT:=λσ H Q=>t σ H λc H1=>Q (!c) H1
theorem Qjl(ha:PT X a tA):PW X (.BoolOp .Or [a] pos) tA:=by
 intro wh pins s σ H Q I h;refine isTrue_or (thn (ha pins s σ H Q I h) λc s1 e=>?_);cases c with
 |false=>exact isTrue_or_nil e
 |true=>exact e
theorem QlM(ha:PT X a tA)(hb:PW X (.BoolOp .Or (b::rest) pos) tB'):PW X (.BoolOp .Or (a::b::rest) pos) (tOr tA tB'):=by
 intro wh pins s σ H Q I h;refine isTrue_or (thn (ha pins s σ H _ I h) λc s1 ⟨H1,I1,q1⟩=>?_);cases c with
 |true=>exact⟨H1,I1,q1⟩
 |false=>exact hb wh pins s1 σ H1 Q I1 q1
theorem Qrq(ha:PT X a tA):PT X (.UnaryOp .Not a pos) (Qzv tA):=by
 intro pins s σ H Q I h;exact isTrue_not (ha pins s σ H (λc H1=>Q (!c) H1) I h)
def QxN(ta tb:TE):TE:=λσ H Q=>ta σ H λx H1=>∃c,x=.bl c/\if c=true then tb σ H1 Q else Q (.bl false) H1
def QxJ(ta:TE):TE:=λσ H Q=>ta σ H λx H1=>∃c,x=.bl c/\Q (.bl (!c)) H1
theorem Qhj{op}{t:TE}(h:PE X a t):PE X (.BoolOp op [a] pos) t:=λpins s σ H Q I hw=>BoolOp_one (h pins s σ H Q I hw)
theorem Qhk(ha:PE X a ta)(hb:PE X (.BoolOp .And (b::rest) pos) tb):PE X (.BoolOp .And (a::b::rest) pos) (QxN ta tb):=by
 intro pins s σ H Q I h;refine BoolOp_and (thn (ha pins s σ H _ I h) λv s1 ⟨x,H1,I1,r1,q1⟩=>?_);obtain⟨c,rfl,q1⟩:=q1;cases r1;refine Yn ?_
 cases c with
 |true=>exact hb pins s1 σ H1 Q I1 q1
 |false=>exact⟨.bl false,H1,I1,rfl,q1⟩
theorem Qrx(ha:PE X a ta):PE X (.UnaryOp .Not a pos) (QxJ ta):=by
 intro pins s σ H Q I h;refine UnaryOp_ (thn (ha pins s σ H _ I h) λv s1 ⟨x,H1,I1,r1,q1⟩=>?_);obtain⟨c,rfl,q1⟩:=q1;cases r1;exact not_of (Yn ⟨.bl (!c),H1,I1,rfl,q1⟩)
def tIf(t:TT)(ta tb:TE):TE:=λσ H Q=>t σ H λc H1=>if c=true then ta σ H1 Q else tb σ H1 Q
theorem QoI{c:Q2}(hc:PT X c tA)(ha:PE X a ta)(hb:PE X b tb):PE X (.IfExp c a b pos) (tIf tA ta tb):=by
 intro pins s σ H Q I h;refine wpAny_IfExp (thn (hc pins s σ H _ I h) λd s1 ⟨H1,I1,q1⟩=>?_);cases d with
 |true=>exact ha pins s1 σ H1 Q I1 q1
 |false=>exact hb pins s1 σ H1 Q I1 q1
end
def SqL(K:PySem.W.Frag)(H:Hp)(a:Addr)(xs:List V):Prop:=
 Rd H a (.lst xs) ∨
  ∃(o:Obj)(its:Array Value)(n:Nat),K.lookup a=some o/\o.cls=.type "list" /\ o.dict=none/\o.data=.seq its n/\its.size<=sizeLine/\Vals xs its.toList
def SqT(K:PySem.W.Frag)(H:Hp)(a:Addr)(xs:List V):Prop:=
 Rd H a (.tup xs) ∨
  ∃(o:Obj)(its:Array Value)(n:Nat),K.lookup a=some o/\o.cls=.type "tuple" /\ o.data=.seq its n/\its.size<=sizeLine/\Vals xs its.toList
def Qz4:Value->Option V
 |.none=>some .non
 |.bool b=>some (.bl b)
 |.int i _=>some (.int i)
 |.str x _=>some (.str x)
 |.bytes b _=>some (.byt b)
 |.float b _=>some (.flt b)
 |.ref a=>some (.ref a)
 |.type n=>some (.ty n)
 |_=>none
theorem RelV.abs{x:V}{u:Value}(r:RelV x u):Qz4 u=some x:=by
 cases x with
 |non=>cases r;rfl
 |bl _=>cases r;rfl
 |int _=>obtain⟨t,rfl⟩:=r;rfl
 |str _=>obtain⟨t,rfl⟩:=r;rfl
 |byt _=>obtain⟨t,rfl⟩:=r;rfl
 |flt _=>obtain⟨t,rfl⟩:=r;rfl
 |ref _=>cases r;rfl
 |ty _=>cases r;rfl
theorem RelV.inj{x y:V}{u:Value}(r:RelV x u)(q:RelV y u):x=y:=Qy (r.abs.symm.trans q.abs)
theorem Vals.inj:∀{xs ys:List V}{us:List Value},Vals xs us->Vals ys us->xs=ys
 |_,_,_,.nil,.nil=>rfl
 |_,_,_,.cons r t,.cons r' t'=>by rw[r.inj r',Vals.inj t t']
section
variable{X:Cx}{pins:List (Addr×Obj)}{σ:St}{H:Hp}{s:Shared}{a:Addr}{xs ys:List V}
theorem SqL.of{K:PySem.W.Frag}(h:H a=some (.lst xs)):SqL K H a xs:=.inl (.inl h)
theorem SqT.of{K:PySem.W.Frag}(h:H a=some (.tup xs)):SqT K H a xs:=.inl (.inl h)
theorem Inv.list(I:Inv X pins σ H s)(h:SqL X.K H a xs):∃its:List Value,Vals xs its/\PlainL s.heap a its.toArray/\xs.length<=sizeLine:=by
 rcases h with h | ⟨o,its,n,hk,hc,hd,hs,hz,r⟩
 ·obtain⟨z,its,n,r,e⟩:=h.ok I.hok;exact⟨its,r,⟨_,n,e,rfl,rfl,rfl⟩,z⟩
 ·refine⟨its.toList,r,⟨o,n,I.kIn a o hk,hc,hd,by simpa using hs⟩,?_⟩;have e:=r.length;simp only[Qq] at e;omega
theorem Inv.tuple(I:Inv X pins σ H s)(h:SqT X.K H a xs):∃its:List Value,Vals xs its/\IsTup s.heap a its.toArray/\xs.length<=sizeLine:=by
 rcases h with h | ⟨o,its,n,hk,hc,hs,hz,r⟩
 ·obtain⟨z,its,r,p⟩:=h.ok I.hok;exact⟨its,r,p,z⟩
 ·refine⟨its.toList,r,⟨o,I.kIn a o hk,hc,n,by simpa using hs⟩,?_⟩;have e:=r.length;simp only[Qq] at e;omega
theorem Inv.list_inj(I:Inv X pins σ H s)(h:SqL X.K H a xs)(h':SqL X.K H a ys):xs=ys:=by
 obtain⟨its,r,⟨o,n,e,_,_,d⟩,_⟩:=I.list h;obtain⟨its',r',⟨o',n',e',_,_,d'⟩,_⟩:=I.list h';rw[e] at e';cases e';rw[d] at d';injection d' with d1 _
 have:its=its':=by simpa using congrArg QwZ d1
 subst this;exact r.inj r'
theorem Inv.tuple_inj(I:Inv X pins σ H s)(h:SqT X.K H a xs)(h':SqT X.K H a ys):xs=ys:=by
 obtain⟨its,r,⟨o,e,_,n,d⟩,_⟩:=I.tuple h;obtain⟨its',r',⟨o',e',_,n',d'⟩,_⟩:=I.tuple h';rw[e] at e';cases e';rw[d] at d';injection d' with d1 _
 have:its=its':=by simpa using congrArg QwZ d1
 subst this;exact r.inj r'
end
abbrev Cx.wish (X:Cx) (E:Value->Shared->Prop):Cx:={ X with xe:=E }
abbrev Cx.nox (X:Cx):Cx:=X.wish λ_ _=>False
theorem Cx.Ok.wish{X:Cx}(ok:X.Ok)(E:Value->Shared->Prop):(X.wish E).Ok:=
 ⟨ok.mod,ok.kind,ok.glob,ok.blt,ok.above,ok.inj,ok.has,ok.cab,ok.hd,ok.frames,ok.stk,ok.exf,ok.bs,ok.bsz,ok.noex,ok.exfs,ok.funs,ok.frf⟩
theorem Cx.Ok.unwish{X:Cx}{E:Value->Shared->Prop}(ok:(X.wish E).Ok):X.Ok:=
 ⟨ok.mod,ok.kind,ok.glob,ok.blt,ok.above,ok.inj,ok.has,ok.cab,ok.hd,ok.frames,ok.stk,ok.exf,ok.bs,ok.bsz,ok.noex,ok.exfs,ok.funs,ok.frf⟩
section
variable{X:Cx}{pins:List (Addr×Obj)}{σ:St}{H:Hp}{s:Shared}{E:Value->Shared->Prop}
theorem Inv.wish(I:Inv X pins σ H s)(E:Value->Shared->Prop):Inv (X.wish E) pins σ H s:=⟨I.ok.wish E,I.os,I.bare,I.base,I.loc,I.cell,I.free,I.freeC,I.pin,I.hok,I.len⟩
theorem Inv.unwish(I:Inv (X.wish E) pins σ H s):Inv X pins σ H s:=⟨I.ok.unwish,I.os,I.bare,I.base,I.loc,I.cell,I.free,I.freeC,I.pin,I.hok,I.len⟩
theorem SP.unwish{D:Ends}{f:Flow}{s':Shared}(h:SP (X.wish E) pins D f s'):SP X pins D f s':=by
 cases f with
 |next=>obtain⟨σ',H',I,q⟩:=h;exact⟨σ',H',I.unwish,q⟩
 |brk=>obtain⟨σ',H',I,q⟩:=h;exact⟨σ',H',I.unwish,q⟩
 |cont=>obtain⟨σ',H',I,q⟩:=h;exact⟨σ',H',I.unwish,q⟩
 |ret u=>obtain⟨v,σ',H',I,r,q⟩:=h;exact⟨v,σ',H',I.unwish,r,q⟩
theorem PE.nox{e:Q2}{t:TE}(h:PE X.nox e t):PE X e t:=λpins s σ H Q I hw=>
 wpAny_mono (h pins s σ H Q (I.wish _) hw) (λ_ _ ⟨v,H',I',r,q⟩=>⟨v,H',I'.unwish,r,q⟩) λ_ _ z=>Jx z
theorem PT.nox{e:Q2}{t:TT}(h:PT X.nox e t):PT X e t:=λpins s σ H Q I hw=>
 wpAny_mono (h pins s σ H Q (I.wish _) hw) (λ_ _ ⟨H',I',q⟩=>⟨H',I'.unwish,q⟩) λ_ _ z=>Jx z
theorem PSs.nox{st:List Z4}{t:TS}(h:PSs X.nox st t):PSs X st t:=λpins s σ H D I hw=>
 wpAny_mono (h pins s σ H D (I.wish _) hw) (λ_ _ q=>q.unwish) λ_ _ z=>Jx z
end
section
variable{X:Cx}{st:Z4}{rest:List Z4}{t u:TS}{e:Q2}{te:TE}{pos:Pos}
def QxK:TS:=λD σ H=>D.nx σ H
def Qzs(t u:TS):TS:=λD σ H=>t { D with nx:=u D } σ H
theorem Qcy:PSs X [] QxK:=λ_ _ σ H _ I h=>QaA ⟨σ,H,I,h⟩
theorem ZC(h1:PS X st t)(h2:PSs X rest u):PSs X (st::rest) (Qzs t u):=by
 intro pins s σ H D I h;refine Qbr (thn (h1 pins s σ H { D with nx:=u D } I h) λf s1 q=>?_);cases f with
 |next=>
  obtain⟨σ',H',I',q⟩:=q;exact h2 pins s1 σ' H' D I' q
 |ret v=>exact q
 |brk=>exact q
 |cont=>exact q
theorem Qab(h1:PS X st t):PSs X [st] t:=by
 intro pins s σ H D I h;refine Qbr (thn (h1 pins s σ H D I h) λf s1 q=>?_);cases f with
 |next=>exact QaA q
 |ret v=>exact q
 |brk=>exact q
 |cont=>exact q
theorem Inv.quiet{pins:List (Addr×Obj)}{σ:St}{H:Hp}{s:Shared}(I:Inv X pins σ H s):interactive X.env=false:=by simp[interactive,I.ok.kind]
def Qlb(te:TE):TS:=λD σ H=>te σ H λ_ H1=>D.nx σ H1
theorem Qgg(he:PE X e te)(hs:swapsWith e none pos.line X.env=pure false:=by rfl):PS X (.Expr e pos) (Qlb te):=by
 intro pins s σ H D I h;exact wpAny_Expr_any (thn (he pins s σ H _ I h) λv s1 ⟨x,H1,I1,r1,q1⟩=>⟨σ,H1,I1,q1⟩) I.quiet hs
def Qzu(te:TE):TS:=λD σ H=>te σ H D.rt
theorem Qba(he:PE X e te):PS X (.Return (some e) pos) (Qzu te):=by
 intro pins s σ H D I h;exact QgU (thn (he pins s σ H _ I h) λv s1 ⟨x,H1,I1,r1,q1⟩=>⟨x,σ,H1,I1,r1,q1⟩)
def Qzy(c:TT)(t u:TS):TS:=λD σ H=>c σ H λb H1=>if b=true then t D σ H1 else u D σ H1
theorem Qik{c:Q2}{a b:List Z4}{tc:TT}(hc:PT X c tc)(ha:PSs X a t)(hb:PSs X b u):PS X (.If c a b pos) (Qzy tc t u):=by
 intro pins s σ H D I h;refine wpAny_If (thn (hc pins s σ H _ I h) λd s1 ⟨H1,I1,q1⟩=>?_);cases d with
 |true=>exact ha pins s1 σ H1 D I1 q1
 |false=>exact hb pins s1 σ H1 D I1 q1
end
abbrev TG:=V->St->Hp->(St->Hp->Prop)->Prop
abbrev TGs:=List V->St->Hp->(St->Hp->Prop)->Prop
def PG(X:Cx)(target:Q2)(t:TG):Prop:=
 ∀(pins:List (Addr×Obj))(s:Shared)(σ:St)(H:Hp)(v:V)(u:Value)(Q:St->Hp->Prop),Inv X pins σ H s->RelV v u->t v σ H Q ->
  wpAny (model X.prog X.w) X.A (assign target X.env u) (λ_ s'=>∃σ' H',Inv X pins σ' H' s'/\Q σ' H') X.xe s
def PGs(X:Cx)(ts:List Q2)(t:TGs):Prop:=
 ∀(pins:List (Addr×Obj))(s:Shared)(σ:St)(H:Hp)(vs:List V)(us:List Value)(Q:St->Hp->Prop),Inv X pins σ H s->Vals vs us->t vs σ H Q ->
  wpAny (model X.prog X.w) X.A (assignInOrder ((assignEach ts X.env).map (·.2)) us) (λ_ s'=>∃σ' H',Inv X pins σ' H' s'/\Q σ' H') X.xe s
abbrev TSet:=V->V->V->Hp->(Hp->Prop)->Prop
def Qzm(X:Cx)(t:TSet):Prop:=
 ∀(pins:List (Addr×Obj))(s:Shared)(σ:St)(H:Hp)(o i v:V)(ov iv u:Value)(Q:Hp->Prop),Inv X pins σ H s->RelV o ov->RelV i iv->RelV v u->t o i v H Q ->
  wpAny (model X.prog X.w) X.A (setItem ov iv u) (λ_ s'=>∃H',Inv X pins σ H' s'/\Q H') X.xe s
section
variable{X:Cx}{pos:Pos}
def QeR(i:Nat):TG:=λv σ H Q=>Q (σ.set i (some v)) H
theorem QeD{i:Nat}{x:Str}(hN:X.N.Nodup)(hi:X.N[i]? = some x)(hx:Loc X.env.scope x)(hf:X.fn x=true∨X.env.scope.names.lookup x=some .local:=by first | exact .inl rfl | exact .inr rfl | assumption):PG X (.Name x pos) (QeR i):=by
 intro pins s σ H v u Q I r h;exact Qxb (Qf4 I hN hi hx r (λs' I'=>⟨_,H,I',h⟩) hf)
def Qyt:TGs:=λvs σ H Q=>vs=[]/\Q σ H
def QpH(t:TG)(u:TGs):TGs:=λvs σ H Q=>∃v r,vs=v::r/\t v σ H λσ' H'=>u r σ' H' Q
theorem QlV:PGs X [] Qyt:=by
 intro pins s σ H vs us Q I r h;obtain⟨e,h⟩:=h;subst e;cases r;exact assignInOrder_nil ⟨σ,H,I,h⟩
theorem Qgh{e:Q2}{es:List Q2}{t:TG}{u:TGs}(h1:PG X e t)(h2:PGs X es u)
  (hs:(assignEach (e::es) X.env).map (·.2)=assign e X.env::(assignEach es X.env).map (·.2):=by rfl):PGs X (e::es) (QpH t u):=by
 intro pins s σ H vs us Q I r h;obtain⟨v,vr,e1,h⟩:=h;subst e1;cases r with
 |cons r rr=>
  rw[hs];refine assignInOrder_cons (thn (h1 pins s σ H _ _ _ I r h) λ_ s1 ⟨σ1,H1,I1,q1⟩=>?_);exact h2 pins s1 σ1 H1 _ _ Q I1 rr q1
def Qys(K:PySem.W.Frag)(n:Nat)(t:TGs):TG:=λv σ H Q=>∃a xs,v=.ref a/\SqT K H a xs/\xs.length=n/\t xs σ H Q
theorem Qru{es:List Q2}{k:Nat}{t:TGs}{n:Nat}(hc:X.calm=true)(h:PGs X es t)
  (hn:(assignEach es X.env).length=n:=by rfl)(hst:(assignEach es X.env).findIdx? (·.1)=none:=by rfl):PG X (.Tuple es k pos) (Qys X.K n t):=by
 intro pins s σ H v u Q I r hw;obtain⟨a,xs,e1,hq,hl,hw⟩:=hw;subst e1;cases r;obtain⟨its,rv,ht,hz⟩:=I.tuple hq;refine assign_Tuple_tuple (I.ok.hd hc) ht (by simp[hn,<- hl,rv.length]) hst λh' hx=>?_
 have I1:Inv X pins σ H { s with heap:=h' }:=I.kept (t':=s.toks) λb o e=>hx b o (QJ (Qs e)) e
 exact h pins _ σ H xs _ Q I1 (by simpa using rv) hw
def gSub(to ti:TE)(t:TSet):TG:=λv σ H Q=>to σ H λo H1=>ti σ H1 λi H2=>t o i v H2 λH3=>Q σ H3
theorem Qrv{o i:Q2}{to ti:TE}{t:TSet}(ho:PE X o to)(hi:PE X i ti)(hs:Qzm X t)
  (ha:∀v,assign (.Subscript o i pos) X.env v=(do
   let ov <- holding [v] (eval o X.env)
   let iv <- holding [v,ov] (eval i X.env)
   standAt pos
   holding [v,ov,iv] (setItem ov iv v)
   release [v,ov,iv] []):=by intro _;rfl):PG X (.Subscript o i pos) (gSub to ti t):=by
 intro pins s σ H v u Q I r h;rw[ha];refine wpAny_bind (J7 (thn (ho pins s σ H _ I h) λov s1 ⟨x,H1,I1,r1,q1⟩=>?_));refine wpAny_bind (J7 (thn (hi pins s1 σ H1 _ I1 q1) λiv s2 ⟨y,H2,I2,r2,q2⟩=>?_));refine wpAny_bind (wpAny_standAt (wpAny_bind (J7 (thn (hs pins s2 σ H2 x y v ov iv u _ I2 r1 r2 r q2) λ_ s3 ⟨H3,I3,q3⟩=>?_))));exact wpAny_release ⟨σ,H3,I3,q3⟩
def Qof(te:TE)(g:TG):TS:=λD σ H=>te σ H λx H1=>g x σ H1 D.nx
theorem QlQ{tg e:Q2}{te:TE}{g:TG}(he:PE X e te)(hg:PG X tg g)(hs:swapsWithSole [tg] e pos.line X.env=pure false:=by rfl)(hw:swappedStores [tg] e X.env=pure none:=by rfl)
  (h1:(assignEach [tg] X.env).map (·.2)=[assign tg X.env]:=by rfl):PS X (.Assign [tg] e pos) (Qof te g):=by
 intro pins s σ H D I h;refine wpAny_Assign_stores (thn (he pins s σ H _ I h) λv s1 ⟨x,H1,I1,r1,q1⟩=>?_) hs hw;rw[h1];exact thn (hg pins s1 σ H1 x v _ I1 r1 q1) λ_ s2 q=>q
theorem QaQ{i:Nat}{x:Str}{e:Q2}{te:TE}{pos':Pos}(hN:X.N.Nodup)(hi:X.N[i]? = some x)(hx:Loc X.env.scope x)(he:PE X e te)(hs:swapsWith e (some (.Name x pos')) pos.line X.env=pure false:=by rfl)(hf:X.fn x=true∨X.env.scope.names.lookup x=some .local:=by first | exact .inl rfl | exact .inr rfl | assumption) :
  PS X (.Assign [.Name x pos'] e pos) (Qof te (QeR i)):=by
 intro pins s σ H D I h;refine wpAny_Assign_Name (thn (he pins s σ H _ I h) λv s1 ⟨y,H1,I1,r1,q1⟩=>?_) hs;exact Qf4 I1 hN hi hx r1 (λs2 I2=>⟨_,H1,I2,q1⟩) hf
end
section
variable{X:Cx}{pos:Pos}
end
structure It where
 go:Nat->Hp->Prop
 yld:Nat->Hp->V->Hp->Prop
 stop:Nat->Hp->Prop
def FpOk(X:Cx)(pins:List (Addr×Obj))(H:Hp)(b:Addr):Prop:=
 H b=none/\b≠X.env.locals/\b∉X.fs/\(b∈X.ex∨X.s₀.heap.objs.size<=b)/\(∀x c,X.env.cells.lookup x=some c->c≠b)/\∀p∈X.pn++pins,p.1≠b
theorem Inv.fpOk{X:Cx}{pins:List (Addr×Obj)}{σ:St}{H H':Hp}{s:Shared}{b:Addr}(I:Inv X pins σ H s)(hb:s.heap.objs.size<=b)(hn:H' b=none):FpOk X pins H' b:=by
 refine⟨hn,QcN (QL I.lt hb),I.nofs hb,.inr (Jc I.sz hb),λx c e z=>?_,λp hp z=>?_⟩
 ·obtain⟨v,q⟩:=I.cell x c e;exact absurd (QL q.lt (by rw[z];exact hb)) (Yq _)
 ·exact absurd (QL (Qs (I.pin p hp).1) (by rw[z];exact hb)) (Yq _)
structure Turn (P:QB) (w:Jl) (K:PySem.W.Frag) (tg:Q2) (J:It) (fp:List Addr) (it:Addr) (tn:Nat->Za->Prop):Prop where
 mem:it∈fp
 obj:∀i h,tn i h->∀b∈fp,∃o,h.get? b=some o/\∀v,o.data≠.cell v
 keep:∀i h h',tn i h->(∀b∈fp,∀o,h.get? b=some o->h'.get? b=some o)->tn i h'
 item:∀(X:Cx),X.prog=P->X.w=w->X.K=K->X.calm=true->∀(i:Nat)(pins:List (Addr×Obj))(s:Shared)(σ:St)(H:Hp)(E:Value->Shared->Prop),Inv X pins σ H s->(∀b∈fp,FpOk X pins H b)->tn i s.heap->J.go i H ->
  wpAny (model P w) X.A (pyNext (.ref it)) (λr s1=>∃u,r=some u /\
   wpAny (model P w) X.A (letOwnedTupleGo tg (.ref it) u) (λ_ s2=>∃x H',Inv X pins σ H' s2/\RelV x u/\J.yld i H x H'/\tn (i+1) s2.heap/\∀b∈fp,H' b=none) E s1) E s
 done:∀(X:Cx),X.prog=P->X.w=w->X.K=K->X.calm=true->∀(i:Nat)(pins:List (Addr×Obj))(s:Shared)(σ:St)(H:Hp)(E:Value->Shared->Prop),Inv X pins σ H s->(∀b∈fp,FpOk X pins H b)->tn i s.heap->J.stop i H ->
  wpAny (model P w) X.A (pyNext (.ref it)) (λr s1=>r=none/\Inv X pins σ H s1) E s
 self:∀(A:Q9)(i:Nat)(s:Shared)(Q:Value->Shared->Prop)(E:Value->Shared->Prop),tn i s.heap->Q (.ref it) s->wpAny (model P w) A (pyIter (.ref it)) Q E s
abbrev TI:=St->Hp->(It->Hp->Prop)->Prop
def PIE(X:Cx)(pins:List (Addr×Obj))(σ:St)(tg:Q2)(R:It->Hp->Prop)(itv:Value)(s2:Shared):Prop:=
 ∃(it:Addr)(fp:List Addr)(tn:Nat->Za->Prop)(J:It)(H':Hp),itv=.ref it/\Inv X pins σ H' s2/\Turn X.prog X.w X.K tg J fp it tn/\tn 0 s2.heap/\(∀b∈fp,FpOk X pins H' b)/\R J H'
def PI(X:Cx)(tg iter:Q2)(wi:TI):Prop:=
 ∀(pins:List (Addr×Obj))(s:Shared)(σ:St)(H:Hp)(R:It->Hp->Prop),Inv X pins σ H s->wi σ H R ->
  wpAny (model X.prog X.w) X.A (eval iter X.env) (λv s1=>wpAny (model X.prog X.w) X.A (pyIter v) (PIE X pins σ tg R) X.xe s1) X.xe s
theorem QtK{M:Qj2}{A:Q9}{E:Value->Shared->Prop}{s:Shared}{tg:Q2}{it:Addr}{u:Value}{o:Obj}{n:String}{vs:Array Value}{Q:Unit->Shared->Prop}(ho:s.heap.get? it=some o)(hc:o.cls=.type n)(hd:o.data=.fields vs)
  (hn:["enumerate", "zip", "dict_itemiterator", "dict_reverseitemiterator", "odict_iterator", "itertools.zip_longest", "itertools.pairwise"].contains n=false)(hQ:Q () s):wpAny M A (letOwnedTupleGo tg (.ref it) u) Q E s:=by
 unfold letOwnedTupleGo;cases tg<;>first
  |exact Qg hQ
  |(cases u<;>first
    |exact Qg hQ
    |(refine wpAny_bind (wpAny_load ho ?_)
      rw[hc,hd];show wpAny M A (if(["enumerate", "zip", "dict_itemiterator", "dict_reverseitemiterator", "odict_iterator", "itertools.zip_longest", "itertools.pairwise"].contains n&&vs[0]? == some (rawInt _))=true then _ else _) Q E s;rw[if_neg (by intro h;rw[hn,Y7] at h;cases h)];exact Qg hQ))
def Itl(K:PySem.W.Frag)(a:Addr):It:=
 ⟨λi H=>∃xs x,SqL K H a xs/\xs[i]? = some x,λi H x H'=>H'=H/\∀xs,SqL K H a xs->xs[i]? = some x,λi H=>∃xs,SqL K H a xs/\xs.length<=i⟩
def Itt(K:PySem.W.Frag)(a:Addr):It:=
 ⟨λi H=>∃xs x,SqT K H a xs/\xs[i]? = some x,λi H x H'=>H'=H/\∀xs,SqT K H a xs->xs[i]? = some x,λi H=>∃xs,SqT K H a xs/\xs.length<=i⟩
def Itr(lo:Int)(n:Nat):It:=⟨λi _=>i<n,λi H x H'=>H'=H/\x=.int (lo+i),λi _=>n<=i⟩
theorem Qk9{P:QB}{w:Jl}{K:PySem.W.Frag}{tg:Q2}(a it:Addr):Turn P w K tg (Itl K a) [it] it (λi h=>h.IsListIter it a i) where
 mem:=by simp
 obj:=λi h st b hb=>by
  have e:b=it:=by simpa using hb
  subst e;obtain⟨o,e,c,d⟩:=st;exact⟨o,e,λv z=>by rw[d] at z;cases z⟩
 keep:=λi h h' st k=>st.at λo e=>k it (by simp) o e
 item:=by
  intro X hP hw hK hc i pins s σ H E I hf st hg;subst hP hw hK;obtain⟨xs,x,hq,hx⟩:=hg;obtain⟨its,rv,p,hz⟩:=I.list hq;obtain⟨u,hu,ru⟩:=rv.get hx;obtain⟨f0,f1,f2,f3,f4,f5⟩:=hf it (by simp);refine wpAny_pyNext_list_item st p.isList (x:=u) (by simpa using hu) λh' st' sb=>?_
  have I1:Inv X pins σ H { s with heap:=h' }:=I.turned (t':=s.toks) (λb o hb e=>(sb.2 b hb).trans e) f0 f1 f3 f4 f5;obtain⟨o,e,c,d⟩:=id st';exact⟨u,rfl,QtK (s:={ s with heap:=h' }) e c d (by decide) ⟨x,H,I1,ru,⟨rfl,λys hy=>by rw[I.list_inj hy hq];exact hx⟩,st',λb hb=>(hf b hb).1⟩⟩
 done:=by
  intro X hP hw hK hc i pins s σ H E I hf st hg;subst hP hw hK;obtain⟨xs,hq,hx⟩:=hg;obtain⟨its,rv,p,hz⟩:=I.list hq;obtain⟨f0,f1,f2,f3,f4,f5⟩:=hf it (by simp);have hl:=rv.length;exact wpAny_pyNext_list_end (I.ok.hd hc) st p.isList (by simp;omega) λh' eb=>⟨rfl,I.turned (t':=s.toks) (λb o hb e=>eb b o hb e) f0 f1 f3 f4 f5⟩
 self:=λ_ _ _ _ _ st h=>wpAny_pyIter_listiter st h
theorem Qj8{P:QB}{w:Jl}{K:PySem.W.Frag}{tg:Q2}(a it:Addr):Turn P w K tg (Itt K a) [it] it (λi h=>h.IsTupleIter it a i) where
 mem:=by simp
 obj:=λi h st b hb=>by
  have e:b=it:=by simpa using hb
  subst e;obtain⟨o,e,c,d⟩:=st;exact⟨o,e,λv z=>by rw[d] at z;cases z⟩
 keep:=λi h h' st k=>st.at λo e=>k it (by simp) o e
 item:=by
  intro X hP hw hK hc i pins s σ H E I hf st hg;subst hP hw hK;obtain⟨xs,x,hq,hx⟩:=hg;obtain⟨its,rv,p,hz⟩:=I.tuple hq;obtain⟨u,hu,ru⟩:=rv.get hx;obtain⟨f0,f1,f2,f3,f4,f5⟩:=hf it (by simp);refine wpAny_pyNext_tuple_item st (show s.heap.IsTuple a its.toArray from p) (x:=u) (by simpa using hu) λh' st' sb=>?_
  have I1:Inv X pins σ H { s with heap:=h' }:=I.turned (t':=s.toks) (λb o hb e=>(sb.2 b hb).trans e) f0 f1 f3 f4 f5;obtain⟨o,e,c,d⟩:=id st';exact⟨u,rfl,QtK (s:={ s with heap:=h' }) e c d (by decide) ⟨x,H,I1,ru,⟨rfl,λys hy=>by rw[I.tuple_inj hy hq];exact hx⟩,st',λb hb=>(hf b hb).1⟩⟩
 done:=by
  intro X hP hw hK hc i pins s σ H E I hf st hg;subst hP hw hK;obtain⟨xs,hq,hx⟩:=hg;obtain⟨its,rv,p,hz⟩:=I.tuple hq;obtain⟨f0,f1,f2,f3,f4,f5⟩:=hf it (by simp);have hl:=rv.length;exact wpAny_pyNext_tuple_end (I.ok.hd hc) st (show s.heap.IsTuple a its.toArray from p) (by simp;omega) λh' eb=>⟨rfl,I.turned (t':=s.toks) (λb o hb e=>eb b o hb e) f0 f1 f3 f4 f5⟩
 self:=λ_ _ _ _ _ st h=>wpAny_pyIter_tupleiter st h
theorem Qj9{P:QB}{w:Jl}{K:PySem.W.Frag}{tg:Q2}(it:Addr)(lo:Int)(n:Nat):Turn P w K tg (Itr lo n) [it] it (λi h=>IsRangeIter h it (lo+(i:Nat)*1) ((n:Int) - (i:Nat)) 1) where
 mem:=by simp
 obj:=λi h st b hb=>by
  have e:b=it:=by simpa using hb
  subst e;exact⟨_,st,λv z=>by
   have z':Data.fields _=Data.cell v:=z;cases z'⟩
 keep:=λi h h' st k=>k it (by simp) _ st
 item:=by
  intro X hP hw hK hc i pins s σ H E I hf st hg;subst hP hw hK;obtain⟨f0,f1,f2,f3,f4,f5⟩:=hf it (by simp);have W:=Walks.range (prog:=X.prog) (w:=X.w) (I.ok.hd hc) it lo 1 n;refine W.item i s _ _ hg st λv h' tk hv st' kk=>?_
  obtain⟨t,rfl⟩:=hv;have I1:Inv X pins σ H { s with heap:=h',toks:=tk }:=I.turned (λb o hb e=>kk b o (by simpa using hb) e) f0 f1 f3 f4 f5;refine⟨_,rfl,QtK (s:={ s with heap:=h',toks:=tk }) (n := "range_iterator") st' rfl rfl (by decide) ⟨.int (lo+i),H,I1,⟨t,?_⟩,⟨rfl,rfl⟩,st',λb hb=>(hf b hb).1⟩⟩;rw[Int.mul_one]
 done:=by
  intro X hP hw hK hc i pins s σ H E I hf st hg;subst hP hw hK;obtain⟨f0,f1,f2,f3,f4,f5⟩:=hf it (by simp);exact wpAny_pyNext_range_end (I.ok.hd hc) st (by have:n<=i:=hg;omega) λh' eb=>⟨rfl,I.turned (t':=s.toks) (λb o hb e=>eb b o hb e) f0 f1 f3 f4 f5⟩
 self:=λ_ _ _ _ _ st h=>wpAny_pyIter_rangeiter st h
section
variable{X:Cx}{tg:Q2}
def Qyq(K:PySem.W.Frag)(tl:TE):TI:=λσ H R=>tl σ H λx H1=>∃a,x=.ref a/\(∃xs,SqL K H1 a xs)/\R (Itl K a) H1
def QzV(K:PySem.W.Frag)(tl:TE):TI:=λσ H R=>tl σ H λx H1=>∃a,x=.ref a/\(∃xs,SqT K H1 a xs)/\R (Itt K a) H1
theorem QsH{l:Q2}{tl:TE}(hl:PE X l tl):PI X tg l (Qyq X.K tl):=by
 intro pins s σ H R I h;refine thn (hl pins s σ H _ I h) λv s1 ⟨x,H1,I1,r1,q1⟩=>?_
 obtain⟨a,e,⟨xs,hq⟩,q⟩:=q1;subst e;cases r1;obtain⟨its,rv,p,hz⟩:=I1.list hq;refine Qw9 p.isList ?_
 refine⟨s1.heap.objs.size,[s1.heap.objs.size],_,_,H1,rfl,I1.kept (t':=s1.toks) λb o e=>Qf _ e,Qk9 a _,⟨_,QP _ rfl,rfl,rfl⟩,λb hb=>?_,q⟩;have e:b=s1.heap.objs.size:=by simpa using hb
 subst e;exact I1.fpOk (Qk _) (I1.hok.fresh (Qk _))
theorem Qvc{l:Q2}{tl:TE}(hl:PE X l tl):PI X tg l (QzV X.K tl):=by
 intro pins s σ H R I h;refine thn (hl pins s σ H _ I h) λv s1 ⟨x,H1,I1,r1,q1⟩=>?_
 obtain⟨a,e,⟨xs,hq⟩,q⟩:=q1;subst e;cases r1;obtain⟨its,rv,p,hz⟩:=I1.tuple hq;refine QfM (show s1.heap.IsTuple a its.toArray from p) ?_
 refine⟨s1.heap.objs.size,[s1.heap.objs.size],_,_,H1,rfl,I1.kept (t':=s1.toks) λb o e=>Qf _ e,Qj8 a _,⟨_,QP _ rfl,rfl,rfl⟩,λb hb=>?_,q⟩;have e:b=s1.heap.objs.size:=by simpa using hb
 subst e;exact I1.fpOk (Qk _) (I1.hok.fresh (Qk _))
theorem Qou{pins:List (Addr×Obj)}{σ:St}{H:Hp}{s:Shared}{R:It->Hp->Prop}{E:Value->Shared->Prop}{lo hi:Int}{t u v:Tok}{tk:Nat}(I:Inv X pins σ H s)(h1 : -(2^62)<=lo)(h2:lo<2^62)(h3 : -(2^62)<=hi)(h4:hi<2^62)
  (q:R (Itr lo (hi - lo).toNat) H):wpAny (model X.prog X.w) X.A (pyIter (.ref s.heap.objs.size)) (PIE X pins σ tg R) E { s with heap:=s.heap.push { cls:=.type "range",data:=.fields #[.int lo t,.int hi u,.int 1 v] },toks:=tk }:=by
 refine wpAny_pyIter_range (IsRange.new ..) (small_one h1 h2 h3 h4) ?_
 have I1:Inv X pins σ H { s with heap:=s.heap.push { cls:=.type "range",data:=.fields #[.int lo t,.int hi u,.int 1 v] },toks:=tk }:=I.kept λb o e=>Qf _ e
 refine⟨(s.heap.push { cls:=.type "range",data:=.fields #[.int lo t,.int hi u,.int 1 v] }).objs.size,[(s.heap.push { cls:=.type "range",data:=.fields #[.int lo t,.int hi u,.int 1 v] }).objs.size],_,_,H,rfl,
  I1.kept (t':=tk) λb o e=>Qf _ e,Qj9 _ lo (hi - lo).toNat,?_,λb hb=>?_,q⟩
 ·have e1:lo+((0:Nat):Int)*1=lo:=by simp
  have e2:(((hi - lo).toNat:Nat):Int) - ((0:Nat):Int)=Qeo lo hi 1:=by rw[rangeSize_one];split<;>omega
  show IsRangeIter _ _ (lo+((0:Nat):Int)*1) ((((hi - lo).toNat:Nat):Int) - ((0:Nat):Int)) 1;rw[e1,e2];exact QP _ rfl
 ·have e:b=(s.heap.push { cls:=.type "range",data:=.fields #[.int lo t,.int hi u,.int 1 v] }).objs.size:=by simpa using hb
  subst e;exact I1.fpOk (Qk _) (I1.hok.fresh (Qk _))
def Qyp(ta:TA):TI:=λσ H R=>ta σ H λvs H1=>∃j:Int,vs=[.int j] /\ -(2^62)<=j/\j<2^62/\R (Itr 0 j.toNat) H1
theorem Qhi{a:Q2}{ta:TA}{p pos:Pos}(hg:Gl X "range")(hm:X.mg "range" = none)(ha:PA X [a] ta)(hs:starEach [a] X.env=[(false,eval a X.env)]:=by rfl):PI X tg (.Call (.Name "range" p) [a] [] pos) (Qyp ta):=by
 intro pins s σ H R I h;refine Call_ (QeO I hg hm boot_range (ZJ (thn (ha pos pins s σ H _ I h) λus s1 ⟨vs,H1,I1,r1,q1⟩=>?_) hs rfl));obtain⟨j,e,q1,q2,q⟩:=q1;subst e;cases r1 with
 |cons r rr=>
  cases rr;obtain⟨t,rfl⟩:=r;exact call_range_1 (Qou I1 (by omega) (by omega) q1 q2 (by simpa using q))
def tFor(wi:TI)(g:TG)(tb:TS):TS:=λD σ H=>wi σ H λJ H1=>∃W:Nat->Nat->St->Hp->Prop,(∃m,W 0 m σ H1)/\∀i m σ H,W i m σ H ->
 (J.stop i H/\D.nx σ H)∨(J.go i H/\∃N:St->Hp->Prop,(∀σ' H',N σ' H'->∃m',m'<m/\W (i+1) m' σ' H')/\∀x H',J.yld i H x H'->g x σ H' λσ2 H2=>tb { D with nx:=N,ct:=N,bk:=D.nx } σ2 H2)
def Qjq(fp:List Addr)(h:Za):List (Addr×Obj):=fp.filterMap λb=>(h.get? b).map λo=>(b,o)
theorem QaJ{fp:List Addr}{h:Za}{b:Addr}{o:Obj}(hb:b∈fp)(e:h.get? b=some o):(b,o)∈Qjq fp h:=YD.mpr ⟨b,hb,by rw[e];rfl⟩
theorem Qmq{fp:List Addr}{h:Za}{p:Addr×Obj}(hp:p∈Qjq fp h):p.1∈fp/\h.get? p.1=some p.2:=by
 obtain⟨b,hb,e⟩:=YD.mp hp;cases q:h.get? b with
 |none=>rw[q] at e;cases e
 |some o=>
  rw[q] at e;have e':(b,o)=p:=Qy e;subst e';exact⟨hb,q⟩
theorem Inv.pinned{pins:List (Addr×Obj)}{σ:St}{H:Hp}{s:Shared}{fp:List Addr}(I:Inv X pins σ H s)(hf:∀b∈fp,FpOk X pins H b)(ho:∀b∈fp,∃o,s.heap.get? b=some o/\∀v,o.data≠.cell v):Inv X (pins++Qjq fp s.heap) σ H s:=
 I.pins_of λp hp=>(JB.mp hp).elim (λz=>I.pin p (Jb _ z)) λz=>by
  obtain⟨hb,e⟩:=Qmq z;obtain⟨f0,f1,f2,_⟩:=hf p.1 hb;obtain⟨o,e',d⟩:=ho p.1 hb;rw[e] at e';cases e';exact⟨e,f0,f1,f2,d⟩
theorem Inv.unpinned{pins pl:List (Addr×Obj)}{σ:St}{H:Hp}{s:Shared}(I:Inv X (pins++pl) σ H s):Inv X pins σ H s:=I.pins_of λp hp=>I.pin p (Jb _ (Qa1 _ hp))
theorem Qrs{iter:Q2}{body:List Z4}{wi:TI}{g:TG}{tb:TS}{pos:Pos}(hp:PassesOwn (model X.prog X.w) X.A X.env X.xe)(hc:X.calm=true)(hi:PI X tg iter wi)(hg:PG X tg g)(hb:PSs X body tb)
  (hs:∀x,foldedSetIterable iter X.env x=pure x:=by intro _;rfl):PS X (.For tg iter body [] pos) (tFor wi g tb):=by
 intro pins s σ H D I h;refine wpAny_For (thn (hi pins s σ H _ I h) λv s1 h1=>thn h1 λitv s2 h2=>?_) hs;obtain⟨it,fp,tn,J,H2,e,I2,T,st2,f2,W,⟨m0,w0⟩,turn⟩:=h2;subst e;have stat:∀{H':Hp},(∀b∈fp,H' b=none)->∀b∈fp,FpOk X pins H' b:=λhn b hb=>⟨hn b hb,(f2 b hb).2⟩
 refine codeAny_forLoop_any (λn s'=>∃i σ' H',Inv X pins σ' H' s'/\tn i s'.heap/\(∀b∈fp,H' b=none)/\W i n σ' H') ?_ m0 ⟨0,σ,H2,I2,st2,λb hb=>(f2 b hb).1,w0⟩
 rintro n s3 ⟨i,σ3,H3,I3,st3,fr3,w3⟩;rcases turn i n σ3 H3 w3 with⟨stop,qn⟩ | ⟨go,N,hN,step⟩
 ·refine QbT hp (thn (T.done X rfl rfl rfl hc i pins s3 σ3 H3 X.xe I3 (stat fr3) st3 stop) λr s4 ⟨hr,I4⟩=>?_);subst hr;exact QaA ⟨σ3,H3,I4,qn⟩
 ·refine QbT hp (thn (T.item X rfl rfl rfl hc i pins s3 σ3 H3 X.xe I3 (stat fr3) st3 go) λr s4 ⟨u,hr,h4⟩=>?_);subst hr;refine QbT hp (thn h4 λ_ s5 ⟨x,H5,I5,r5,y5,st5,fr5⟩=>?_);have I5':=I5.pinned (stat fr5) (T.obj _ _ st5);refine QbT hp (thn (hg _ s5 σ3 H5 x u _ I5' r5 (step x H5 y5)) λ_ s6 ⟨σ6,H6,I6,q6⟩=>?_);refine QbT hp (thn (hb _ s6 σ6 H6 _ I6 q6) λf s7 q7=>?_);have again:∀{σ7:St}{H7:Hp},Inv X (pins++Qjq fp s5.heap) σ7 H7 s7->N σ7 H7->∃m,m<n/\∃i σ' H',Inv X pins σ' H' s7/\tn i s7.heap/\(∀b∈fp,H' b=none)/\W i m σ' H':=λ{σ7 H7} I7 n7=>by
   obtain⟨m',hm,w7⟩:=hN σ7 H7 n7;refine⟨m',hm,i+1,σ7,H7,I7.unpinned,T.keep _ _ _ st5 λb hb o e=>(I7.pin (b,o) (Jb _ (Jb _ (QaJ hb e)))).1,λb hb=>?_,w7⟩;obtain⟨o,e,d⟩:=T.obj _ _ st5 b hb;exact(I7.pin (b,o) (Jb _ (Jb _ (QaJ hb e)))).2.1
  cases f with
  |next=>obtain⟨σ7,H7,I7,n7⟩:=q7;exact again I7 n7
  |cont=>obtain⟨σ7,H7,I7,n7⟩:=q7;exact again I7 n7
  |brk=>obtain⟨σ7,H7,I7,q7⟩:=q7;exact⟨σ7,H7,I7.unpinned,q7⟩
  |ret v=>obtain⟨x7,σ7,H7,I7,r7,q7⟩:=q7;exact⟨x7,σ7,H7,I7.unpinned,r7,q7⟩
end
theorem Qm1{lo:Int}{n:Nat}{g:TG}{tb:TS}{D:Ends}{σ:St}{H:Hp}(Pv:Nat->St->Hp->Prop)(h0:Pv 0 σ H)
  (hs:∀i σ H,i<n->Pv i σ H->g (.int (lo+i)) σ H λσ2 H2=>tb { D with nx:=Pv (i+1),ct:=Pv (i+1),bk:=D.nx } σ2 H2)(hd:∀σ H,Pv n σ H->D.nx σ H) :
  ∃W:Nat->Nat->St->Hp->Prop,(∃m,W 0 m σ H)/\∀i m σ H,W i m σ H ->
   ((Itr lo n).stop i H/\D.nx σ H)∨((Itr lo n).go i H/\∃N:St->Hp->Prop,(∀σ' H',N σ' H'->∃m',m'<m/\W (i+1) m' σ' H')/\∀x H',(Itr lo n).yld i H x H'->g x σ H' λσ2 H2=>tb { D with nx:=N,ct:=N,bk:=D.nx } σ2 H2):=by
 refine⟨λi m σ H=>m=n - i/\i<=n/\Pv i σ H,⟨n,by simp,Qv _,h0⟩,?_⟩;rintro i m σ H ⟨rfl,hi,p⟩;by_cases hlt:i<n
 ·refine .inr ⟨hlt,Pv (i+1),λσ' H' p'=>⟨n - (i+1),by omega,rfl,hlt,p'⟩,λx H' y=>?_⟩;obtain⟨e,y⟩:=y;subst e y;exact hs i σ _ hlt p
 ·have e:i=n:=by omega
  subst e;exact .inl ⟨Qk _,hd σ H p⟩
abbrev R2:=V->V->Hp->VK->Prop
def OpR(X:Cx)(f:Value->Value->Sem Value)(r:R2):Prop:=
 ∀(pins:List (Addr×Obj))(s:Shared)(σ:St)(H:Hp)(x y:V)(v u:Value)(Q:VK),Inv X pins σ H s->RelV x v->RelV y u->r x y H Q ->
  wpAny (model X.prog X.w) X.A (f v u) (EP X pins σ Q) X.xe s
def UnR(X:Cx)(f:Value->Sem Value)(r:V->Hp->VK->Prop):Prop:=
 ∀(pins:List (Addr×Obj))(s:Shared)(σ:St)(H:Hp)(x:V)(v:Value)(Q:VK),Inv X pins σ H s->RelV x v->r x H Q ->
  wpAny (model X.prog X.w) X.A (f v) (EP X pins σ Q) X.xe s
def CallR(X:Cx)(f:Value)(r:List V->Hp->VK->Prop):Prop:=
 ∀(pins:List (Addr×Obj))(s:Shared)(σ:St)(H:Hp)(xs:List V)(us:List Value)(Q:VK),Inv X pins σ H s->Vals xs us->r xs H Q ->
  wpAny (model X.prog X.w) X.A (call f us) (EP X pins σ Q) X.xe s
def tOp(r:R2)(ta tb:TE):TE:=λσ H Q=>ta σ H λx H1=>tb σ H1 λy H2=>r x y H2 Q
def tUn(r:V->Hp->VK->Prop)(ta:TE):TE:=λσ H Q=>ta σ H λx H1=>r x H1 Q
def rI(C:Int->Int->Prop)(g:Int->Int->V):R2:=λx y H Q=>∃i j,x=.int i/\y=.int j/\C i j/\Q (g i j) H
def rI0(g:Int->Int->V):R2:=λx y H Q=>∃i j,x=.int i/\y=.int j/\Q (g i j) H
def rU(g:Int->V):V->Hp->VK->Prop:=λx H Q=>∃i,x=.int i/\Q (g i) H
section
variable{X:Cx}{a b c:Q2}{ta tb tc:TE}{pos:Pos}
theorem QyE(ha:PE X a ta)(hb:PE X b tb){pins:List (Addr×Obj)}{s:Shared}{σ:St}{H:Hp}{R:V->V->Hp->Prop}(I:Inv X pins σ H s)
  (h:ta σ H λx H1=>tb σ H1 λy H2=>R x y H2){Q:Value->Shared->Prop}{f:Value->Value->Sem Value}
  (hf:∀v u s2 x y H2,Inv X pins σ H2 s2->RelV x v->RelV y u->R x y H2->wpAny (model X.prog X.w) X.A (f v u) Q X.xe s2) :
  wpAny (model X.prog X.w) X.A (eval a X.env) (λv s₁=>wpAny (model X.prog X.w) X.A (eval b X.env) (λu s₂=>wpAny (model X.prog X.w) X.A (f v u) Q X.xe s₂) X.xe s₁) X.xe s:=by
 refine thn (ha pins s σ H _ I h) λv s1 ⟨x,H1,I1,r1,q1⟩=>?_
 refine thn (hb pins s1 σ H1 _ I1 q1) λu s2 ⟨y,H2,I2,r2,q2⟩=>?_
 exact hf v u s2 x y H2 I2 r1 r2 q2
theorem QaF{op:Operator}{r:R2}(ho:OpR X (binaryOp op) r)(ha:PE X a ta)(hb:PE X b tb):PE X (.BinOp a op b pos) (tOp r ta tb):=by
 intro pins s σ H Q I h;exact wpAny_BinOp (QyE ha hb I h λv u s2 x y H2 I2 rx ry q=>ho pins s2 σ H2 x y v u Q I2 rx ry q)
theorem Qx5{op:UnaryOp}{r:V->Hp->VK->Prop}(ho:UnR X (unaryOp op) r)(ha:PE X a ta):PE X (.UnaryOp op a pos) (tUn r ta):=by
 intro pins s σ H Q I h;exact UnaryOp_ (thn (ha pins s σ H _ I h) λv s1 ⟨x,H1,I1,r1,q1⟩=>ho pins s1 σ H1 x v Q I1 r1 q1)
theorem opI{f:Value->Value->Sem Value}{C:Int->Int->Prop}{g:Int->Int->Int}
  (rule:∀(i j:Int)(t u:Tok)(s:Shared)(Q:Value->Shared->Prop)(E:Value->Shared->Prop),C i j->Q (.int (g i j) s.toks) { s with toks:=s.toks+1 }->wpAny (model X.prog X.w) X.A (f (.int i t) (.int j u)) Q E s) :
  OpR X f (rI C λi j=>.int (g i j)):=by
 intro pins s σ H x y v u Q I rx ry h;obtain⟨i,j,rfl,rfl,hc,q⟩:=h;obtain⟨t,rfl⟩:=rx;obtain⟨t',rfl⟩:=ry;exact rule i j t t' s _ _ hc ⟨.int (g i j),H,I.tok _,⟨_,rfl⟩,q⟩
theorem Qy0{f:Value->Value->Sem Value}{g:Int->Int->Int}
  (rule:∀(i j:Int)(t u:Tok)(s:Shared)(Q:Value->Shared->Prop)(E:Value->Shared->Prop),Q (.int (g i j) s.toks) { s with toks:=s.toks+1 }->wpAny (model X.prog X.w) X.A (f (.int i t) (.int j u)) Q E s) :
  OpR X f (rI0 λi j=>.int (g i j)):=by
 intro pins s σ H x y v u Q I rx ry h;obtain⟨i,j,rfl,rfl,q⟩:=h;obtain⟨t,rfl⟩:=rx;obtain⟨t',rfl⟩:=ry;exact rule i j t t' s _ _ ⟨.int (g i j),H,I.tok _,⟨_,rfl⟩,q⟩
theorem Qw4{f:Value->Value->Sem Value}{g:Int->Int->Bool}
  (rule:∀(i j:Int)(t u:Tok)(s:Shared)(Q:Value->Shared->Prop)(E:Value->Shared->Prop),Q (.bool (g i j)) s->wpAny (model X.prog X.w) X.A (f (.int i t) (.int j u)) Q E s) :
  OpR X f (rI0 λi j=>.bl (g i j)):=by
 intro pins s σ H x y v u Q I rx ry h;obtain⟨i,j,rfl,rfl,q⟩:=h;obtain⟨t,rfl⟩:=rx;obtain⟨t',rfl⟩:=ry;exact rule i j t t' s _ _ ⟨.bl (g i j),H,I,rfl,q⟩
def Qz5(i j:Int):Prop:=0<=j/\j<=1000000/\i.natAbs<2^64
def CMul(i j:Int):Prop:=(-(2^64)<i/\i<2^64)∨(-(2^64)<j/\j<2^64)
theorem CMul.ok{i j:Int}(h:CMul i j):IntMulOk i j:=by
 rcases h with⟨h1,h2⟩ | ⟨h1,h2⟩
 ·exact .of_left (intBits_le_64 h1 h2)
 ·exact .of_right (intBits_le_64 h1 h2)
theorem QfA:OpR X (binaryOp .Add) (rI0 λi j=>.int (i+j)):=Qy0 λ_ _ _ _ _ _ _ q=>add_int q
theorem QcZ:OpR X (binaryOp .Sub) (rI0 λi j=>.int (i - j)):=Qy0 λ_ _ _ _ _ _ _ q=>sub_int q
theorem Qfz:OpR X (binaryOp .Mult) (rI CMul λi j=>.int (i*j)):=opI λ_ _ _ _ _ _ _ hc q=>mul_int q hc.ok
theorem Qjt:OpR X (binaryOp .Mod) (rI (λ_ j=>0<j) λi j=>.int (i % j)):=opI λi j _ _ _ _ _ hc q=>by
 have h1:(0:Int)<j:=hc;exact mod_int' (by omega) (by rw[Int.fmod_eq_emod_of_nonneg i (by omega)];exact q)
theorem Qhm:OpR X (binaryOp .Pow) (rI Qz5 λi j=>.int (i^j.toNat)):=opI λ_ _ _ _ _ _ _ hc q=>pow_int_small hc.1 hc.2.1 hc.2.2 q
theorem unI{f:Value->Sem Value}{g:Int->Int}
  (rule:∀(i:Int)(t:Tok)(s:Shared)(Q:Value->Shared->Prop)(E:Value->Shared->Prop),Q (.int (g i) s.toks) { s with toks:=s.toks+1 }->wpAny (model X.prog X.w) X.A (f (.int i t)) Q E s) :
  UnR X f (rU λi=>.int (g i)):=by
 intro pins s σ H x v Q I rx h;obtain⟨i,rfl,q⟩:=h;obtain⟨t,rfl⟩:=rx;exact rule i t s _ _ ⟨.int (g i),H,I.tok _,⟨_,rfl⟩,q⟩
theorem Qux:UnR X (unaryOp .USub) (rU λi=>.int (-i)):=unI λ_ _ _ _ _ q=>neg_int q
end
def QyK:V->V->Bool
 |.non,.non=>true | .non,.int _=>true | .int _,.non=>true | .non,.bl _=>true | .bl _,.non=>true | .non,.str _=>true | .str _,.non=>true
 |.int _,.int _=>true | .bl _,.bl _=>true | .str _,.str _=>true | .byt _,.byt _=>true
 |.int _,.str _=>true | .str _,.int _=>true | .bl _,.str _=>true | .str _,.bl _=>true
 |_,_=>false
def rEq:R2:=λx y H Q=>QyK x y=true/\Q (.bl (decide (x=y))) H
def rNe:R2:=λx y H Q=>QyK x y=true/\Q (.bl (!decide (x=y))) H
theorem Qnf{i j:Int}:decide (V.int i=V.int j)=(i == j):=by
 rw[ZW];simp
theorem QrS{i j:Bool}:decide (V.bl i=V.bl j)=(i == j):=by
 rw[ZW];simp
theorem Qne{i j:Str}:decide (V.str i=V.str j)=(i == j):=by
 rw[ZW];simp
theorem Qng{i j:Array UInt8}:decide (V.byt i=V.byt j)=(i.toList == j.toList):=by
 rw[ZW];cases i;cases j;simp
section
variable{X:Cx}{a b c:Q2}{ta tb tc:TE}{pos:Pos}
theorem ZL{pins:List (Addr×Obj)}{σ:St}{H:Hp}{s:Shared}{Q:VK}{k k':Bool}(I:Inv X pins σ H s)(q:Q (.bl k) H)(e:k=k'):EP X pins σ Q (.bool k') s:=by
 subst e;exact⟨.bl k,H,I,rfl,q⟩
theorem Qs8:OpR X (compareOp .Eq) rEq:=by
 intro pins s σ H x y v u Q I rx ry h;obtain⟨hs,q⟩:=h;cases x with
 |non=>
  cases rx;cases y with
  |non=>cases ry;exact PySem.EqNone.eq_none_none (ZL I q (by simp))
  |bl j=>cases ry;exact PySem.EqNone.eq_none_bool (ZL I q (by simp))
  |int j=>obtain⟨t',rfl⟩:=ry;exact PySem.EqNone.eq_none_int (ZL I q (by simp))
  |str j=>obtain⟨t',rfl⟩:=ry;exact PySem.EqNone.eq_none_str (ZL I q (by simp))
  |_=>exact absurd (show false=true from hs) QF
 |bl i=>
  cases rx;cases y with
  |non=>cases ry;exact PySem.EqNone.eq_bool_none (ZL I q (by simp))
  |bl j=>cases ry;exact eq_bool (ZL I q QrS)
  |str j=>obtain⟨t',rfl⟩:=ry;exact PySem.EqMixed.eq_bool_str (ZL I q (by simp))
  |_=>exact absurd (show false=true from hs) QF
 |int i=>
  obtain⟨t,rfl⟩:=rx;cases y with
  |non=>cases ry;exact PySem.EqNone.eq_int_none (ZL I q (by simp))
  |int j=>obtain⟨t',rfl⟩:=ry;exact eq_int (ZL I q Qnf)
  |str j=>obtain⟨t',rfl⟩:=ry;exact PySem.EqMixed.eq_int_str (ZL I q (by simp))
  |_=>exact absurd (show false=true from hs) QF
 |str i=>
  obtain⟨t,rfl⟩:=rx;cases y with
  |non=>cases ry;exact PySem.EqNone.eq_str_none (ZL I q (by simp))
  |bl j=>cases ry;exact PySem.EqMixed.eq_str_bool (ZL I q (by simp))
  |int j=>obtain⟨t',rfl⟩:=ry;exact PySem.EqMixed.eq_str_int (ZL I q (by simp))
  |str j=>obtain⟨t',rfl⟩:=ry;exact eq_str (ZL I q Qne)
  |_=>exact absurd (show false=true from hs) QF
 |byt i=>
  obtain⟨t,rfl⟩:=rx;cases y with
  |byt j=>obtain⟨t',rfl⟩:=ry;exact PySem.W.eq_bytes (ZL I q Qng)
  |_=>exact absurd (show false=true from hs) QF
 |_=>cases y<;>exact absurd (show false=true from hs) QF
theorem Qo8:OpR X (compareOp .NotEq) rNe:=by
 intro pins s σ H x y v u Q I rx ry h;obtain⟨hs,q⟩:=h;cases x with
 |non=>
  cases rx;cases y with
  |non=>cases ry;exact PySem.EqNone.ne_none_none (ZL I q (by simp))
  |bl j=>cases ry;exact PySem.EqNone.ne_none_bool (ZL I q (by simp))
  |int j=>obtain⟨t',rfl⟩:=ry;exact PySem.EqNone.ne_none_int (ZL I q (by simp))
  |str j=>obtain⟨t',rfl⟩:=ry;exact PySem.EqNone.ne_none_str (ZL I q (by simp))
  |_=>exact absurd (show false=true from hs) QF
 |bl i=>
  cases rx;cases y with
  |non=>cases ry;exact PySem.EqNone.ne_bool_none (ZL I q (by simp))
  |bl j=>cases ry;exact ne_bool (ZL I q (congrArg not QrS))
  |str j=>obtain⟨t',rfl⟩:=ry;exact PySem.EqMixed.ne_bool_str (ZL I q (by simp))
  |_=>exact absurd (show false=true from hs) QF
 |int i=>
  obtain⟨t,rfl⟩:=rx;cases y with
  |non=>cases ry;exact PySem.EqNone.ne_int_none (ZL I q (by simp))
  |int j=>obtain⟨t',rfl⟩:=ry;exact ne_int (ZL I q (congrArg not Qnf))
  |str j=>obtain⟨t',rfl⟩:=ry;exact PySem.EqMixed.ne_int_str (ZL I q (by simp))
  |_=>exact absurd (show false=true from hs) QF
 |str i=>
  obtain⟨t,rfl⟩:=rx;cases y with
  |non=>cases ry;exact PySem.EqNone.ne_str_none (ZL I q (by simp))
  |bl j=>cases ry;exact PySem.EqMixed.ne_str_bool (ZL I q (by simp))
  |int j=>obtain⟨t',rfl⟩:=ry;exact PySem.EqMixed.ne_str_int (ZL I q (by simp))
  |str j=>obtain⟨t',rfl⟩:=ry;exact ne_str (ZL I q (congrArg not Qne))
  |_=>exact absurd (show false=true from hs) QF
 |byt i=>
  obtain⟨t,rfl⟩:=rx;cases y with
  |byt j=>obtain⟨t',rfl⟩:=ry;exact PySem.W.ne_bytes (ZL I q (congrArg not Qng))
  |_=>exact absurd (show false=true from hs) QF
 |_=>cases y<;>exact absurd (show false=true from hs) QF
theorem Qme:OpR X (compareOp .Lt) (rI0 λi j=>.bl (decide (i<j))):=Qw4 λ_ _ _ _ _ _ _ q=>lt_int q
theorem Qmf:OpR X (compareOp .LtE) (rI0 λi j=>.bl (decide (i<=j))):=Qw4 λ_ _ _ _ _ _ _ q=>le_int q
theorem Qyd:OpR X (compareOp .Gt) (rI0 λi j=>.bl (decide (j<i))):=Qw4 λ_ _ _ _ _ _ _ q=>gt_int q
theorem Qye:OpR X (compareOp .GtE) (rI0 λi j=>.bl (decide (j<=i))):=Qw4 λ_ _ _ _ _ _ _ q=>ge_int q
theorem QvA:OpR X (compareOp .Is) (λx y H Q=>y=.non/\Q (.bl (decide (x=.non))) H):=by
 intro pins s σ H x y v u Q I rx ry h;obtain⟨rfl,q⟩:=h;cases ry;refine is_none_gen (ZL I q ?_);cases x<;>first
  |(cases rx;rfl)
  |(obtain⟨t,rfl⟩:=rx;rfl)
def isObj:HO->Bool
 |.lst _=>true
 |.ins _ _ _=>true
 |_=>false
theorem obj_there{pins:List (Addr×Obj)}{s:Shared}{σ:St}{H:Hp}{a:Addr}{o:HO}(I:Inv X pins σ H s)(h:H a=some o)(p:isObj o=true):∃ob,s.heap.get? a=some ob/\ob.cls≠.type "tuple" := by
 cases o with
 |lst xs=>
  obtain⟨_,its,n,_,e⟩:xs.length<=sizeLine/\∃(its:List Value)(n:Nat),Vals xs its/\s.heap.get? a=some { cls:=.type "list",data:=.seq its.toArray n }:=I.hok a _ h
  exact⟨_,e,(by show YN "list" ≠ .type "tuple";decide +kernel)⟩
 |ins C dx fs=>
  have x:=I.hok a _ h;obtain⟨_,_,_,e,_⟩:=x;exact⟨_,e,(by show JP C≠.type "tuple";exact λz=>by cases z)⟩
 |_=>exact absurd (show false=true from p) QF
theorem OpR.or{f:Value->Value->Sem Value}{r r':R2}(h:OpR X f r)(h':OpR X f r'):OpR X f (λx y H Q=>r x y H Q∨r' x y H Q):=by
 intro pins s σ H x y v u Q I rx ry q;rcases q with q | q
 ·exact h pins s σ H x y v u Q I rx ry q
 ·exact h' pins s σ H x y v u Q I rx ry q
theorem Z9(b:Q2){op:Qsc}(h:op≠.In:=by decide)(h2:op≠.NotIn:=by decide):behindInMarks op b=false:=by
 have e1:(op == CmpOp.In)=false:=by cases op<;>first | rfl | exact absurd rfl h
 have e2:(op == CmpOp.NotIn)=false:=by cases op<;>first | rfl | exact absurd rfl h2
 cases b<;>simp[behindInMarks,e1,e2]
theorem QeE{op:Qsc}{r:R2}(ho:OpR X (compareOp op) r)(ha:PE X a ta)(hb:PE X b tb)(hm:behindInMarks op b=false):PE X (.Compare a [op] [b] pos) (tOp r ta tb):=by
 intro pins s σ H Q I h;exact wpAny_Compare1 (QyE ha hb I h λv u s2 x y H2 I2 rx ry q=>ho pins s2 σ H2 x y v u Q I2 rx ry q) hm
def QxI(t:TE):TT:=λσ H Q=>t σ H λx H'=>∃k,x=.bl k/\Q k H'
theorem Qcx{op:Qsc}{r:R2}(ho:OpR X (compareOp op) r)(ha:PE X a ta)(hb:PE X b tb)(hm:behindInMarks op b=false):PT X (.Compare a [op] [b] pos) (QxI (tOp r ta tb)):=by
 intro pins s σ H Q I h;refine wpAny_isTrue_Compare1 (thn (ha pins s σ H _ I h) λv s1 ⟨x,H1,I1,r1,q1⟩=>thn (hb pins s1 σ H1 _ I1 q1) λu s2 ⟨y,H2,I2,r2,q2⟩=>
  thn (ho pins s2 σ H2 x y v u _ I2 r1 r2 q2) λc s3 ⟨z,H3,I3,r3,k,e,q3⟩=>?_) hm
 subst e;cases r3;exact Yn ⟨H3,I3,q3⟩
def Qrc(r r':R2)(ta tb tc:TE):TE:=λσ H Q=>ta σ H λx H1=>tb σ H1 λy H2=>r x y H2 λz H3=>∃k,z=.bl k /\
 (if k=true then tc σ H3 λw' H4=>r' y w' H4 Q else Q (.bl false) H3)
theorem QoK{op op':Qsc}{r r':R2}(ho:OpR X (compareOp op) r)(ho':OpR X (compareOp op') r')(ha:PE X a ta)(hb:PE X b tb)(hc:PE X c tc)
  (hm:lastMarks [op,op'] [b,c]=false:=by with_unfolding_all rfl):PE X (.Compare a [op,op'] [b,c] pos) (Qrc r r' ta tb tc):=by
 intro pins s σ H Q I h;refine Compare_chain (thn (ha pins s σ H _ I h) λv s1 ⟨x,H1,I1,r1,q1⟩=>chain_link (thn (hb pins s1 σ H1 _ I1 q1) λu s2 ⟨y,H2,I2,r2,q2⟩=>
  thn (ho pins s2 σ H2 x y v u _ I2 r1 r2 q2) λd s3 ⟨z,H3,I3,r3,k,e,q3⟩=>?_)) hm
 subst e;cases r3;refine Yn ?_
 cases k with
 |false=>exact ite_ff ⟨.bl false,H3,I3,rfl,q3⟩
 |true=>exact ite_tt (chain_last (thn (hc pins s3 σ H3 _ I3 q3) λw' s4 ⟨z',H4,I4,r4,q4⟩=>ho' pins s4 σ H4 y z' u w' Q I4 r2 r4 q4))
theorem QjA:(sizeLine:Nat)<2^63:=by rw[Qul];decide
theorem vals1{x:V}{us:List Value}(r:Vals [x] us):∃u,us=[u]/\RelV x u:=by
 cases r with
 |cons r1 r2=>cases r2;exact⟨_,rfl,r1⟩
theorem vals2{x y:V}{us:List Value}(r:Vals [x,y] us):∃u w',us=[u,w']/\RelV x u/\RelV y w':=by
 cases r with
 |cons r1 r2=>
  cases r2 with
  |cons r3 r4=>cases r4;exact⟨_,_,rfl,r1,r3⟩
theorem Qnv(hc:X.calm=true):CallR X (.builtin "max") (λxs H Q=>∃i j,xs=[.int i,.int j]/\Q (.int (if j > i then j else i)) H):=by
 intro pins s σ H xs us Q I r h;obtain⟨i,j,rfl,q⟩:=h;obtain⟨u,w',rfl,⟨t,rfl⟩,⟨t',rfl⟩⟩:=vals2 r;refine max_two_ints (I.ok.hd hc) λh' tk k=>⟨_,H,I.kept k,?_,q⟩
 by_cases hj:j > i
 ·rw[if_pos hj,if_pos hj];exact⟨_,rfl⟩
 ·rw[if_neg hj,if_neg hj];exact⟨_,rfl⟩
theorem Qnu(hc:X.calm=true):CallR X (.builtin "min") (λxs H Q=>∃i j,xs=[.int i,.int j]/\Q (.int (if j<i then j else i)) H):=by
 intro pins s σ H xs us Q I r h;obtain⟨i,j,rfl,q⟩:=h;obtain⟨u,w',rfl,⟨t,rfl⟩,⟨t',rfl⟩⟩:=vals2 r;refine min_two_ints (I.ok.hd hc) λh' tk k=>⟨_,H,I.kept k,?_,q⟩
 by_cases hj:j<i
 ·rw[if_pos hj,if_pos hj];exact⟨_,rfl⟩
 ·rw[if_neg hj,if_neg hj];exact⟨_,rfl⟩
end
structure ObjM (h:Za) (x dx C:Addr) (mA:Str->Option Value):Prop where
 obj:h.get? x=some (PySem.W.instObj C dx)
 ns:h.Ns1 dx mA
 ne:dx≠x
theorem QmI{h:Za}{dx:Addr}{mA:Str->Option Value}(n:h.Ns1 dx mA):∃od,h.get? dx=some od/\∀name,PySem.W.lookIn name od=some (mA name):=by
 obtain⟨o,es,ep,ho,hd,hk,_,hm⟩:=n;refine⟨o,ho,λname=>?_⟩;have e:=hm name;unfold nsFind findBy at e;rw[<- Array.find?_toList] at e;unfold PySem.W.lookIn;rw[hd]
 dsimp only
 split
 ·rename_i y q
  rw[q] at e;exact congrArg some e
 ·rename_i q
  rw[q] at e;have a:es.toList.any (·.refKey)=false:=by
   rw[List.any_eq_false];intro y hy;obtain⟨z,t,hkey⟩:=hk y (QcS.mp hy);simp[DictEntry.refKey,hkey]
  have a':¬es.toList.any (·.refKey)=true:=by rw[a];exact QF
  rw[if_neg a'];exact congrArg some e
theorem ObjM.look{h:Za}{x dx C:Addr}{mA:Str->Option Value}(I:ObjM h x dx C mA):∃od,PySem.W.InstAt h x (PySem.W.instObj C dx) C (some od)/\∀name,PySem.W.lookIn name od=some (mA name):=
 let ⟨od,ho,hl⟩:=QmI I.ns
 ⟨od,⟨I.obj,rfl,rfl,ho⟩,hl⟩
section
variable{prog:QB}{w:Jl}{A:Q9}{E:Value->Shared->Prop}{s:Shared}{K:PySem.W.Frag}{x dx C f:Addr}{mA:Str->Option Value}{name:Str}{v:Value}
end
theorem RelO.some_of{v:V}{o:Option Value}(r:RelO (some v) o):∃u,o=some u/\RelV v u:=by
 cases o with
 |none=>exact(show False from r).elim
 |some u=>exact⟨u,rfl,r⟩
section
variable{P:QB}{w:Jl}{H H':Hp}{h h':Za}{a C dx:Addr}{fs fs':List (Str×V)}
theorem QtI(hok:HOk P w H h)(e:H a=some (.ins C dx fs)):∃mA,ObjM h a dx C mA/\(∀f,RelO (fs.lookup f) (mA f))/\PySem.Within mA (fs.map (·.1))/\fs.length<=1000/\H dx=some (.own a):=by
 obtain⟨d,z,ne,ob,mA,n,r,q⟩:=(show ObjOk P w H h a (.ins C dx fs) from hok a _ e);exact⟨mA,⟨ob,n,ne⟩,r,q,z,d⟩
end
structure Cls (K:PySem.W.Frag) (C:Addr):Prop where
 pg:PySem.W.plainGet K C Str.empty=true
 hd:PySem.W.hasDictIn K C=true
 po:PySem.W.plainOver K C=true
 sa:PySem.W.findIn K (.ref C) "__setattr__" = some (some (.builtin "object.__setattr__"))
theorem Cls.get{K:PySem.W.Frag}{C:Addr}(c:Cls K C)(f:Str):PySem.W.plainGet K C f=true:=c.pg
section
variable{X:Cx}{pins:List (Addr×Obj)}{σ:St}{H:Hp}{s:Shared}{a C dx:Addr}{fs:List (Str×V)}{f:Str}{v:V}{A:Q9}{E:Value->Shared->Prop}
end
section
variable{X:Cx}{o e value:Q2}{f:Str}{pos pos' tpos:Pos}{ta tv:TE}
def rAdd:V->V->Hp->VK->Prop:=λx y H Q=>∃i j,x=.int i/\y=.int j/\Q (.int (i+j)) H
end
section
variable{X:Cx}{pins:List (Addr×Obj)}{σ:St}{H:Hp}{s:Shared}{A:Q9}{E:Value->Shared->Prop}{Q:Value->Shared->Prop}{c:Value}{b:Bool}
inductive TyOf (K:PySem.W.Frag) (H:Hp):V->Value->Prop where
 |non:TyOf K H .non (.type "NoneType")
 |bl (x:Bool):TyOf K H (.bl x) (.type "bool")
 |int (i:Int):TyOf K H (.int i) (.type "int")
 |str (x:Str):TyOf K H (.str x) (.type "str")
 |flt (x:UInt64):TyOf K H (.flt x) (.type "float")
 |lst {a:Addr} {xs:List V} (e:H a=some (.lst xs)):TyOf K H (.ref a) (.type "list")
 |frz {a:Addr} {o:Obj} {xs:List V} (e:H a=some (.frz o (.lst xs))):TyOf K H (.ref a) (.type "list")
 |tup {a:Addr} {xs:List V} (e:H a=some (.tup xs)):TyOf K H (.ref a) (.type "tuple")
 |dK {a:Addr} {kvs:List (Key×V)} (e:H a=some (.dK kvs)):TyOf K H (.ref a) (.type "dict")
 |dT {a:Addr} {kvs:List (List Key×V)} (e:H a=some (.dT kvs)):TyOf K H (.ref a) (.type "dict")
 |ins {a C dx:Addr} {fs:List (Str×V)} (e:H a=some (.ins C dx fs)) (cl:Cls K C) (ha:PySem.W.findIn K (.ref C) "__class__" = some (some (.builtin "object.__class__")))
   (hn:PySem.W.specialIn K (.builtin "object.__class__") "__get__" = some (some (.builtin "getset_descriptor.__get__"))) (htk:PySem.W.takesIn K (.builtin "object.__class__")=some true)
   (hm:PySem.W.mroIn K C (.type "object")=some true):TyOf K H (.ref a) (.ref C)
theorem QmP{x:V}{u t:Value}(I:Inv X pins σ H s)(rx:RelV x u)(ty:TyOf X.K H x t)(e:PySem.W.kitOne X.K t c=some b)(h:∀tk,Q (.bool b) { s with toks:=tk }) :
  wpAny (model X.prog X.w) A (call (.builtin "isinstance") [u,c]) Q E s:=by
 cases ty with
 |non=>cases(show u=ZH from rx);exact PySem.W.kia_one PySem.W.kitx_none I.kIn Ys e (λz=>nomatch z) h
 |bl y=>cases(show u=ZP y from rx);exact PySem.W.kia_one PySem.W.kitx_bool I.kIn Ys e (λz=>nomatch z) h
 |int i=>obtain⟨t,q⟩:=(show ∃t,u=Qcw i t from rx);cases q;exact PySem.W.kia_one PySem.W.kitx_int I.kIn Ys e (λz=>nomatch z) h
 |str y=>obtain⟨t,q⟩:=(show ∃t,u=QfP y t from rx);cases q;exact PySem.W.kia_one PySem.W.kitx_str I.kIn Ys e (λz=>nomatch z) h
 |flt y=>obtain⟨t,q⟩:=(show ∃t,u=Qxh y t from rx);cases q;exact PySem.W.kia_one PySem.W.kitx_float I.kIn Ys e (λz=>nomatch z) h
 |@lst a xs ea=>
  cases(show u=JP a from rx);obtain⟨_,_,n,_,h1⟩:=(show ObjOk X.prog X.w H s.heap a (.lst xs) from I.hok a _ ea);exact PySem.W.kia_one PySem.W.kitx_list I.kIn ⟨_,h1,rfl⟩ e (λz=>nomatch z) h
 |@frz a ob xs ea=>
  cases(show u=JP a from rx);obtain⟨_,_,_,n,_,h1⟩:=(show ObjOk X.prog X.w H s.heap a (.frz ob (.lst xs)) from I.hok a _ ea);exact PySem.W.kia_one PySem.W.kitx_list I.kIn ⟨_,h1,rfl⟩ e (λz=>nomatch z) h
 |@tup a xs ea=>
  cases(show u=JP a from rx);obtain⟨_,_,_,p⟩:=(show ObjOk X.prog X.w H s.heap a (.tup xs) from I.hok a _ ea);obtain⟨o,h1,h2,_⟩:=p;exact PySem.W.kia_one PySem.W.kitx_tuple I.kIn ⟨o,h1,h2⟩ e (λz=>nomatch z) h
 |@dK a kvs ea=>
  cases(show u=JP a from rx);obtain⟨_,_,vs,_,p⟩:=(show ObjOk X.prog X.w H s.heap a (.dK kvs) from I.hok a _ ea);obtain⟨o,es,ep,h1,h2,_⟩:=p;exact PySem.W.kia_one PySem.W.kitx_dict I.kIn ⟨o,h1,h2.1⟩ e (λz=>nomatch z) h
 |@dT a kvs ea=>
  cases(show u=JP a from rx);obtain⟨_,_,xs,_,o,es,ep,h1,h2,_⟩:=(show ObjOk X.prog X.w H s.heap a (.dT kvs) from I.hok a _ ea);exact PySem.W.kia_one PySem.W.kitx_dict I.kIn ⟨o,h1,h2.1⟩ e (λz=>nomatch z) h
 |@ins a C dx fs ea cl ha hn htk hm=>
  cases(show u=JP a from rx);obtain⟨mA,O,_⟩:=QtI I.hok ea;obtain⟨od,J,_⟩:=O.look;exact PySem.W.kia_one (PySem.W.kitx_own (cl.get _) cl.hd ha hn htk hm) I.kIn J e (λz=>nomatch z) h
end
structure Room (k:Nat) (A:Q9):Prop where
 hd:A.handled=none
 dp:A.depth+3*k+5<recursionLimit
 un:A.units+16*k+200<cLine
theorem Room.mono{j k:Nat}{A:Q9}(r:Room k A)(h:j<=k):Room j A:=⟨r.hd,by have:=r.dp;omega,by have:=r.un;omega⟩
theorem Room.deeper{k:Nat}{A:Q9}(r:Room (k+1) A)(env:Env):Room k (A.deeper env):=
 ⟨r.hd,by have:=r.dp;show A.depth+1+3*k+5<_;omega,by have:=r.un;show A.units+3+16*k+200<_;omega⟩
theorem Room.depth{k:Nat}{A:Q9}(r:Room k A):A.depth<recursionLimit:=by have:=r.dp;omega
theorem Room.units0{k:Nat}{A:Q9}(r:Room k A):A.units<cLine:=by have:=r.un;omega
def Qrb:TA:=λ_ H Q=>Q [] H
def Qew(ta:TE)(tr:TA):TA:=λσ H Q=>ta σ H λx H1=>tr σ H1 λxs H2=>Q (x::xs) H2
section
variable{X:Cx}{e:Q2}{es:List Q2}{te:TE}{t:TA}{pos:Pos}
theorem J4:PA X [] Qrb:=λ_ _ _ _ H Q I h=>Qob ⟨[],H,I,.nil,h⟩
theorem JH(ha:PE X e te)(hr:PA X es t)(hs:starEach (e::es) X.env=(false,eval e X.env)::starEach es X.env:=by rfl):PA X (e::es) (Qew te t):=by
 intro pos pins s σ H Q I h;rw[hs];show wpAny _ _ (spliced ((false,eval e X.env)::backTo pos (starEach es X.env))) _ _ s;refine QnX (thn (ha pins s σ H _ I h) λu s1 ⟨x,H1,I1,r1,q1⟩=>?_);exact thn (hr pos pins s1 σ H1 _ I1 q1) λus s2 ⟨xs,H2,I2,r2,q2⟩=>⟨x::xs,H2,I2,.cons r1 r2,q2⟩
def Qzw(t:TA):TE:=λσ H Q=>t σ H λxs H1=>xs.length<=sizeLine/\∀p,H1 p=none->Q (.ref p) (upd H1 p (.lst xs))
theorem Qrz(h:PA X es t):PE X (.List es pos) (Qzw t):=by
 intro pins s σ H Q I hq;refine QwN (thn (h pos pins s σ H _ I hq) λus s1 ⟨xs,H1,I1,r,z,q⟩=>⟨by rw[<- r.length];exact z,?_⟩);have hf:H1 s1.heap.objs.size=none:=I1.hok.fresh (Qk _);refine⟨.ref s1.heap.objs.size,upd H1 s1.heap.objs.size (.lst xs),I1.laid (t':=s1.toks) (λb u e=>Qf _ e) (Qk _) ?_,rfl,q _ hf⟩;exact⟨z,us,0,r,QP _ rfl⟩
end
abbrev Sp:=List V->Hp->VK->XK->Prop
abbrev CXT:=List Env->Hp->Shared->XK->Value->Shared->Prop
structure Env0 (P:QB) (w:Jl) (K:PySem.W.Frag) (mg:Str->Option Value) (base:Za) (A:Q9) (outer:List Env) (s:Shared) (H:Hp):Prop where
 frames:A.frames=some outer
 mod:Mod K mg base
 bs:∀b o,base.get? b=some o->s.heap.get? b=some o/\H b=none
 bsz:base.objs.size<=s.heap.objs.size
 funs:s.heap.FunFrames base outer
 frf:∀b∈frs outer,H b=none
 hok:HOk P w H s.heap
 bare:QdX s.gens
def CE(outer:List Env)(P:QB)(w:Jl)(H:Hp)(s:Shared)(Q:VK)(u:Value)(s':Shared):Prop:=
 ∃v H',s'.os=s.os/\QdX s'.gens/\Un (frs outer) [] H H' s.heap s'.heap/\HOk P w H' s'.heap/\RelV v u/\Q v H'
def CR(CX:CXT)(outer:List Env)(P:QB)(w:Jl)(H:Hp)(s:Shared)(Q:VK)(E:XK)(r:Qr5)(s':Shared):Prop:=
 match r with
 |.ok (.ret u)=>CE outer P w H s Q u s'
 |.ok _=>False
 |.error e=>CX outer H s E e s'
structure FnOk (P:QB) (w:Jl) (K:PySem.W.Frag) (mg:Str->Option Value) (base:Za) (CX:CXT) (k:Nat) (f:Addr) (fd:QQ) (ps:List Str) (sp:Sp):Prop where
 len:∀vs H Q E,sp vs H Q E->vs.length=ps.length
 run:∀(A:Q9)(outer:List Env)(s:Shared)(H:Hp)(args:Args)(us:List Value)(vs:List V)(Q:VK)(E:XK),Room k A->Env0 P w K mg base A outer s H->QdW s fd args (ps.zip us)->Vals vs us->sp vs H Q E ->
  codeAny (model P w) A (.call (.ref f) args) (CR CX outer P w H s Q E) s
theorem FnOk.imp{P:QB}{w:Jl}{K:PySem.W.Frag}{mg:Str->Option Value}{base:Za}{CX:CXT}{k:Nat}{f:Addr}{fd:QQ}{ps:List Str}{sp sp':Sp}(F:FnOk P w K mg base CX k f fd ps sp)
  (h:∀vs H Q E,sp' vs H Q E->sp vs H Q E):FnOk P w K mg base CX k f fd ps sp':=
 ⟨λvs H Q E q=>F.len vs H Q E (h _ _ _ _ q),λA outer s H args us vs Q E hr he hb hv hs=>F.run A outer s H args us vs Q E hr he hb hv (h _ _ _ _ hs)⟩
section
variable{X:Cx}{pins:List (Addr×Obj)}{σ:St}{H:Hp}{s s':Shared}
theorem Inv.env0(I:Inv X pins σ H s):Env0 X.prog X.w X.K X.mg X.base X.A X.stack s H:=
 ⟨I.ok.frames,I.ok.mod,I.bs,Jc I.ok.bsz I.sz,I.stack,I.stkFree,I.hok,I.bare⟩
theorem Inv.after{Q:VK}{u:Value}(I:Inv X pins σ H s)(h:CE X.stack X.prog X.w H s Q u s'):EP X pins σ Q u s':=by
 obtain⟨v,H',os,bare,un,hok,r,q⟩:=h;obtain⟨hh,g,d,t,os'⟩:=s';obtain rfl:os'=s.os:=os;exact⟨v,H',I.call (h':=hh) (g':=g) (d':=d) (t':=t) (ch:=[]) un hok bare (λb z=>absurd z (by simp)),r,q⟩
end
def Qsj(sp:Sp)(dvs:List V)(E:XK)(t:TA):TE:=λσ H Q=>t σ H λvs H1=>sp (vs++dvs) H1 Q E
def Binds(K:PySem.W.Frag)(fd:QQ)(ps:List Str)(ds:List Value):Prop:=
 ∀(s:Shared)(us:List Value),K.In s.heap->(us++ds).length=ps.length->QdW s fd ⟨us,[]⟩ (ps.zip (us++ds))
theorem Binds.all{K:PySem.W.Frag}{fd:QQ}{ps:List Str}(h:∀us:List Value,us.length=ps.length->bindArgs fd ⟨us,[]⟩=pure (ps.zip us)):Binds K fd ps []:=λs us _ hl=>by
 rw[Ji] at hl ⊢;exact .of_eq (h us hl)
def Qc8(CX:CXT)(X:Cx)(E:XK):Prop:=∀(pins:List (Addr×Obj))(σ:St)(H:Hp)(s:Shared)(e:Value)(s':Shared),Inv X pins σ H s->CX X.stack H s E e s'->X.xe e s'
section
variable{X:Cx}{CX:CXT}{k:Nat}{f C:Addr}{fd:QQ}{ps:List Str}{sp:Sp}{dvs:List V}{ds:List Value}{E:XK}{x m:Str}{p pos apos:Pos}{e o:Q2}{es:List Q2}{ta:TE}{t:TA}
theorem QuS{pins:List (Addr×Obj)}{σ:St}{H:Hp}{s:Shared}{Q:VK}{us:List Value}{vs:List V}(F:FnOk X.prog X.w X.K X.mg X.base CX k f fd ps sp)(hr:Room k X.A)(hb:Binds X.K fd ps ds)(hd:Vals dvs ds)(hx:Qc8 CX X E)
  (I:Inv X pins σ H s)(r:Vals vs us)(h:sp (vs++dvs) H Q E):wpAny (model X.prog X.w) X.A (call (.ref f) us) (EP X pins σ Q) X.xe s:=by
 have r2:Vals (vs++dvs) (us++ds):=r.append hd;have hl:(us++ds).length=ps.length:=by rw[<- r2.length];exact F.len _ _ _ _ h
 refine Qd3 (Qbe (F.run X.A X.stack s H ⟨us,[]⟩ (us++ds) (vs++dvs) Q E hr I.env0 (hb s us I.kIn hl) r2 h) λr s' hq=>?_);cases r with
 |error e=>exact hx pins σ H s e s' I hq
 |ok fl=>
  cases fl with
  |ret u=>exact I.after hq
  |next=>exact Jx hq
  |brk=>exact Jx hq
  |cont=>exact Jx hq
theorem QeG(F:FnOk X.prog X.w X.K X.mg X.base CX k f fd ps sp)(hr:Room k X.A)(hg:Gl X x)(hm:X.mg x=some (.ref f))(hk:PySem.W.keepIn X.K (.ref f)=true)(hb:Binds X.K fd ps ds)(hd:Vals dvs ds)(hx:Qc8 CX X E)
  (ha:PA X (e::es) t)(hdb:(x == ("__debug__" : Str))=false:=by decide)(he:starEach (e::es) X.env=(false,eval e X.env)::starEach es X.env:=by rfl)(hpl:(backTo pos (starEach es X.env)).any (·.1)=false:=by rfl) :
  PE X (.Call (.Name x p) (e::es) [] pos) (Qsj sp dvs E t):=by
 intro pins s σ H Q I h;refine YS (Qdv I hg hm ?_ hdb);refine PySem.W.callWith_K (h₀:=X.base) I.ok.mod.kin hk (thn (ha pos pins s σ H _ I h) λus s1 ⟨vs,H1,I1,r,q⟩=>⟨I1.kIn,?_⟩) he hpl;exact QuS F hr hb hd hx I1 r q
end
section
variable{X:Cx}{CX:CXT}{k:Nat}{f C:Addr}{fd:QQ}{ps ks:List Str}{sp:Sp}{E:XK}{x m:Str}{p pos apos kpos:Pos}{e o:Q2}{es:List Q2}{kws:List Qe9}{te ta:TE}{t tk:TA}{nm:Option Str}
variable{g:List Value->List Value->List Value}{gV:List V->List V->List V}
end
structure Jy (N P:List Str) (sc:Yp):Prop where
 kind:sc.kind=.function
 co:sc.isCoroutine=false
 gen:sc.isGenerator=false
 nd:N.Nodup
 pre:N.take P.length=P
 par:∀x∈P,sc.names.lookup x=some .local∨sc.names.lookup x=some .cell
 nofree:∀y∈sc.names,y.2≠.free
theorem QhL{kindOf:Str->Option Qa6}{x:Str}:∀{binds:List (Str×Value)}{m:Str->Option Value},(∀v,(x,v)∉binds)->bindL kindOf binds m x=m x
 |[],_,_=>rfl
 |(n,v)::r,m,h=>by
  unfold bindL;rw[QhL λw hw=>h w (Jq _ hw)];split
  ·have:x≠n:=by rintro rfl;exact h v Zi
   simp[this]
  ·rfl
theorem QhN{kindOf:Str->Option Qa6}{x:Str}:∀{binds:List (Str×Value)}{m:Str->Option Value},(∀v,(x,v)∉binds)->bindC kindOf binds m x=m x
 |[],_,_=>rfl
 |(n,v)::r,m,h=>by
  unfold bindC;rw[QhN λw hw=>h w (Jq _ hw)];split
  ·rfl
  ·have:x≠n:=by rintro rfl;exact h v Zi
   simp[this]
theorem QhM{kindOf:Str->Option Qa6}{x:Str}{v:Value}:∀{P:List Str}{vs:List Value}{i:Nat}{m:Str->Option Value},P.Nodup->P[i]? = some x->vs[i]? = some v->kindOf x=some .local ->
  bindL kindOf (P.zip vs) m x=some v
 |[],_,_,_,_,h,_,_=>by simp at h
 |_::_,[],_,_,_,_,h,_=>by simp at h
 |p::P,w::vs,0,m,nd,h1,h2,hk=>by
  simp at h1 h2;subst h1;subst h2;show bindL kindOf ((p,w)::P.zip vs) m p=_;unfold bindL;rw[QhL λv hv=>(QcH.mp nd).1 (QcG hv).1,if_pos hk];simp
 |p::P,w::vs,i+1,m,nd,h1,h2,hk=>by
  show bindL kindOf ((p,w)::P.zip vs) m x=_;unfold bindL;exact QhM (i:=i) (QcH.mp nd).2 (by simpa using h1) (by simpa using h2) hk
theorem QhO{kindOf:Str->Option Qa6}{x:Str}{v:Value}:∀{P:List Str}{vs:List Value}{i:Nat}{m:Str->Option Value},P.Nodup->P[i]? = some x->vs[i]? = some v->kindOf x≠some .local ->
  bindC kindOf (P.zip vs) m x=some v
 |[],_,_,_,_,h,_,_=>by simp at h
 |_::_,[],_,_,_,_,h,_=>by simp at h
 |p::P,w::vs,0,m,nd,h1,h2,hk=>by
  simp at h1 h2;subst h1;subst h2;show bindC kindOf ((p,w)::P.zip vs) m p=_;unfold bindC;rw[QhN λv hv=>(QcH.mp nd).1 (QcG hv).1,if_neg hk];simp
 |p::P,w::vs,i+1,m,nd,h1,h2,hk=>by
  show bindC kindOf ((p,w)::P.zip vs) m x=_;unfold bindC;exact QhO (i:=i) (QcH.mp nd).2 (by simpa using h1) (by simpa using h2) hk
def start(N:List Str)(vs:List V):St:=vs.map some++JI (N.length - vs.length) none
def cxOf(CX:CXT)(P:QB)(w:Jl)(K:PySem.W.Frag)(mg:Str->Option Value)(base:Za)(N:List Str)(qual:Str)(scope:Yp)(f:Addr)(cd:Value)(A:Q9)(outer:List Env)(s:Shared)(H:Hp)(E:XK):Cx where
 prog:=P
 w:=w
 K:=K
 mg:=mg
 base:=base
 A:=A.deeper (envOfC qual scope s.heap.objs.size f cd)
 N:=N
 s₀:=s
 H₀:=H
 env:=envOfC qual scope s.heap.objs.size f cd
 outer:=outer
 stack:=envOfC qual scope s.heap.objs.size f cd::outer
 ex:=[]
 calm:=true
 fn:=λ_=>true
 pn:=[]
 xe:=λe s'=>wpAny (model P w) (A.deeper (envOfC qual scope s.heap.objs.size f cd)) (leaving (envOfC qual scope s.heap.objs.size f cd) e) (λ_ s''=>CX outer H s E e s'') (λe' s''=>CX outer H s E e' s'') s'
theorem QjT{sc:Yp}{n:Nat}{x:Str}(h:sc.names.lookup x=some .cell):∃c,(cellsFrom n sc.names []).lookup x=some c:=by
 have q:=PySem.W.cellsFrom_some sc.names n [] (.inl h);exact QgY.mp q
theorem Qhy{CX:CXT}{P:QB}{w:Jl}{K:PySem.W.Frag}{mg:Str->Option Value}{base:Za}{N ps:List Str}{qual:Str}{scope:Yp}{f:Addr}{cd:Value}{A:Q9}{outer:List Env}{s s1:Shared}{H:Hp}{E:XK}{us:List Value}{vs:List V}
  (S:Jy N ps scope)(hd:A.handled=none)(e0:Env0 P w K mg base A outer s H)(hl:vs.length=ps.length)(r:Vals vs us)
  (x:InCallC s s.heap.objs.size (bindL (envOfC qual scope s.heap.objs.size f cd).kindOf (ps.zip us) λ_=>none) (cellsFrom (s.heap.objs.size+1) scope.names []) (bindC (envOfC qual scope s.heap.objs.size f cd).kindOf (ps.zip us) λ_=>none) s1) :
  Inv (cxOf CX P w K mg base N qual scope f cd A outer s H E) [] (start N vs) H s1:=by
 have hpl:ps.length<=N.length:=by have:=congrArg List.length S.pre;rw[Jo] at this;omega
 obtain⟨h1,tk,rfl,hk⟩:=x.done;have noA:∀b:Addr,b∉(cxOf CX P w K mg base N qual scope f cd A outer s H E).ex:=λb z=>absurd (show b∈([]:List Addr) from z) (by simp)
 refine⟨⟨e0.mod,S.kind,rfl,rfl,Qk _,λy z c h1 h2=>?_,λy hy=>?_,λy c _ h=>?_,λ_=>hd,Around.frames_deeper e0.frames,.inr ⟨rfl,rfl⟩,λb z=>absurd z (noA b),e0.bs,e0.bsz,λb _ _=>noA b,λb z=>absurd z (noA b),e0.funs,e0.frf⟩,
  rfl,e0.bare,Un.kept hk,⟨_,x.toInCall.ns,λi y v h1 h2 h3=>?_⟩,λy c h=>⟨_,x.cell y c h⟩,e0.hok.fresh (Qk _),λy c h=>?_,λp hp=>absurd (show p∈([]:List (Addr×Obj)) from hp) (by simp),e0.hok.kept hk,?_⟩
 ·exact name_of_addr x.apart (PySem.mem_of_lookup h1) (PySem.mem_of_lookup h2)
 ·have hy:scope.names.lookup y=some .cell∨scope.names.lookup y=some .free:=hy;rcases hy with hy | hy
  ·exact QjT hy
  ·exact absurd rfl (S.nofree _ (PySem.mem_of_lookup hy))
 ·exact Z5 (x.above y c (PySem.mem_of_lookup h))
 ·have hi:i<vs.length:=by
   unfold start at h2;by_cases hi:i<vs.length
   ·exact hi
   ·rw[JR (by simpa using hi)] at h2;rw[Qcb] at h2;split at h2<;>cases h2
  have ha:vs[i]? = some v:=by
   unfold start at h2;rw[Zz (by simpa using hi),Q5] at h2;cases e:vs[i]? with
   |none=>rw[e] at h2;cases h2
   |some a=>rw[e] at h2;cases h2;rfl
  obtain⟨u,hu,rv⟩:=r.get ha;have hp:ps[i]? = some y:=by
   rw[<- S.pre,List.getElem?_take_of_lt (by omega)];exact h1
  have ndP:ps.Nodup:=by rw[<- S.pre];exact S.nd.sublist (Qp2 _ _)
  refine⟨u,rv,?_⟩;rcases S.par y (QM hp) with k | k
  ·exact .inl ⟨k,QhM ndP hp hu k⟩
  ·obtain⟨c,e⟩:=QjT (n:=s.heap.objs.size+1) k;refine .inr ⟨.inl k,c,e,?_⟩;have q:=x.cell y c e;rw[QhO ndP hp hu (by show scope.names.lookup y≠_;rw[k];decide)] at q;exact q
 ·exact e0.hok.fresh (Z5 (x.above y c (PySem.mem_of_lookup h)))
 ·unfold start;show _=N.length;rw[Qd,Qe,QcK];omega
theorem Qv9{CX:CXT}{P:QB}{w:Jl}{K:PySem.W.Frag}{mg:Str->Option Value}{base:Za}{k:Nat}{f:Addr}{name qual:Str}{params:Arguments}{body:List Z4}{scope:Yp}{dV kV doc pm cdv ct oc:Value}{an od:Option Addr}
  {osl:Array (Option Value)} {N ps:List Str} {sp:Sp} (lk:K.lookup f=some ⟨oc,od,.func (PySem.W.fnOf name qual params body scope dV kV doc pm an cdv ct),osl⟩) (hcd:PySem.W.codeIn K cdv qual=true) (S:Jy N ps scope)
  (len:∀vs H Q E,sp vs H Q E->vs.length=ps.length)
  (hbody:∀(A:Q9)(outer:List Env)(s:Shared)(H:Hp)(vs:List V)(Q:VK)(E:XK),Room k (A.deeper (envOfC qual scope s.heap.objs.size f cdv))->sp vs H Q E ->
   ∃t,PSs (cxOf CX P w K mg base N qual scope f cdv A outer s H E) body t/\t { nx:=λ_ H'=>Q .non H',rt:=Q } (start N vs) H) :
  FnOk P w K mg base CX (k+1) f (PySem.W.fnOf name qual params body scope dV kV doc pm an cdv ct) ps sp:=by
 refine⟨len,λA outer s H args us vs Q E hr e0 hb r hsp=>?_⟩;have hl:=len _ _ _ _ hsp;have KX:K.In s.heap:=e0.mod.kin.keeps λb o e=>(e0.bs b o e).1
 have lim:s.heap.NoLimit:=e0.mod.nolimit.keeps λb o e=>(e0.bs b o e).1
 have hkind:∀y∈ps.zip us,scope.names.lookup y.1=some .local∨(scope.names.lookup y.1=some .cell/\((cellsFrom (s.heap.objs.size+1) scope.names []).lookup y.1).isSome=true):=λ⟨n,v⟩ hy=>by
  rcases S.par n (QcG hy).1 with q | q
  ·exact .inl q
  ·exact .inr ⟨q,PySem.W.cellsFrom_some _ _ _ (.inl q)⟩
 refine Qr4 hr.depth (KX _ _ lk) rfl S.co S.gen rfl (PySem.W.codeRec_of KX hcd) (hb _ _ _ _ ?_);refine QkN S.kind hkind λenv he s1 x=>?_
 subst he;refine⟨lim.keeps x.toInCall.keep,codeAny_func ?_⟩;obtain⟨t,ht,hq⟩:=hbody A outer s H vs Q E (hr.deeper _) hsp;have I:Inv (cxOf CX P w K mg base N qual scope f cdv A outer s H E) [] (start N vs) H s1:=Qhy S hr.hd e0 hl r x;refine wpAny_mono (ht [] s1 (start N vs) H _ I hq) (λfl s' hs=>?_) λe s' hs=>hs
 have fin:∀{σ':St}{H':Hp}{v:V}{u:Value},Inv (cxOf CX P w K mg base N qual scope f cdv A outer s H E) [] σ' H' s'->RelV v u->Q v H'->CE outer P w H s Q u s':=
  λ{σ' H' v u} J rv q=>⟨v,H',J.os,J.bare,J.base,J.hok,rv,q⟩
 cases fl with
 |ret u=>
  obtain⟨v,σ',H',J,rv,q⟩:=hs;exact fin J rv q
 |next=>
  obtain⟨σ',H',J,q⟩:=hs;exact fin (v:=V.non) (u:=ZH) J rfl q
 |brk=>
  obtain⟨_,_,_,q⟩:=hs;exact Jx q
 |cont=>
  obtain⟨_,_,_,q⟩:=hs;exact Jx q
section
variable{X:Cx}{x:Str}{p pos:Pos}{e:Q2}{es:List Q2}{t:TA}{id T:String}{r:List V->Hp->VK->Prop}
def tCB(r:List V->Hp->VK->Prop)(t:TA):TE:=λσ H Q=>t σ H λvs H1=>r vs H1 Q
theorem Zu(hc:CallR X (.builtin id) r)(hg:Gl X x)(hm:X.mg x=none)(hv:bootBuiltins x=some (.builtin id))(ha:PA X (e::es) t)(hn:x ≠ "__name__" := by decide)(hdb:(x == ("__debug__" : Str))=false:=by decide)
  (he:starEach (e::es) X.env=(false,eval e X.env)::starEach es X.env:=by rfl)(hpl:(backTo pos (starEach es X.env)).any (·.1)=false:=by rfl):PE X (.Call (.Name x p) (e::es) [] pos) (tCB r t):=by
 intro pins s σ H Q I h;refine YS (QeO I hg hm hv ?_ hn hdb);exact PyProof.Rows.callWith_builtin1 (thn (ha pos pins s σ H _ I h) λus s1 ⟨vs,H1,I1,r1,q1⟩=>hc pins s1 σ H1 vs us Q I1 r1 q1) he hpl
theorem QeF(hc:CallR X (.type T) r)(hg:Gl X x)(hm:X.mg x=none)(hv:bootBuiltins x=some (.type T))(ha:PA X (e::es) t)(hn:x ≠ "__name__" := by decide)(hdb:(x == ("__debug__" : Str))=false:=by decide)
  (he:starEach (e::es) X.env=(false,eval e X.env)::starEach es X.env:=by rfl)(hpl:(backTo pos (starEach es X.env)).any (·.1)=false:=by rfl):PE X (.Call (.Name x p) (e::es) [] pos) (tCB r t):=by
 intro pins s σ H Q I h;refine YS (QeO I hg hm hv ?_ hn hdb);exact ZJ (thn (ha pos pins s σ H _ I h) λus s1 ⟨vs,H1,I1,r1,q1⟩=>hc pins s1 σ H1 vs us Q I1 r1 q1) he hpl
end
end L2
namespace HT
theorem Qot(A:Q9)(s:Shared)(a:Int)(t:Tok)(c:Int)(u:Tok)(prog:QB)(w:Jl)(E:Value->Shared->Prop)(Q:Value->Shared->Prop)(h:Q (.bool (decide (a<c))) s) :
  wpAny (model prog w) A (richCompare .Lt (.int a t) (.int c u)) Q E s:=
 (PyProof.Rows.lt_int h:wpAny (model prog w) A (compareOp .Lt (.int a t) (.int c u)) Q E s)
section
open PySem.SeqAt
open PySem.AutoSeq1 (wpAny_loadPart')
open PySem.MeetsSeq PySem.MeetsSeq2 PySem.MeetsSeq3
end
section
variable{prog:QB}{w:Jl}{A:Q9}{E:Value->Shared->Prop}{s:Shared}
theorem Qt2{t b:Addr}{vs ws:List Value}{Q:Value->Shared->Prop}(ht:IsTup s.heap t vs.toArray)(hb:IsTup s.heap b ws.toArray)(hv:vs≠[])
  (h1:ws=[]->Q (.ref t) s)(h2:ws≠[]->Q (.ref s.heap.objs.size) { s with heap:=s.heap.push { cls:=.type "tuple",data:=.seq (vs++ws).toArray } })
  (hsz:vs.length+ws.length<=sizeLine):wpAny (model prog w) A (binaryOp .Add (.ref t) (.ref b)) Q E s:=by
 obtain⟨⟨cls,dd,data,sl⟩,ho,hc,n,hd⟩:=id ht;obtain⟨⟨cls2,dd2,data2,sl2⟩,ho2,hc2,n2,hd2⟩:=id hb;simp only at hc hd hc2 hd2;subst hc hd hc2 hd2;have e:vs.toArray++ws.toArray=(vs++ws).toArray:=by simp
 by_cases hw:ws=[]
 ·exact Qr3 ⟨_,ho,rfl⟩ ⟨_,ho2,rfl⟩ Qh1 Qn1 PySem.F.slot_tuple_add PySem.F.entry_tuple_add (PySem.F.args_tuple_add_2 _ _)
   (tuple_addW1 t b vs.toArray ws.toArray n n2 dd dd2 sl sl2 (by simpa using hv) (by simp[hw])) ⟨ho,ho2,h1 hw⟩
 ·refine Qr3 ⟨_,ho,rfl⟩ ⟨_,ho2,rfl⟩ Qh1 Qn1 PySem.F.slot_tuple_add PySem.F.entry_tuple_add (PySem.F.args_tuple_add_2 _ _)
   (tuple_addW2 t b vs.toArray ws.toArray n n2 dd dd2 sl sl2 (by simpa using hv) (by simpa using hw) (by rw[Qu,Qu];exact hsz)) ⟨ho,ho2,?_⟩
  rw[e];exact h2 hw
def sIx(n d:Nat):Option Int->Nat
 |none=>d
 |some v=>if v<0 then(v+(n:Int)).toNat else min v.toNat n
theorem Qf8(n d:Nat):sIx n d none=d:=rfl
theorem Qih(n d k:Nat):sIx n d (some (k:Int))=min k n:=by
 show(if(k:Int)<0 then((k:Int)+(n:Int)).toNat else min (k:Int).toNat n)=min k n;rw[if_neg (by omega),JL]
theorem QuR(n d:Nat)(hd:d<=n)(o:Option Int):sIx n d o<=n:=by
 cases o with
 |none=>exact hd
 |some v=>
  show(if v<0 then(v+(n:Int)).toNat else min v.toNat n)<=n;by_cases hv:v<0
  ·rw[if_pos hv];omega
  ·rw[if_neg hv];exact QfR _ _
theorem Qnp(v:Int)(n d:Nat):(if v<0 then max (v+(n:Int)) 0 else min v (n:Int))=((sIx n d (some v):Nat):Int):=by
 show(if v<0 then max (v+(n:Int)) 0 else min v (n:Int))=(((if v<0 then(v+(n:Int)).toNat else min v.toNat n):Nat):Int);by_cases hv:v<0
 ·simp only[if_pos hv];omega
 ·simp only[if_neg hv];omega
theorem QkM(lo hi:Option Int)(n:Nat):Zj lo hi 1 (n:Int)=(((sIx n 0 lo:Nat):Int),((sIx n n hi:Nat):Int)):=by
 have h1:¬((1:Int)<0):=by omega
 unfold Zj;simp only[h1,if_false];refine QwT ?_ ?_
 ·cases lo with
  |none=>rfl
  |some v=>exact Qnp v n 0
 ·cases hi with
  |none=>rfl
  |some v=>exact Qnp v n n
theorem Qkg(i j:Nat):JQ (i:Int) (j:Int) 1=j - i:=by
 unfold JQ;have h1:(1:Int) > 0:=by omega
 simp only[h1,if_true,Int.ediv_one];split<;>omega
theorem Qfq{v:Value}{o:Option Int}{Q:Option Int->Shared->Prop}(p:QhU v o)(h:Q o s):wpAny (model prog w) A (QxD v) Q E s:=by
 cases p with
 |none=>exact Qe0 h
 |int i t=>exact slicePart_int h
theorem QbQ{sl:Addr}{vl vu:Value}{lo hi:Option Int}{n:Nat}{Q:Int×Int×Nat->Shared->Prop}(hs:s.heap.IsSliceOf sl vl vu .none)(pl:QhU vl lo)(pu:QhU vu hi)
  (h:Q (((sIx n 0 lo:Nat):Int),1,sIx n n hi - sIx n 0 lo) s):wpAny (model prog w) A (Yr (.ref sl) (pure (n:Int))) Q E s:=by
 obtain⟨os,hos,hcs,hds⟩:=id hs;unfold Yr QdV;refine wpAny_bind (wpAny_bind (Zd hos hds (x:=vl) rfl (wpAny_bind (Zd hos hds (x:=vu) rfl (wpAny_bind (Zd hos hds (x:=.none) rfl (Qg ?_)))))));refine wpAny_bind (Qe0 ?_);show wpAny _ _ (if((1:Int) == 0)=true then _ else _) _ _ s;rw[if_neg (by decide)];refine wpAny_bind (Qfq pl (wpAny_bind (Qfq pu (wpAny_bind (Qg ?_)))));show wpAny _ _ (match Zj lo hi 1 (n:Int) with | (lo,hi)=>pure (lo,(1:Int),JQ lo hi 1)) _ _ s;rw[QkM lo hi n];show wpAny _ _ (pure (((sIx n 0 lo:Nat):Int),(1:Int),JQ ((sIx n 0 lo:Nat):Int) ((sIx n n hi:Nat):Int) 1)) _ _ s;rw[Qkg];exact Qg h
theorem QoE(xs:Array Value)(i k:Nat):((Jr k).filterMap λ(m:Nat)=>xs[((i:Int)+(m:Int)*1).toNat]?).toArray=((xs.toList.drop i).take k).toArray:=by
 have e:(λ(m:Nat)=>xs[((i:Int)+(m:Int)*1).toNat]?)=λm=>xs[i+m]? := by
  funext m
  have:((i:Int)+(m:Int)*1).toNat=i+m:=by omega
  rw[this]
 rw[e];have:=pick_run xs i k;rw[Qn9] at this;have e2:((λx=>xs[x]?)∘λx=>i+x)=λm=>xs[i+m]? := rfl
 rw[e2] at this;rw[this]
theorem QdA{t sl:Addr}{items:Array Value}{vl vu:Value}{lo hi:Option Int}{Q:Value->Shared->Prop}(ht:IsTup s.heap t items)(hs:s.heap.IsSliceOf sl vl vu .none)(pl:QhU vl lo)(pu:QhU vu hi)
  (hw:¬(sIx items.size 0 lo=0/\sIx items.size items.size hi=items.size))
  (h:Q (.ref s.heap.objs.size) { s with heap:=s.heap.push { cls:=.type "tuple",data:=.seq ((items.toList.drop (sIx items.size 0 lo)).take (sIx items.size items.size hi - sIx items.size 0 lo)).toArray } })
  (hsz:items.size<=sizeLine):wpAny (model prog w) A (getItem (.ref t) (.ref sl)) Q E s:=by
 have htake:sizeOk (.seq ((items.toList.drop (sIx items.size 0 lo)).take (sIx items.size items.size hi - sIx items.size 0 lo)).toArray):=by
  show((items.toList.drop (sIx items.size 0 lo)).take (sIx items.size items.size hi - sIx items.size 0 lo)).toArray.size<=sizeLine;rw[Qu,Jo,Zn,Qq];omega
 have hj:sIx items.size items.size hi<=items.size:=QuR _ _ (Qk _) hi;obtain⟨os,hos,hcs,hds⟩:=id hs;have hTs:s.TypeIs (.ref sl) "slice" := ⟨os,hos,hcs⟩;unfold getItem
 try with_reducible refine J7 ?_
 first | refine wpAny_bind (Qg ?_) | skip
 refine wpAny_bind (QgT ht.typeIs (by decide) ?_);refine wpAny_bind (Zr (name:=QaL "__getitem__") ht.typeIs Jg
  (ZO Jg ht.typeIs Qe4 ?_ (QfO _ _)))
 show wpAny _ _ (QaC (.ref t) >>= _) _ _ s;refine wpAny_bind (Qn0 ht ?_);refine wpAny_bind (QhQ hTs ?_);rw[if_pos (by decide)];refine wpAny_bind (QbQ hs pl pu ?_);have hno:¬((((sIx items.size 0 lo:Nat):Int) == 0&&(1:Int) == 1&&(sIx items.size items.size hi - sIx items.size 0 lo) == items.size)=true):=by
  intro q;rw[JJ,JJ] at q;have q1:((sIx items.size 0 lo:Nat):Int)=0:=eq_of_beq q.1.1;have q2:sIx items.size items.size hi - sIx items.size 0 lo=items.size:=eq_of_beq q.2;exact hw ⟨by omega,by omega⟩
 show wpAny _ _ (if(((sIx items.size 0 lo:Nat):Int) == 0&&(1:Int) == 1&&(sIx items.size items.size hi - sIx items.size 0 lo) == items.size)=true then _ else _) _ _ s;rw[if_neg hno,QoE]
 first
  |exact wpAny_bind (m:=JS _) (JC (Qg ⟨_,rfl,Qg h⟩) htake)
  |exact wpAny_bind (m:=JS _) (JC (wpAny_bind (Qg (Qg ⟨_,rfl,Qg h⟩))) htake)
  |exact wpAny_bind (wpAny_bind (m:=JS _) (JC (Qg (Qg ⟨_,rfl,Qg h⟩)) htake))
  |exact wpAny_bind (wpAny_bind (m:=JS _) (JC (Qg ⟨_,rfl,Qg h⟩) htake))
end
end HT
namespace L2
abbrev TO:=St->Hp->(Option Int->Hp->Prop)->Prop
def PO(X:Cx)(e:Option Q2)(t:TO):Prop:=
 ∀(pins:List (Addr×Obj))(s:Shared)(σ:St)(H:Hp)(Q:Option Int->Hp->Prop),Inv X pins σ H s->t σ H Q ->
  wpAny (model X.prog X.w) X.A (evalPart e X.env) (λu s'=>∃o H',Inv X pins σ H' s'/\QhU u o/\Q o H') X.xe s
def Qsh:TO:=λ_ H Q=>Q none H
def QuG(t:TE):TO:=λσ H Q=>t σ H λx H1=>∃i,x=.int i/\Q (some i) H1
theorem intsAre_of{ns:List Int}:∀{us:List Value},Vals (ns.map V.int) us->IntsAre us ns:=by
 induction ns with
 |nil=>intro us r;rw[Qe8] at r;cases r;exact .nil
 |cons n ns ih=>
  intro us r;rw[Jh] at r;cases r with
  |cons r1 r2=>
   obtain⟨t,e⟩:=r1;subst e;exact .cons n t (ih r2)
section
variable{X:Cx}{e:Q2}{te:TE}{lo hi:Option Q2}{tl th:TO}{pos p2:Pos}
theorem QsG:PO X none Qsh:=by
 intro pins s σ H Q I h;rw[Qn3];exact Qg ⟨none,H,I,.none,h⟩
theorem QlS(h:PE X e te):PO X (some e) (QuG te):=by
 intro pins s σ H Q I hw;rw[evalPart_some];refine thn (h pins s σ H _ I hw) λu s1 ⟨x,H1,I1,r1,q1⟩=>?_
 obtain⟨i,rfl,q⟩:=q1;obtain⟨t,rfl⟩:=r1;exact⟨some i,H1,I1,.int i t,q⟩
def SlR(X:Cx)(r:V->Option Int->Option Int->Hp->VK->Prop):Prop:=
 ∀(pins:List (Addr×Obj))(s:Shared)(σ:St)(H:Hp)(x:V)(v vl vu:Value)(lo hi:Option Int)(sl:Addr)(Q:VK),Inv X pins σ H s->RelV x v->s.heap.IsSliceOf sl vl vu .none->QhU vl lo->QhU vu hi->r x lo hi H Q ->
  ∃T id,typeLookup (.type T) "__getitem__" = pure (some (.builtin id))/\s.TypeIs v T/\wpAny (model X.prog X.w) X.A (getItem v (.ref sl)) (EP X pins σ Q) X.xe s
def tSl(r:V->Option Int->Option Int->Hp->VK->Prop)(te:TE)(tl th:TO):TE:=λσ H Q=>te σ H λx H1=>tl σ H1 λl H2=>th σ H2 λu H3=>r x l u H3 Q
theorem QoG{r:V->Option Int->Option Int->Hp->VK->Prop}(hr:SlR X r)(he:PE X e te)(hl:PO X lo tl)(hu:PO X hi th):PE X (.Subscript e (.Slice lo hi none p2) pos) (tSl r te tl th):=by
 intro pins s σ H Q I h;refine Qxi (thn (he pins s σ H _ I h) λv s1 ⟨x,H1,I1,r1,q1⟩=>?_);refine wpAny_Slice (thn (hl pins s1 σ H1 _ I1 q1) λvl s2 ⟨l,H2,I2,pl,q2⟩=>thn (hu pins s2 σ H2 _ I2 q2) λvu s3 ⟨u,H3,I3,pu,q3⟩=>?_);rw[Qn3];refine Qg ?_
 have I4:Inv X pins σ H3 { s3 with heap:=s3.heap.push { cls:=.type "slice",data:=.fields #[vl,vu,.none] } }:=I3.kept (t':=s3.toks) λb ob q=>Qf _ q
 obtain⟨T,id,hT,ht,hg⟩:=hr pins { s3 with heap:=s3.heap.push { cls:=.type "slice",data:=.fields #[vl,vu,.none] } } σ H3 x v vl vu l u s3.heap.objs.size Q I4 r1 (QfU ..) pl pu q3;show wpAny (model X.prog X.w) X.A (subscriptTail e (.Slice lo hi none p2) v (.ref s3.heap.objs.size)) (EP X pins σ Q) X.xe { s3 with heap:=s3.heap.push { cls:=.type "slice",data:=.fields #[vl,vu,.none] } };exact tail_any (ops:=[.ref s3.heap.objs.size,v]) ht hT hg (by with_unfolding_all rfl)
def QkX(xs:List V)(lo hi:Option Int):List V:=(xs.drop (HT.sIx xs.length 0 lo)).take (HT.sIx xs.length xs.length hi - HT.sIx xs.length 0 lo)
theorem QeV(xs:List V)(lo hi:Option Int):(QkX xs lo hi).length<=xs.length:=by
 unfold QkX;rw[Jo,Zn];omega
def QzC(K:PySem.W.Frag):V->Option Int->Option Int->Hp->VK->Prop:=λx lo hi H Q=>∃a xs,x=.ref a/\SqT K H a xs /\
 ¬(HT.sIx xs.length 0 lo=0/\HT.sIx xs.length xs.length hi=xs.length)/\∀p,H p=none->Q (.ref p) (upd H p (.tup (QkX xs lo hi)))
theorem QuL:SlR X (QzC X.K):=by
 intro pins s σ H x v vl vu lo hi sl Q I rx hs pl pu h;obtain⟨a,xs,rfl,hx,hw,q⟩:=h;cases rx;obtain⟨its,r,ht,hz⟩:=I.tuple hx;have hlen:its.toArray.size=xs.length:=by rw[Qu];exact r.length.symm
 refine⟨"tuple",_,Jg.lookup,ht.typeIs,?_⟩;refine HT.QdA ht hs pl pu (by rw[hlen];exact hw) ?_ (by rw[hlen];exact hz)
 rw[hlen];refine⟨.ref s.heap.objs.size,_,I.laid (t':=s.toks) (o:=.tup (QkX xs lo hi)) (λb ob q=>Qf _ q) (Qk _) ?_,rfl,q _ (I.hok.fresh (Qk _))⟩;exact⟨Jc (QeV xs lo hi) hz,_,(r.drop (HT.sIx xs.length 0 lo)).take (HT.sIx xs.length xs.length hi - HT.sIx xs.length 0 lo),Qj4 _ _⟩
def QxY(K:PySem.W.Frag):R2:=λx y H Q=>∃a b xs ys,x=.ref a/\y=.ref b/\SqT K H a xs/\SqT K H b ys/\xs≠[]/\xs.length+ys.length<=sizeLine /\
 (ys=[]->Q (.ref a) H)/\(ys≠[]->∀p,H p=none->Q (.ref p) (upd H p (.tup (xs++ys))))
theorem Vals.nil_iff{xs:List V}{us:List Value}(r:Vals xs us):us=[]↔xs=[]:=by
 cases r with
 |nil=>simp
 |cons _ _=>simp
theorem Qs9:OpR X (binaryOp .Add) (QxY X.K):=by
 intro pins s σ H x y v u Q I rx ry h;obtain⟨a,b,xs,ys,rfl,rfl,ha,hb,hx,hz,q1,q2⟩:=h;cases rx;cases ry;obtain⟨its,r1,p1,_⟩:=I.tuple ha;obtain⟨its2,r2,p2,_⟩:=I.tuple hb;refine HT.Qt2 p1 p2 (λz=>hx (r1.nil_iff.mp z)) (λz=>⟨.ref a,H,I,rfl,q1 (r2.nil_iff.mp z)⟩) (λz=>?_) (by rw[<- r1.length,<- r2.length];exact hz);refine⟨.ref s.heap.objs.size,_,I.laid (t':=s.toks) (o:=.tup (xs++ys)) (λb ob q=>Qf _ q) (Qk _) ?_,rfl,q2 (λw=>z (r2.nil_iff.mpr w)) _ (I.hok.fresh (Qk _))⟩;exact⟨by rw[Qd];exact hz,_,r1.append r2,Qj4 _ _⟩
end
def ixN(n:Nat)(i:Int):Option Nat:=if 0<=i then(if i<n then some i.toNat else none) else if -(n:Int)<=i then some (i+n).toNat else none
def atI{α:Type}(xs:List α)(i:Int):Option α:=(ixN xs.length i).bind λj=>xs[j]?
theorem QmN{n:Nat}{i:Int}{j:Nat}(h:ixN n i=some j):seqIndex? i n=some j/\j<n /\ -(n:Int)<=i/\i<n:=by
 unfold ixN at h;by_cases h0:0<=i
 ·rw[if_pos h0] at h;by_cases h1:i<n
  ·rw[if_pos h1] at h;have e:i.toNat=j:=Qy h;exact⟨by rw[Qum h0 h1,e],by omega,by omega,h1⟩
  ·rw[if_neg h1] at h;cases h
 ·rw[if_neg h0] at h;by_cases h1 : -(n:Int)<=i
  ·rw[if_pos h1] at h;have e:(i+n).toNat=j:=Qy h;exact⟨by rw[Qr0 (by omega) h1,e],by omega,h1,by omega⟩
  ·rw[if_neg h1] at h;cases h
theorem QnD{α:Type}{xs:List α}{i:Int}{v:α}(h:atI xs i=some v):∃j,seqIndex? i xs.length=some j/\xs[j]? = some v/\j<xs.length /\ -(xs.length:Int)<=i/\i<xs.length:=by
 unfold atI at h;cases e:ixN xs.length i with
 |none=>rw[e] at h;cases h
 |some j=>
  rw[e] at h;obtain⟨h1,h2,h3,h4⟩:=QmN e;exact⟨j,h1,h,h2,h3,h4⟩
theorem QaV{α:Type}{xs:List α}{j:Nat}{v:α}(h:xs[j]? = some v):atI xs (j:Int)=some v:=by
 have hj:j<xs.length:=(QU.mp h).1;have e:ixN xs.length (j:Int)=some j:=by
  unfold ixN;rw[if_pos (by omega),if_pos (by omega)];simp
 unfold atI;rw[e];exact h
theorem QpW{α:Type}(xs:List α)(v:α):atI (xs++[v]) (-1)=some v:=by
 have hl:(xs++[v]).length=xs.length+1:=by simp
 have e:ixN (xs++[v]).length (-1)=some xs.length:=by
  unfold ixN;rw[hl,if_neg (by decide),if_pos (by omega)]
  congr 1
  omega
 unfold atI;rw[e];show(xs++[v])[xs.length]? = some v;simp
def QgJ(b:Q2):Prop:=∀o i,subscripted b false o i=operate [o,i] (getItem o i)
def IxR(X:Cx)(r:R2):Prop:=
 ∀(value slice:Q2)(pins:List (Addr×Obj))(s:Shared)(σ:St)(H:Hp)(x y:V)(v u:Value)(Q:VK),Inv X pins σ H s->RelV x v->RelV y u->r x y H Q ->
  subscripted slice false v u=operate [v,u] (getItem v u)->wpAny (model X.prog X.w) X.A (subscriptTail value slice v u) (EP X pins σ Q) X.xe s
def MtR(X:Cx)(id:String)(r:V->List V->Hp->VK->Prop):Prop:=
 ∀(pins:List (Addr×Obj))(s:Shared)(σ:St)(H:Hp)(x:V)(xs:List V)(v:Value)(us:List Value)(Q:VK),Inv X pins σ H s->RelV x v->Vals xs us->r x xs H Q ->
  wpAny (model X.prog X.w) X.A (call (.builtin id) (v::us)) (EP X pins σ Q) X.xe s
section
variable{X:Cx}{a b:Q2}{ta tb:TE}{pos:Pos}
theorem Qkh{r:R2}(hr:IxR X r)(ha:PE X a ta)(hb:PE X b tb)(hs:QgJ b):PE X (.Subscript a b pos) (tOp r ta tb):=by
 intro pins s σ H Q I h;exact Qxi (QyE ha hb I h λv u s2 x y H2 I2 rx ry q=>hr a b pins s2 σ H2 x y v u Q I2 rx ry q (hs _ _))
def QyS(K:PySem.W.Frag):R2:=λx y H Q=>∃p xs i v,x=.ref p/\y=.int i/\SqL K H p xs/\atI xs i=some v/\Q v H
def QyR(K:PySem.W.Frag):R2:=λx y H Q=>∃p xs i v,x=.ref p/\y=.int i/\SqT K H p xs/\atI xs i=some v/\Q v H
theorem Qdx:IxR X (QyS X.K):=by
 intro value slice pins s σ H x y v u Q I rx ry h hs;obtain⟨p,xs,i,z,rfl,rfl,hq,he,q⟩:=h;cases rx;obtain⟨t,rfl⟩:=ry;obtain⟨its,r,pl,hz⟩:=I.list hq;obtain⟨j,h1,h2,h3,h4,h5⟩:=QnD he;obtain⟨w,ew,rw'⟩:=r.get h2;have hl:=r.length;have hn:=QjA;have fin:EP X pins σ Q w s:=⟨z,H,I,rw',q⟩;by_cases h0:0<=i
 ·have hj:i.toNat=j:=by
   rw[Qum h0 h5] at h1;exact Qy h1
  exact item_listR pl.isList h0 (by omega) (by rw[hj];simpa using ew) fin hs
 ·have hj:(i+(its.toArray.size:Int)).toNat=j:=by
   rw[Qr0 (by omega) h4] at h1;rw[Qu,<- hl];exact Qy h1
  exact QpY (x:=w) pl.isList.typeIs Qxe.lookup
   (wpAny_getItem_list_neg (Q:=λr s'=>r=w/\EP X pins σ Q r s') pl.isList (by omega) (by rw[Qu]<;>omega) (by omega) (by rw[hj];simpa using ew) ⟨rfl,fin⟩) hs
theorem Qv3:IxR X (QyR X.K):=by
 intro value slice pins s σ H x y v u Q I rx ry h hs;obtain⟨p,xs,i,z,rfl,rfl,hq,he,q⟩:=h;cases rx;obtain⟨t,rfl⟩:=ry;obtain⟨its,r,pl,hz⟩:=I.tuple hq;obtain⟨j,h1,h2,h3,h4,h5⟩:=QnD he;obtain⟨w,ew,rw'⟩:=r.get h2;have hl:=r.length;have hn:=QjA;have fin:EP X pins σ Q w s:=⟨z,H,I,rw',q⟩;exact QpY (x:=w) pl.typeIs slot_tuple_getitem.lookup
  (getItem_tuple (j:=j) (Q:=λr s'=>r=w/\EP X pins σ Q r s') pl (by omega) (by omega) (by rw[Qu,<- hl];exact h1) (by simpa using ew) ⟨rfl,fin⟩) hs
theorem Qkq(its:List Value)(n j:Nat)(u:Value):Yg (·.setIfInBounds j u) { cls:=.type "list",data:=.seq its.toArray n }={ cls:=.type "list",data:=.seq (its.set j u).toArray n }:=by
 simp[Yg]
theorem Inv.lst{pins:List (Addr×Obj)}{σ:St}{H:Hp}{s:Shared}{p:Addr}{xs:List V}(I:Inv X pins σ H s)(h:H p=some (.lst xs)) :
  ∃(its:List Value)(n:Nat),Vals xs its/\s.heap.get? p=some { cls:=.type "list",data:=.seq its.toArray n }/\xs.length<=sizeLine:=by
 obtain⟨z,its,n,r,e⟩:=I.hok p _ h;exact⟨its,n,r,e,z⟩
theorem Inv.lstUpd{pins:List (Addr×Obj)}{σ:St}{H:Hp}{s:Shared}{p:Addr}{xs ys:List V}{its its':List Value}{n n':Nat}{f:Obj->Obj}(I:Inv X pins σ H s)(h:H p=some (.lst xs))
  (ho:s.heap.get? p=some { cls:=.type "list",data:=.seq its.toArray n })(hf:f { cls:=.type "list",data:=.seq its.toArray n }={ cls:=.type "list",data:=.seq its'.toArray n' })(r:Vals ys its')(hz:ys.length<=sizeLine)(t:Nat) :
  Inv X pins σ (upd H p (.lst ys)) { s with heap:=s.heap.update p f,toks:=t }:=by
 have e:(s.heap.update p f).get? p=some { cls:=.type "list",data:=.seq its'.toArray n' }:=by
  rw[QkU f ho (by rw[hf]<;>rfl),hf]
 refine I.write (x:=p) (e:=p) (by rw[h];trivial) (.inl rfl) (λb u hb q=>(Qj5 _ _ (Qdc hb)).trans q) ⟨_,e⟩ ?_
 exact⟨hz,its',n',r,e⟩
def QuX:V->V->V->Hp->(Hp->Prop)->Prop:=λo i v H Q=>∃p xs k j,o=.ref p/\i=.int k/\H p=some (.lst xs)/\ixN xs.length k=some j/\Q (upd H p (.lst (xs.set j v)))
theorem Qje:Qzm X QuX:=by
 intro pins s σ H o i v ov iv u Q I ro ri rv h;obtain⟨p,xs,k,j,rfl,rfl,hp,hj,q⟩:=h;cases ro;obtain⟨t,rfl⟩:=ri;obtain⟨its,n,r,ho,hz⟩:=I.lst hp;obtain⟨h1,h2,h3,h4⟩:=QmN hj;have hl:=r.length;have hn:=QjA;have I':Inv X pins σ (upd H p (.lst (xs.set j v))) { s with heap:=s.heap.update p (Yg (·.setIfInBounds j u)) }:=
  I.lstUpd hp ho (Qkq its n j u) (r.set rv j) (by rw[ZG];exact hz) s.toks
 by_cases h0:0<=k
 ·have hk:k.toNat=j:=by
   rw[Qum h0 h4] at h1;exact Qy h1
  exact PySem.W.ki_setAt ho h0 (by omega) (by rw[Qu,<- hl];exact h4) (by rw[hk];exact⟨_,I',q⟩)
 ·have hk:(k+(its.toArray.size:Int)).toNat=j:=by
   rw[Qr0 (by omega) h3] at h1;rw[Qu,<- hl];exact Qy h1
  exact PySem.W.ki_setBack ho (by omega) (by rw[Qu,<- hl];exact h3) (by omega) (by rw[hk];exact⟨_,I',q⟩)
theorem Qhd(lo hi:Option Int)(n:Nat):(sliceBounds lo hi none n).1=((HT.sIx n 0 lo:Nat):Int)/\(sliceBounds lo hi none n).2.1=((HT.sIx n n hi:Nat):Int)/\(sliceBounds lo hi none n).2.2=1:=by
 refine⟨?_,?_,rfl⟩
 ·cases lo with
  |none=>simp[sliceBounds,HT.sIx]
  |some i=>
   simp only[sliceBounds,HT.sIx,Qn7,show(1:Int) > 0 by decide,if_true];by_cases h:i<0
   ·simp only[h,if_true]<;>omega
   ·simp only[h,if_false]<;>omega
 ·cases hi with
  |none=>simp[sliceBounds,HT.sIx]
  |some i=>
   simp only[sliceBounds,HT.sIx,Qn7,show(1:Int) > 0 by decide,if_true];by_cases h:i<0
   ·simp only[h,if_true]<;>omega
   ·simp only[h,if_false]<;>omega
theorem Qf6(its:List Value)(lo hi:Option Int):slicePick its.toArray lo hi none=((its.drop (HT.sIx its.length 0 lo)).take (HT.sIx its.length its.length hi - HT.sIx its.length 0 lo)).toArray:=by
 obtain⟨h1,h2,h3⟩:=Qhd lo hi its.toArray.size;unfold slicePick;rw[h1,h2,h3];simp only[sliceRange_one,pick_run,Qu]<;>rfl
def QzD(K:PySem.W.Frag):V->Option Int->Option Int->Hp->VK->Prop:=λx lo hi H Q=>∃a xs,x=.ref a/\SqL K H a xs/\∀p,H p=none->Q (.ref p) (upd H p (.lst (QkX xs lo hi)))
theorem Qsl:SlR X (QzD X.K):=by
 intro pins s σ H x v vl vu lo hi sl Q I rx hs pl pu h;obtain⟨a,xs,rfl,hx,q⟩:=h;cases rx;obtain⟨its,r,ht,hz⟩:=I.list hx;have hlen:=r.length;refine⟨"list",_,Qxe.lookup,ht.isList.typeIs,?_⟩;refine wpAny_getItem_list_slice ht.isList hs pl pu .none (by simp) ?_ (by rw[Qu]<;>omega)
 rw[Qf6,<- hlen];refine⟨.ref s.heap.objs.size,_,I.laid (t':=s.toks) (o:=.lst (QkX xs lo hi)) (λb ob q=>Qf _ q) (Qk _) ?_,rfl,q _ (I.hok.fresh (Qk _))⟩;exact⟨Jc (QeV xs lo hi) hz,_,0,(r.drop (HT.sIx xs.length 0 lo)).take (HT.sIx xs.length xs.length hi - HT.sIx xs.length 0 lo),QP _ rfl⟩
theorem Qat:CallR X (.builtin "len") (λxs H Q=>∃p ys,xs=[.ref p]/\(SqL X.K H p ys∨SqT X.K H p ys)/\Q (.int ys.length) H):=by
 intro pins s σ H xs us Q I r h;obtain⟨p,ys,rfl,hq,q⟩:=h;obtain⟨u,rfl,rx⟩:=vals1 r;cases rx;have hn:=QjA;rcases hq with hq | hq
 ·obtain⟨its,r',pl,hz⟩:=I.list hq;have hlen:=r'.length;exact Calls.call_len_list pl.isList (by simp only[Qu]<;>omega) ⟨.int ys.length,H,I.tok _,⟨s.toks+1,by rw[Qu,hlen]⟩,q⟩
 ·obtain⟨its,r',pl,hz⟩:=I.tuple hq;have hlen:=r'.length;exact len_tuple pl (by simp only[Qu]<;>omega) ⟨.int ys.length,H,I.tok _,⟨s.toks+1,by rw[Qu,hlen]⟩,q⟩
theorem QhH:CallR X (.type "list") (λxs H Q=>∃p ys,xs=[.ref p]/\(SqL X.K H p ys∨SqT X.K H p ys)/\∀l,H l=none->Q (.ref l) (upd H l (.lst ys))):=by
 intro pins s σ H xs us Q I r h;obtain⟨p,ys,rfl,hq,q⟩:=h;obtain⟨u,rfl,rx⟩:=vals1 r;cases rx;have fin:∀(its:List Value),Vals ys its->ys.length<=sizeLine->∀(h':Za)(c':Nat),(∀b o',s.heap.get? b=some o'->h'.get? b=some o') ->
   h'.get? s.heap.objs.size=some { cls:=.type "list",dict:=none,data:=.seq its.toArray c',slots:=#[] }->EP X pins σ Q (.ref s.heap.objs.size) { s with heap:=h' }:=λits r' hz h' c' kp e=>
  ⟨.ref s.heap.objs.size,_,I.laid (t':=s.toks) kp (Qk _) (show ObjOk X.prog X.w _ h' _ (.lst ys) from⟨hz,its,c',r',e⟩),rfl,q _ (I.hok.fresh (Qk _))⟩
 rcases hq with hq | hq
 ·obtain⟨its,r',pl,hz⟩:=I.list hq;have hlen:=r'.length;obtain⟨o,ho,hc,n,hd⟩:=pl.isList;exact call_list_seq p (.inl rfl) ho hc hd (λh' c' kp e=>fin its r' hz h' c' kp e) (by simp only[Qu]<;>omega)
 ·obtain⟨its,r',pl,hz⟩:=I.tuple hq;have hlen:=r'.length;obtain⟨o,ho,hc,n,hd⟩:=pl;exact call_list_seq p (.inr rfl) ho hc hd (λh' c' kp e=>fin its r' hz h' c' kp e) (by simp only[Qu]<;>omega)
theorem QgF:CallR X (.type "tuple") (λxs H Q=>∃p ys,xs=[.ref p]/\((SqL X.K H p ys/\∀l,H l=none->Q (.ref l) (upd H l (.tup ys)))∨(SqT X.K H p ys/\Q (.ref p) H))):=by
 intro pins s σ H xs us Q I r h;obtain⟨p,ys,rfl,h⟩:=h;obtain⟨u,rfl,rx⟩:=vals1 r;cases rx;rcases h with⟨hq,q⟩ | ⟨hq,q⟩
 ·obtain⟨its,r',pl,hz⟩:=I.list hq;have hlen:=r'.length;refine call_tuple_list pl.isList (λh' kp=>?_) (by simp only[Qu]<;>omega);have I1:Inv X pins σ H { s with heap:=h' }:=I.kept (t':=s.toks) kp;have I2:Inv X pins σ (upd H h'.objs.size (.tup ys)) { s with heap:=h'.push { cls:=.type "tuple",data:=.seq its.toArray } }:=
   I1.laid (t':=s.toks) (λb o e=>Qf _ e) (Qk _) (show ObjOk X.prog X.w _ _ _ (.tup ys) from⟨hz,its,r',Qj4 _ _⟩)
  exact⟨.ref h'.objs.size,_,I2,rfl,q _ (I1.hok.fresh (Qk _))⟩
 ·obtain⟨its,r',pl,hz⟩:=I.tuple hq;exact call_tuple_same pl ⟨.ref p,H,I,rfl,q⟩
def tyV(K:PySem.W.Frag)(T:String)(x:V)(H:Hp):Prop:=match x with
 |.str _=>T = "str"
 |.int _=>T = "int"
 |.ref p=>(T = "list" /\ ∃xs,SqL K H p xs)∨(T = "tuple" /\ ∃o,K.lookup p=some o/\o.cls=.type "tuple" /\ o.dict=none) ∨
   (T = "dict" /\ ((∃kvs,H p=some (.dK kvs))∨∃kvs,H p=some (.dT kvs)))∨(T = "set" /\ ∃S n,H p=some (.set S n))
 |_=>False
theorem Quz{pins:List (Addr×Obj)}{σ:St}{H:Hp}{s:Shared}{T:String}{x:V}{v:Value}(I:Inv X pins σ H s)(r:RelV x v)(ty:tyV X.K T x H) :
  s.TypeIs v T/\∀a,v=.ref a->∃ob,s.heap.get? a=some ob/\ob.dict=none:=by
 cases x with
 |str z=>
  obtain⟨t,rfl⟩:=r;cases(show T = "str" from ty);exact⟨typeIs_str s z t,λ_ e=>nomatch e⟩
 |int i=>
  obtain⟨t,rfl⟩:=r;cases(show T = "int" from ty);exact⟨Qxd s i t,λ_ e=>nomatch e⟩
 |ref p=>
  cases r;rcases ty with⟨rfl,xs,hq⟩ | ⟨rfl,o,hk,hc,hd⟩ | ⟨rfl,hk⟩ | ⟨rfl,S,n,hk⟩
  ·obtain⟨its,_,pl,_⟩:=I.list hq;refine⟨pl.isList.typeIs,λa e=>?_⟩;cases e;obtain⟨o,n,e,c,hd,_⟩:=pl;exact⟨o,e,hd⟩
  ·refine⟨⟨o,I.kIn p o hk,hc⟩,λa e=>?_⟩;cases e;exact⟨o,I.kIn _ o hk,hd⟩
  ·have z:∃o,s.heap.get? p=some o/\o.ExactDict:=by
    rcases hk with⟨kvs,hk⟩ | ⟨kvs,hk⟩
    ·obtain⟨_,_,_,_,o,_,_,e,ex,_⟩:=I.hok p _ hk;exact⟨o,e,ex⟩
    ·obtain⟨_,_,_,_,o,_,_,e,ex,_⟩:=I.hok p _ hk;exact⟨o,e,ex⟩
   obtain⟨o,e,ex⟩:=z;refine⟨⟨o,e,ex.1⟩,λa e2=>?_⟩;cases e2;exact⟨o,e,ex.2.1⟩
  ·obtain⟨o,_,_,_,e,ex,_⟩:=I.hok p _ hk;refine⟨⟨o,e,ex.1⟩,λa e2=>?_⟩;cases e2;exact⟨o,e,ex.2.1⟩
 |_=>exact Jx ty
def tBM(K:PySem.W.Frag)(T:String)(r:V->List V->Hp->VK->Prop)(to:TE)(t:TA):TE:=λσ H Q=>to σ H λx H1=>tyV K T x H1/\t σ H1 λxs H2=>r x xs H2 Q
variable{o e:Q2}{es:List Q2}{to:TE}{t:TA}{name:Str}{apos cpos:Pos}{T id:String}{r:V->List V->Hp->VK->Prop}
theorem Ql0(pa:PlainAttrs T)(slot:Slot T name id)(hty:typeOf (.builtin id)=pure (.type "method_descriptor"))(hm:MtR X id r)(ho:PE X o to)(ha:PA X (e::es) t)
  (hbase:attributeBase o name X.env (eval o X.env)=eval o X.env:=by rfl)
  (hfew:((backTo cpos (starEach (e::es) X.env)).all (λx => !x.1)&&(backToKw cpos (keywordEach [] X.env)).all (λx=>x.1.isSome)
   && decide ((e::es).length+([]:List Qe9).length+(if([]:List Qe9).isEmpty then 0 else 1)<30))=true:=by rfl)
  (hline:(apos.endLine == cpos.line)=true:=by rfl) (hs:starEach (e::es) X.env=(false,eval e X.env)::starEach es X.env:=by rfl) (hplain:(backTo cpos (starEach es X.env)).any (·.1)=false:=by rfl) :
  PE X (.Call (.Attribute o name apos) (e::es) [] cpos) (tBM X.K T r to t):=by
 intro pins s σ H Q I h;refine wpAny_Call_method_late hbase hfew hline rfl (thn (ho pins s σ H _ I h) λv s1 ⟨x,H1,I1,r1,ty,q1⟩=>?_);obtain⟨h1,h2⟩:=Quz I1 r1 ty;refine⟨T,id,pa,slot,hty,h1,h2,?_⟩;have hA:=ha cpos pins s1 σ H1 _ I1 q1;rw[hs] at hA ⊢;refine Calls.callWith_builtin (by show(false||(backTo cpos (starEach es X.env)).any (·.1))=false;rw[hplain]<;>rfl) (QkV ?_);exact thn hA λus s2 ⟨vs,H2,I2,r2,q2⟩=>hm pins s2 σ H2 x vs v us Q I2 r1 r2 q2
end
def MtM(X:Cx)(id:String)(r:V->List V->Hp->VK->Prop):Prop:=
 ∀(pins:List (Addr×Obj))(s:Shared)(σ:St)(H:Hp)(x:V)(xs:List V)(v:Value)(us:List Value)(Q:VK),Inv X pins σ H s->RelV x v->Vals xs us->r x xs H Q ->
  wpAny (model X.prog X.w) X.A (call (.builtin id) (v::us)) (EP X pins σ Q) X.xe s
theorem Vals.one:∀{x:V}{us:List Value},Vals [x] us->∃u,us=[u]/\RelV x u
 |_,_,.cons r .nil=>⟨_,rfl,r⟩
theorem Vals.zero:∀{us:List Value},Vals [] us->us=[]
 |_,.nil=>rfl
theorem Vals.reverse{xs:List V}{us:List Value}(h:Vals xs us):Vals xs.reverse us.reverse:=by
 induction h with
 |nil=>exact .nil
 |cons r t ih=>rw[QbX,QbX];exact Vals.append ih (.cons r .nil)
theorem Vals.rep{xs:List V}{us:List Value}(h:Vals xs us):∀k:Nat,Vals (JI k xs).flatten (JI k us).flatten
 |0=>.nil
 |k+1=>by
  rw[ZT,ZT,JG,JG];exact Vals.append h (Vals.rep h k)
theorem foldl_rep(its:List Value):∀(k:Nat)(acc:List Value),
  Qp5 (λx1 x2=>x1++x2) acc.toArray (JI k its.toArray)=(acc++(JI k its).flatten).toArray
 |0,acc=>by simp
 |k+1,acc=>by
  have e:acc.toArray++its.toArray=(acc++its).toArray:=by simp
  have e2:(acc++its)++(JI k its).flatten=acc++(JI (k+1) its).flatten:=by
   rw[ZT,JG,Q3]
  rw[<- e2,<- foldl_rep its k (acc++its),<- e,ZT,QgP]
section
variable{X:Cx}{pins:List (Addr×Obj)}{σ:St}{H:Hp}{s:Shared}{l b:Addr}{xs ys zs:List V}
theorem Inv.lset{its its':List Value}{n:Nat}{f:Array Value->Array Value}{t':Nat}(I:Inv X pins σ H s)(hH:H l=some (.lst xs))
  (e:s.heap.get? l=some { cls:=.type "list",data:=.seq its.toArray n })(hf:f its.toArray=its'.toArray)(hv:Vals ys its')(hz:ys.length<=sizeLine) :
  Inv X pins σ (upd H l (.lst ys)) { s with heap:=s.heap.update l (Yg f),toks:=t' }:=by
 have q:=PySem.IsL.update e f;rw[hf] at q;refine I.write (x:=l) (e:=l) (by rw[hH];exact trivial) (.inl rfl) (λb' u hb hu=>(Qj5 s.heap (Yg f) (Qdc hb)).trans hu) ⟨_,q⟩ ?_
 exact⟨hz,its',_,hv,q⟩
theorem Inv.lnew{its:List Value}{t':Nat}(I:Inv X pins σ H s)(hv:Vals ys its)(hz:ys.length<=sizeLine) :
  Inv X pins σ (upd H s.heap.objs.size (.lst ys)) { s with heap:=s.heap.push { cls:=.type "list",data:=.seq its.toArray },toks:=t' }:=
 I.laid (λ_ _ q=>Qf _ q) (Qk _) ⟨hz,its,0,hv,QP _ rfl⟩
theorem Inv.fresh(I:Inv X pins σ H s):H s.heap.objs.size=none:=I.hok.fresh (Qk _)
theorem Inv.lstM(I:Inv X pins σ H s)(hH:H l=some (.lst xs)):xs.length<=sizeLine/\∃(its:List Value)(n:Nat),Vals xs its/\xs.length=its.length/\s.heap.get? l=some { cls:=.type "list",data:=.seq its.toArray n }:=by
 obtain⟨z,its,n,r,e⟩:=I.hok l _ hH;exact⟨z,its,n,r,r.length,e⟩
theorem Qgk{n:Nat}(h:n<=sizeLine):Zx n=false:=by
 unfold Zx;exact decide_eq_false (by omega)
end
section
variable{X:Cx}
def QlF:V->List V->Hp->VK->Prop:=λx vs H Q=>∃l xs y,x=.ref l/\vs=[y]/\H l=some (.lst xs)/\xs.length<sizeLine/\Q .non (upd H l (.lst (xs++[y])))
theorem Qht:MtM X "list.append" QlF:=by
 intro pins s σ H x vs v us Q I rx rv h;obtain⟨l,xs,y,rfl,rfl,hH,hz,q⟩:=h;cases rx;obtain⟨u,rfl,ru⟩:=rv.one;obtain⟨z,its,n,r,hl,e⟩:=I.lstM hH;refine QbO F.slot_list_append ⟨_,e,rfl⟩ F.entry_list_append (F.args_list_append_2 _ _) (PySem.list_append l its.toArray n u (by rw[Qu];omega)) ⟨e,?_⟩;refine⟨.non,_,I.lset (its':=its++[u]) hH e (by simp) (r.append (.cons ru .nil)) ?_,rfl,q⟩;rw[Qd,QcJ];omega
def QlE:V->List V->Hp->VK->Prop:=λx vs H Q=>∃l b xs zs,x=.ref l/\vs=[.ref b]/\H l=some (.lst xs)/\H b=some (.lst zs)/\xs.length+zs.length<=sizeLine/\Q .non (upd H l (.lst (xs++zs)))
theorem QmD:MtM X "list.extend" QlE:=by
 intro pins s σ H x vs v us Q I rx rv h;obtain⟨l,b,xs,zs,rfl,rfl,hH,hB,hz,q⟩:=h;cases rx;obtain⟨u,rfl,ru⟩:=rv.one;cases ru;obtain⟨z,its,n,r,hl,e⟩:=I.lstM hH;obtain⟨z2,its2,n2,r2,hl2,e2⟩:=I.lstM hB;have hsz:its.toArray.size+its2.toArray.size<=sizeLine:=by rw[Qu,Qu];omega
 have hlong:¬(!its.toArray.isEmpty&&Zx (its.toArray.size+its2.toArray.size))=true:=by
  rw[Qgk hsz,Qdh];exact QF
 refine QbO Que ⟨_,e,rfl⟩ Qsb (Qp7 _ _)
  (AutoSeq1.list_extend_list_list_0 l its.toArray n b its2.toArray n2 hlong (by rw[Qu];omega) (by omega)) ⟨e,e2,?_⟩
 refine⟨.non,_,I.lset (its':=its++its2) hH e (by simp) (r.append r2) ?_,rfl,q⟩;rw[Qd];omega
def QyZ:R2:=λx y H Q=>∃l b xs zs,x=.ref l/\y=.ref b/\H l=some (.lst xs)/\H b=some (.lst zs)/\xs.length+zs.length<=sizeLine/\∀p,H p=none->Q (.ref p) (upd H p (.lst (xs++zs)))
theorem QrC:OpR X (binaryOp .Add) QyZ:=by
 intro pins s σ H x y v u Q I rx ry h;obtain⟨l,b,xs,zs,rfl,rfl,hH,hB,hz,q⟩:=h;cases rx;cases ry;obtain⟨z,its,n,r,hl,e⟩:=I.lstM hH;obtain⟨z2,its2,n2,r2,hl2,e2⟩:=I.lstM hB;refine PySem.P.add_list e e2 ?_ (by rw[Qu,Qu];omega)
 have ea:its.toArray++its2.toArray=(its++its2).toArray:=by simp
 rw[ea];exact⟨.ref _,_,I.lnew (t':=s.toks) (r.append r2) (by rw[Qd];omega),rfl,q _ I.fresh⟩
def QyN:R2:=λx y H Q=>∃l k xs,x=.ref l/\y=.int k/\H l=some (.lst xs) /\ -(2^63)<=k/\k<2^63/\xs.length*k.toNat<=sizeLine /\
 ∀p,H p=none->Q (.ref p) (upd H p (.lst (JI k.toNat xs).flatten))
theorem Qtz{α:Type}(xs:List α)(k:Nat):(JI k xs).flatten.length=k*xs.length:=by
 induction k with
 |zero=>simp
 |succ k ih=>rw[ZT,JG,Qd,ih,Nat.succ_mul,Nat.add_comm]
theorem Qvx:OpR X (binaryOp .Mult) QyN:=by
 intro pins s σ H x y v u Q I rx ry h;obtain⟨l,k,xs,rfl,rfl,hH,h1,h2,hz,q⟩:=h;cases rx;obtain⟨t,rfl⟩:=ry;obtain⟨z,its,n,r,hl,e⟩:=I.lstM hH;have hlen:its.toArray.size*k.toNat<=sizeLine:=by rw[Qu,<- hl];exact hz
 have hcap:¬its.toArray.size*k.toNat > (2^63 - 1) / 8:=by
  have:(sizeLine:Nat)<=(2^63 - 1) / 8:=by decide
  omega
 have hfit:¬(!Builtin.List.listFitsIndex k)=true:=by
  rw[fitsIndex_both h1 h2];exact QF
 have hlong:¬Zx (its.toArray.size*k.toNat)=true:=by
  rw[Qgk hlen];exact QF
 have hnew:Qp5 (λx1 x2=>x1++x2) #[] (JI (if its.toArray.isEmpty=true then 0 else k.toNat) its.toArray)=(JI k.toNat its).flatten.toArray:=by
  have f0:∀m:Nat,Qp5 (λx1 x2=>x1++x2) #[] (JI m its.toArray)=(JI m its).flatten.toArray:=λm=>by
   have:=foldl_rep its m [];rw[QcI] at this;exact this
  rw[f0];cases its with
  |nil=>simp
  |cons a r'=>rw[if_neg (by simp)]
 refine wpAny_binaryOp_repeat_ref (T := "list") (U := "int") (by decide) ⟨_,e,rfl⟩ (λs'=>Qxd s' k t) noFill_list_mul F.fills_int_mul QxA repeat_list F.slot_int_index.lookup
  (QbO QxA (Qxd s k t) F.entry_int_rmul (F.args_int_rmul_2 _ _) (int___rmul___int_list k t l its.toArray n)
   ⟨e,rfl,⟨_,e,rfl⟩,QbO F.slot_list_mul ⟨_,e,rfl⟩ F.entry_list_mul (F.args_list_mul_2 _ _) (AutoListH.list___mul___list_int_3 l its.toArray n k t hfit hcap hlong) ⟨e,?_⟩⟩)
 rw[hnew];exact⟨.ref _,_,I.lnew (t':=s.toks) (r.rep k.toNat) (by rw[Qtz,Nat.mul_comm];exact hz),rfl,q _ I.fresh⟩
end
section
variable{prog:QB}{w:Jl}{A:Q9}{E:Value->Shared->Prop}{s:Shared}
end
section
variable{X:Cx}
end
end L2
namespace Att
open PySem.W PySem.Calls
theorem QeP{P:Params}{h:Za}:∀(ns:List Int)(vs:List Value),WellAll P h vs (ns.map WData.int)->IntsAre vs ns:=by
 intro ns;induction ns with
 |nil=>
  intro vs w;rw[Qe8] at w;cases w;exact .nil
 |cons n ns ih=>
  intro vs w;rw[Jh] at w;cases w with
  |cons a b=>
   cases a;exact .cons _ _ (ih _ b)
theorem Qlm{l:OpenLaw}{n:Nat}(hn:l.most=some n){P:Params}{h:Za}{args:List WData}{vals:List Value}
  (hpre:l.row.toRowW.claim.pre args=true)(hwl:WellAll P h vals args) :
  ∃a vs ns,vals=[JP a]/\args=[WData.list (ns.map WData.int)]/\h.get? a=some { cls:=.type "list",data:=.seq vs.toArray }/\IntsAre vs ns/\ns.length<=n:=by
 have hsh:WShape.hasAll [] args [.list .int]=true:=(pre_splitW hpre).1;have hc:l.pre.holds [] { args:=args }=true:=(pre_splitW hpre).2;obtain⟨d,r,rfl,h1,h2⟩:=hasAllW_cons hsh;obtain rfl:=hasAllW_nil h2;obtain⟨xs,rfl,h3⟩:=hasW_list h1;obtain⟨ns,rfl⟩:=items_int h3;have hlen:ns.length<=n:=by
  unfold OpenLaw.pre at hc;have h4:(WTm.not (.lt (.lit (.int (n:Int))) (.len (.arg 0)))).holds [] { args:=[.list (ns.map .int)] }=true:=by
   have h4:=(holds_andW hc).1;rw[hn] at h4;exact h4
  have h5:=condW_of h4 (w_not (w_lt w_lit (w_len_list (w_arg rfl))));rw[Qe] at h5;refine Nat.le_of_not_lt λq=>?_
  have q':(n:Int)<((ns.length:Nat):Int):=by omega
  first
   |(rw[decide_eq_true q'] at h5;exact absurd h5 (by decide))
   |(simp at h5;omega)
 cases hwl with
 |cons w1 w2=>
  cases w2;cases w1 with
  |list ho hall=>exact⟨_,_,ns,rfl,rfl,ho,QeP ns _ hall,hlen⟩
theorem QlR(l:OpenLaw)(args:List WData):l.row.toRowW.claim.post args (.bool true) args=true:=
 postW_of (r:=l.row.toRowW) (X:=(true == true))
  (show Qxf [] (.bool true) .bool=true by first | rfl | decide | simp[Qxf,WShape.arms,WShape.armsAll])
  (show(WTm.eq .res (.lit (.bool true))).value [] { args:=args,res:=some (.bool true),after:=args }=some (.bool (true == true)) from w_eq_bool (w_res rfl) w_lit) rfl
theorem QiV{l:OpenLaw}{n:Nat}{q:QB}{loose:List Str}{XP:(Str->Option Value)->Za->Prop}{YP:Jl->Za->Prop}{d:DefRec}
  (hn:l.most=some n)(hdf:d.params.defaults=[])
  (call:∀(w:Jl)(s₀ s₁:Shared)(mg mb:Str->Option Value)(fa:Addr)(o:Obj)(pm cd doc:Value)(a:Addr)(vs:List Value)(ns:List Int),
   Ground q loose [] XP w s₀ mg mb s₁.heap->YP w s₁.heap ->
   s₁.heap.get? fa=some o->o.data=.func (docDef d.name d.params d.body d.scope pm cd doc)->s₁.heap.CodeRec cd d.name->mg d.name=some (.ref fa) ->
   s₁.heap.get? a=some { cls:=.type "list",data:=.seq vs.toArray }->IntsAre vs ns->ns.length<=n->s₁.gens=#[] ->
   codeAny (model l.prog w) callerA (.call (.ref fa) ⟨[.ref a],[]⟩) (λr s'=>r=.ok (.ret (.bool true))/\OldK s₁.heap s'.heap/\s'.os=s₁.os/\QdX s'.gens) s₁) :
  WalkO q loose XP YP l.row.toRowW d [] (λf vs=>PySem.call f vs):=by
 intro w s₀ s₁ mg mb G Y fa o pm cd doc dV kV ho hd hcd hD hmg hg args vals as hpre hlay hrd hwl hlo;obtain rfl:dV=.none:=Dflts.none hD hdf;obtain rfl:kV=.none:=Dflts.noKw hD;obtain⟨a,vs,ns,rfl,rfl,hobj,hints,hlen⟩:=Qlm hn hpre hwl;refine enter_call (Qbe (call w s₀ s₁ mg mb fa o pm cd doc a vs ns G Y ho (fd_plain hd) hcd hmg hobj hints hlen hg) λr s' hq=>?_);obtain⟨rfl,h2,h3,h4⟩:=hq;exact⟨.inl ⟨.bool true,.bool true,[],rfl,λ_=>rfl,.bool true,QlR l _,λ_=>⟨Qxu,λ_ hm=>(nomatch hm)⟩⟩,h2,h3,h4⟩
section
variable{prog:QB}{w:Jl}{A:Q9}{E:Value->Shared->Prop}{s:Shared}{K:Frag}
end
end Att
namespace L2
theorem Qg2:∀{vs:List Value}{ns:List Int},IntsAre vs ns->Vals (ns.map V.int) vs
 |_,_,.nil=>.nil
 |_,_,.cons n t h=>.cons ⟨t,rfl⟩ (Qg2 h)
def QyG(H:Hp):Prop:=∀b,H b=none∨∃o xs,H b=some (.frz o (.lst xs))
theorem Qpz{P:QB}{w:Jl}{K:PySem.W.Frag}{mg mb:Str->Option Value}{CX:CXT}{k:Nat}{fa a:Addr}{fd:QQ}{x:Str}{sp:Sp}{s₁:Shared}{vs:List Value}{ns:List Int}
  (KX:K.In s₁.heap)(hns:s₁.heap.Ns mainGlobals mg)(hb:s₁.heap.Ns builtinsNs mb)(hbb:∀x:Str,x ≠ "__name__" -> mb x=bootBuiltins x)(hlim:s₁.heap.NoLimit)(hg:s₁.gens=#[])
  (ha:s₁.heap.get? a=some { cls:=.type "list",data:=.seq vs.toArray })(hi:IntsAre vs ns)(hl:ns.length<=sizeLine)(hr:Room k callerA)
  (F:∀base:Za,K.In base->base.Ns mainGlobals mg->FnOk P w K mg base CX k fa fd [x] sp)(hbind:∀(s:Shared)(u:Value),QdW s fd ⟨[u],[]⟩ [(x,u)])
  (hsp:∀H:Hp,QyG H->SqL K H a (ns.map V.int)->sp [.ref a] H (λv _=>v=.bl true) λ_ _ _=>False)
  (hCX:∀H e s',CX [] H s₁ (λ_ _ _=>False) e s'->False) :
  codeAny (model P w) callerA (.call (.ref fa) ⟨[.ref a],[]⟩) (λr s'=>r=.ok (.ret (.bool true))/\OldK s₁.heap s'.heap/\s'.os=s₁.os/\QdX s'.gens) s₁:=by
 have rv:=Qg2 hi;have lenV:=hi.length;have core:∀H:Hp,QyG H->SqL K H a (ns.map V.int)->HOk P w H s₁.heap->(∀b,H b≠none->b=a)->(H a≠none->K.lookup a=none) ->
   codeAny (model P w) callerA (.call (.ref fa) ⟨[.ref a],[]⟩) (λr s'=>r=.ok (.ret (.bool true))/\OldK s₁.heap s'.heap/\s'.os=s₁.os/\QdX s'.gens) s₁:=by
  intro H hO hS hok hA hK;have base_of:∀{b:Addr}{o:Obj},s₁.heap.get? b=some o->H b=none->(QpG s₁.heap H).get? b=some o:=λe n=>QpF e n
  have noA:∀{b:Addr}{o:Obj}{es:Array DictEntry}{ep:Nat},s₁.heap.get? b=some o->o.data=.dict es ep->H b=none:=λ{b o es ep} e d=>by
   cases q:H b with
   |none=>rfl
   |some u=>
    have e':b=a:=hA b (by rw[q];simp);subst e';rw[ha] at e;cases e;have d':Data.seq vs.toArray _=Data.dict es ep:=d;cases d'
  have nsK:∀{b:Addr}{m:Str->Option Value},s₁.heap.Ns b m->(QpG s₁.heap H).Ns b m:=λ{b m} ⟨o,es,ep,e,d,r⟩=>⟨o,es,ep,base_of e (noA e d),d,r⟩
  have hKb:K.In (QpG s₁.heap H):=λb o e=>base_of (KX b o e) (by
   cases q:H b with
   |none=>rfl
   |some u=>
    have e':b=a:=hA b (by rw[q];simp);subst e';rw[hK (by rw[q];simp)] at e;cases e)
  have hM:Mod K mg (QpG s₁.heap H):=⟨hKb,nsK hns,⟨mb,nsK hb,hbb⟩,let ⟨mc,h1,h2⟩:=hlim;⟨mc,nsK h1,h2⟩⟩;have e0:Env0 P w K mg (QpG s₁.heap H) callerA [] s₁ H:=⟨rfl,hM,λb o e=>Qtn e,Nat.le_of_eq (QmY _ _),trivial,λb hb=>absurd (show b∈([]:List Addr) from hb) (by simp),hok,.of_eq hg⟩;refine Qbe ((F _ hKb (nsK hns)).run callerA [] s₁ H ⟨[.ref a],[]⟩ [.ref a] [.ref a] _ _ hr e0 (hbind s₁ (.ref a)) (.cons rfl .nil) (hsp H hO hS)) λr s' h=>?_
  cases r with
  |error e=>exact(hCX H e s' h).elim
  |ok fl=>
   cases fl with
   |next=>exact Jx h
   |brk=>exact Jx h
   |cont=>exact Jx h
   |ret u=>
    obtain⟨v,H',os,bare,un,hok',r',q⟩:=h;have q':v=.bl true:=q;subst q';obtain rfl:u=ZP true:=r';refine⟨rfl,OldK.of_keep λb o e=>?_,os,bare⟩;cases q:H b with
    |none=>exact un.keep b o e q (by intro z;exact absurd (show b∈([]:List Addr) from z) (by simp)) (by simp)
    |some u=>
     rcases hO b with z | ⟨ob,xs,z⟩
     ·rw[q] at z;cases z
     ·have z2:=un.frzs b ob _ z;obtain⟨e1,_⟩:=hok b _ z;obtain⟨e2,_⟩:=hok' b _ z2;rw[e] at e1;cases e1;exact e2
 cases hk:K.lookup a with
 |some o=>
  have e:=KX a o hk;rw[ha] at e;cases e;refine core (λ_=>none) (λ_=>.inl rfl) (.inr ⟨_,vs.toArray,_,hk,rfl,rfl,rfl,by rw[Qu,lenV];exact hl,by simpa using rv⟩) (λb u z=>by have z':(none:Option HO)=some u:=z;cases z') (λb z=>absurd rfl z) λz=>absurd rfl z
 |none=>
  refine core (λb=>if b=a then some (.frz { cls:=.type "list",data:=.seq vs.toArray } (.lst (ns.map V.int))) else none) (λb=>?_) (.inl (.inr ⟨{ cls:=.type "list",data:=.seq vs.toArray },if_pos rfl⟩)) (λb u z=>?_) (λb z=>?_) λ_=>hk
  ·by_cases hb:b=a
   ·exact .inr ⟨_,_,if_pos hb⟩
   ·exact .inl (if_neg hb)
  ·by_cases hb:b=a
   ·have z':=(if_pos hb).symm.trans z;cases z';subst hb;exact⟨ha,by rw[Qe];exact hl,vs,_,rv,ha⟩
   ·have z':=(if_neg hb).symm.trans z;cases z'
  ·by_cases hb:b=a
   ·exact hb
   ·exact absurd (if_neg hb) z
theorem Qsf{l:PySem.W.OpenLaw}{n k:Nat}{q:QB}{loose:List Str}{XP:(Str->Option Value)->Za->Prop}{YP:Jl->Za->Prop}{d:DefRec}{K:Params->PySem.W.Frag}{CX:Jl->CXT}{sp:Jl->Sp}{x:Str}
  (hn:l.most=some n)(hn2:n<=sizeLine)(hdf:d.params.defaults=[])(hr:Room k callerA)
  (hY:∀(w:Jl)(h:Za),YP w h->(K w.params).In h)
  (F:∀(w:Jl)(mg:Str->Option Value)(fa:Addr)(h:Za),(K w.params).In h->h.Ns mainGlobals mg->mg d.name=some (.ref fa) ->
   ∃fd:QQ,(∀(s:Shared)(u:Value),QdW s fd ⟨[u],[]⟩ [(x,u)]) /\
    ∀base:Za,(K w.params).In base->base.Ns mainGlobals mg->FnOk l.prog w (K w.params) mg base (CX w) k fa fd [x] (sp w))
  (hsp:∀(w:Jl)(H:Hp)(a:Addr)(ns:List Int),ns.length<=n->QyG H->SqL (K w.params) H a (ns.map V.int)->sp w [.ref a] H (λv _=>v=.bl true) λ_ _ _=>False)
  (hCX:∀(w:Jl)(H:Hp)(s:Shared)(e:Value)(s':Shared),CX w [] H s (λ_ _ _=>False) e s'->False) :
  PySem.W.WalkO q loose XP YP l.row.toRowW d [] (λf vs=>PySem.call f vs):=by
 refine Att.QiV hn hdf λw s₀ s₁ mg mb fa o pm cd doc a vs ns G Y ho hd hcd hmg hobj hints hlen hg=>?_
 have KX:=hY w _ Y;obtain⟨fd,hb,hF⟩:=F w mg fa _ KX G.T.g hmg;exact Qpz KX G.T.g G.T.b G.T.builtins G.T.nolimit hg hobj hints (Jc hlen hn2) hr hF hb (λH hO hS=>hsp w H a ns hlen hO hS) λH e s'=>hCX w H s₁ e s'
def JN(s:Z4):Arguments:=match s with
 |.FunctionDef _ a _ _ _ _ _ _ _ _=>a
 |_=>{ posonlyargs:=[],args:=[],vararg:=none,kwonlyargs:=[],kw_defaults:=[],kwarg:=none,defaults:=[] }
def Js(s:Z4):List Z4:=match s with
 |.FunctionDef _ _ b _ _ _ _ _ _ _=>b
 |_=>[]
def Qt(s:Z4):Yp:=match s with
 |.FunctionDef _ _ _ _ _ _ sc _ _ _=>sc
 |_=>{ kind:=.function,names:=[],isGenerator:=false,isCoroutine:=false }
abbrev CX0:CXT:=λ_ _ _ _ _ _=>False
abbrev E0:XK:=λ_ _ _=>False
theorem Qvw{X:Cx}:Qc8 CX0 X E0:=λ_ _ _ _ _ _ _ h=>h.elim
structure Fun (K:PySem.W.Frag) (x qual:Str) (st:Z4) (f:Addr) (fd:QQ):Prop where
 ex:∃(oc:Value)(od:Option Addr)(kV doc pm:Value)(an:Option Addr)(cdv ct:Value)(osl:Array (Option Value)),
  fd=PySem.W.fnOf x qual (JN st) (Js st) (Qt st) .none kV doc pm an cdv ct/\K.lookup f=some ⟨oc,od,.func fd,osl⟩/\PySem.W.codeIn K cdv qual=true
 kp:PySem.W.keepIn K (.ref f)=true
section
variable{P:QB}{w:Jl}{K:PySem.W.Frag}{mg:Str->Option Value}{base:Za}
theorem Fun.ok{x qual:Str}{st:Z4}{f:Addr}{fd:QQ}{N ps:List Str}{k:Nat}{sp:Sp}(F:Fun K x qual st f fd)(S:Jy N ps (Qt st))(len:∀vs H Q E,sp vs H Q E->vs.length=ps.length)
  (hbody:∀(cdv:Value)(A:Q9)(outer:List Env)(s:Shared)(H:Hp)(vs:List V)(Q:VK)(E:XK),Room k (A.deeper (envOfC qual (Qt st) s.heap.objs.size f cdv))->sp vs H Q E ->
   ∃t,PSs (cxOf CX0 P w K mg base N qual (Qt st) f cdv A outer s H E).nox (Js st) t/\t { nx:=λ_ H'=>Q .non H',rt:=Q } (start N vs) H):FnOk P w K mg base CX0 (k+1) f fd ps sp:=by
 obtain⟨oc,od,kV,doc,pm,an,cdv,ct,osl,rfl,lk,hcd⟩:=F.ex;refine Qv9 lk hcd S len λA outer s H vs Q E hr hsp=>?_
 obtain⟨t,h,q⟩:=hbody cdv A outer s H vs Q E hr hsp;exact⟨t,h.nox,q⟩
theorem Fun.binds{x qual:Str}{st:Z4}{f:Addr}{fd:QQ}{ps:List Str}(F:Fun K x qual st f fd)
  (h:∀(kV doc pm:Value)(an:Option Addr)(cdv ct:Value)(us:List Value),us.length=ps.length->bindArgs (PySem.W.fnOf x qual (JN st) (Js st) (Qt st) .none kV doc pm an cdv ct) ⟨us,[]⟩=pure (ps.zip us)):Binds K fd ps []:=by
 obtain⟨oc,od,kV,doc,pm,an,cdv,ct,osl,rfl,lk,hcd⟩:=F.ex;exact .all (h kV doc pm an cdv ct)
theorem ZD{x qual:Str}{st:Z4}{f:Addr}{oc:Value}{od an:Option Addr}{osl:Array (Option Value)}{kV doc pm cdv ct:Value}(l:K.lookup f=some ⟨oc,od,.func (PySem.W.fnOf x qual (JN st) (Js st) (Qt st) .none kV doc pm an cdv ct),osl⟩)
  (c:PySem.W.codeIn K cdv qual=true)(k:PySem.W.keepIn K (.ref f)=true):Fun K x qual st f (PySem.W.fnOf x qual (JN st) (Js st) (Qt st) .none kV doc pm an cdv ct):=⟨⟨oc,od,kV,doc,pm,an,cdv,ct,osl,rfl,l,c⟩,k⟩
end
section
variable{X:Cx}
theorem pv(i:Nat){x:Str}{pos:Pos}(hN:X.N[i]? = some x:=by rfl)(hv:Vis X.env.scope x:=by first | exact QZ rfl | exact Q8 (QZ rfl) | exact Q8 (Q8 rfl))(hd:(x == ("__debug__" : Str))=false:=by decide)
  (hcd:(x == ("__classdict__" : Str))=false:=by decide):PE X (.Name x pos) (QhW i):=Qrw hN hv hd hcd
end
theorem QhY{A B:Prop}(h:B):if false=true then A else B:=by
 rw[if_neg QF];exact h
theorem QfI{A B:Prop}(h:A):if true=true then A else B:=by
 rw[if_pos rfl];exact h
theorem Qy4{c A B:Prop}[Decidable c](h1:c->A)(h2:¬c->B):if c then A else B:=by
 by_cases h:c
 ·rw[if_pos h];exact h1 h
 ·rw[if_neg h];exact h2 h
theorem QmO{c A B:Prop}[Decidable c](hc:c)(h:B):if(!decide c)=true then A else B:=by
 rw[decide_eq_true hc];exact QhY h
def Same(H H':Hp):Prop:=∀b o,H b=some o->H' b=some o
theorem Same.refl(H:Hp):Same H H:=λ_ _ h=>h
theorem Same.trans{H H1 H2:Hp}(a:Same H H1)(b:Same H1 H2):Same H H2:=λc o h=>b c o (a c o h)
theorem Same.free{H H':Hp}(e:Same H H'){l:Addr}(h:H' l=QwU):H l=QwU:=by
 cases q:H l with
 |none=>rfl
 |some o=>
  rw[e l o q] at h;cases h
theorem Same.seq{K:PySem.W.Frag}{H H':Hp}{a:Addr}{xs:List V}(e:Same H H')(h:SqL K H a xs):SqL K H' a xs:=by
 rcases h with(h | ⟨o,h⟩) | h
 ·exact .inl (.inl (e _ _ h))
 ·exact .inl (.inr ⟨o,e _ _ h⟩)
 ·exact .inr h
end L2
set_option maxHeartbeats 4000000
namespace Rt
def Qb2:Bool->Keyed->Array Keyed->Nat->Nat->Nat->StateT J3 Sem (Option Nat):=sortPriv% PySem.Builtin.gallop
theorem QkD(lf:Bool)(kk:Keyed)(xs:Array Keyed)(b n h:Nat):Qb2 lf kk xs b n h=(do
 let bey (z:Nat):StateT J3 Sem (Option Bool):=do
  let x <- elem' xs (b+z)
  if lf then lt' x kk else return (<- lt' kk x).map (!·)
 let mut l0:=0
 let mut o0:=1
 let mut u:=0
 let mut v:=0
 let some r0 <- bey h | return none
 if r0 then
  let mo:=n - h
  for _ in [0:n] do
   if o0≥mo then break
   let some r1 <- bey (h+o0) | return none
   if !r1 then break
   l0:=o0
   o0:=2*o0+1
  u:=h+l0+1
  v:=h+min o0 mo
 else
  let mo:=h+1
  for _ in [0:n] do
   if o0≥mo then break
   let some r1 <- bey (h - o0) | return none
   if r1 then break
   l0:=o0
   o0:=2*o0+1
  u:=h+1 - min o0 mo
  v:=h - l0
 for _ in [0:n] do
  if u≥v then break
  let m:=u+(v - u) / 2
  let some r1 <- bey m | return none
  if r1 then u:=m+1 else v:=m
 return some v):=rfl
structure Ord (c:Keyed->Keyed->Bool):Prop where
 asym:∀x y,c x y=true->c y x=false
 trans:∀x y z,c y x=false->c z y=false->c z x=false
abbrev le (c:Keyed->Keyed->Bool) (x y:Keyed):Prop:=c y x=false
section
variable{c:Keyed->Keyed->Bool}
theorem Ord.irr(o:Ord c)(x:Keyed):c x x=false:=by
 cases h:c x x with
 |false=>rfl
 |true=>rw[o.asym x x h] at h;cases h
theorem Ord.tr(o:Ord c){x y z:Keyed}(a:le c x y)(b:le c y z):le c x z:=o.trans x y z a b
theorem Ord.lt_le(o:Ord c){x y:Keyed}(a:c x y=true):le c x y:=o.asym x y a
theorem Ord.tr_lt(o:Ord c){x y z:Keyed}(a:le c x y)(b:c y z=true):c x z=true:=by
 cases h:c x z with
 |true=>rfl
 |false=>rw[show c y z=false from o.trans z x y h a] at b;cases b
end
def kx(xs:Array Keyed)(i:Nat):Keyed:=(xs[i]?).getD (ZH,ZH)
theorem QtC{xs:Array Keyed}{i:Nat}(h:i<xs.size):xs[i]? = some (kx xs i):=by
 unfold kx;rw[getElem?_pos xs i h];rfl
theorem QiE{xs ys:Array Keyed}{i j:Nat}(h:xs[i]? = ys[j]?):kx xs i=kx ys j:=by unfold kx;rw[h]
def Sg(c:Keyed->Keyed->Bool)(xs:Array Keyed)(lo hi:Nat):Prop:=∀i j,lo<=i->i<=j->j<hi->le c (kx xs i) (kx xs j)
structure Asks (prog:QB) (w:Jl) (A:Q9) (s:Shared) (κ:YB) (a₀:Array Keyed) (c:Keyed->Keyed->Bool):Prop where
 ord:Ord c
 lt:∀x y,x∈a₀.toList->y∈a₀.toList->∀(C:Bool->Shared->Prop)(E':Value->Shared->Prop),C (c x y) s->wpAny (model prog w) A (keyLt' κ x.1 y.1) C E' s
structure SB (κ:YB) (a₀:Array Keyed) (st:J3):Prop where
 perm:(arrOf st).Perm a₀
 kind:kindOf st=κ
 failed:failedOf st=none
theorem SB.size{κ:YB}{a₀:Array Keyed}{st:J3}(h:SB κ a₀ st):(arrOf st).size=a₀.size:=h.perm.size_eq
theorem SB.mem{κ:YB}{a₀:Array Keyed}{st:J3}(h:SB κ a₀ st){p:Keyed}(e:p∈(arrOf st).toList):p∈a₀.toList:=(YW.mp h.perm).mem_iff.mp e
theorem QeN{xs:Array Keyed}{i:Nat}(h:i<xs.size):kx xs i∈xs.toList:=QcS.mpr (Qj7 (QtC h))
section
variable{prog:QB}{w:Jl}{A:Q9}{E:Value->Shared->Prop}{s:Shared}{a₀:Array Keyed}{κ:YB}{c:Keyed->Keyed->Bool}
theorem Qg0{st:J3}{x y:Keyed}{Q:Option Bool->J3->Prop}(hA:Asks prog w A s κ a₀ c)(hk:kindOf st=κ)(hx:x∈a₀.toList)(hy:y∈a₀.toList)(h:Q (some (c x y)) st):wpS (model prog w) A E s (lt' x y) Q st:=by
 rw[lt'_eq];refine Qi (Qcn ?_);rw[hk];refine Qi (Qd2 (QcM (hA.lt x y hx hy _ _ ⟨rfl,?_⟩)));exact Qj h
theorem Q6{st:J3}{arr:Array Keyed}{i:Nat}{Q:Keyed->J3->Prop}(hi:i<arr.size)(h:Q (kx arr i) st):wpS (model prog w) A E s (elem' arr i) Q st:=by
 rw[elem'_eq,QtC hi];exact Qj h
theorem Qer{st:J3}{i j:Nat}{Q:Option Bool->J3->Prop}(hA:Asks prog w A s κ a₀ c)(hB:SB κ a₀ st)(hi:i<a₀.size)(hj:j<a₀.size)(h:Q (some (c (kx (arrOf st) i) (kx (arrOf st) j))) st):wpS (model prog w) A E s (ltAt' i j) Q st:=by
 have h1:i<(arrOf st).size:=by rw[hB.size];exact hi
 have h2:j<(arrOf st).size:=by rw[hB.size];exact hj
 rw[ltAt'_eq];refine Qi (Qcn ?_);refine Qi (Q6 h1 ?_);refine Qi (Q6 h2 ?_);exact Qg0 hA hB.kind (hB.mem (QeN h1)) (hB.mem (QeN h2)) h
def QcE(c:Keyed->Keyed->Bool)(lf:Bool)(kk:Keyed)(xs:Array Keyed)(i:Nat):Bool:=if lf then c (kx xs i) kk else !c kk (kx xs i)
theorem QpU(o:Ord c){lf:Bool}{kk:Keyed}{xs:Array Keyed}{b n:Nat}(sg:Sg c xs b (b+n)){i j:Nat}(hij:i<=j)(hj:j<n)(h:QcE c lf kk xs (b+j)=true):QcE c lf kk xs (b+i)=true:=by
 have l:=sg (b+i) (b+j) (by omega) (by omega) (by omega);unfold QcE at h ⊢;cases lf with
 |true=>exact o.tr_lt l h
 |false=>
  simp only[Qal,if_false,Bool.not_eq_true'] at h ⊢;exact o.tr l h
theorem ZB{st:J3}{lf:Bool}{kk:Keyed}{xs:Array Keyed}{b n hint:Nat}{Q:Option Nat->J3->Prop}(hA:Asks prog w A s κ a₀ c)(hk:kindOf st=κ)(hkey:kk∈a₀.toList)(harr:∀p∈xs.toList,p∈a₀.toList)(hb:b+n<=xs.size)(hh:hint<n)(sg:Sg c xs b (b+n))
  (h:∀k,k<=n->(∀i,i<k->QcE c lf kk xs (b+i)=true)->(∀i,k<=i->i<n->QcE c lf kk xs (b+i)=false)->Q (some k) st):wpS (model prog w) A E s (Qb2 lf kk xs b n hint) Q st:=by
 have bey:∀(i:Nat)(Q':Option Bool->J3->Prop),i<n->Q' (some (QcE c lf kk xs (b+i))) st->wpS (model prog w) A E s (do
   let x <- elem' xs (b+i)
   if lf then lt' x kk else return (<- lt' kk x).map (!·)) Q' st:=λi Q' hi hq=>by
  have hs:b+i<xs.size:=by omega
  refine Qi (Q6 hs ?_);have pm:=harr _ (QeN hs);unfold QcE at hq;cases lf with
  |true=>exact Qg0 hA hk pm hkey hq
  |false=>exact Qi (Qg0 hA hk hkey pm (Qj hq))
 have mono:∀{i j:Nat},i<=j->j<n->QcE c lf kk xs (b+j)=true->QcE c lf kk xs (b+i)=true:=λhij hj h=>QpU hA.ord sg hij hj h
 have monoF:∀{i j:Nat},i<=j->j<n->QcE c lf kk xs (b+i)=false->QcE c lf kk xs (b+j)=false:=λ{i j} hij hj h=>by
  cases e:QcE c lf kk xs (b+j) with
  |false=>rfl
  |true=>rw[mono hij hj e] at h;cases h
 rw[QkD]
 dsimp only
 refine Qi (bey hint _ hh ?_);cases hr:QcE c lf kk xs (b+hint) with
 |true=>
  dsimp only
  rw[if_pos rfl];refine Qi (YA (JZ (I:=λx z st'=>st'=st/\∃l o,z=(none,l,o)/\l<o/\x+1<=o/\hint+l<n/\QcE c lf kk xs (b+(hint+l))=true)
   (Q:=λz st'=>st'=st/\∃l o,z=(none,l,o)/\l<o/\hint+l<n/\QcE c lf kk xs (b+(hint+l))=true/\(hint+o<n->QcE c lf kk xs (b+(hint+o))=false)) ?step ?fin ⟨rfl,0,1,rfl,by omega,by omega,by omega,hr⟩) ?post)
  case fin=>
   rintro z st' ⟨rfl,l,o,rfl,h1,h2,h3,h4⟩;exact⟨rfl,l,o,rfl,h1,h3,h4,λh5=>by omega⟩
  case step=>
   rintro x z st' _ hx ⟨rfl,l,o,rfl,h1,h2,h3,h4⟩
   dsimp only
   by_cases g:o≥n - hint
   ·rw[if_pos g];exact Qj ⟨rfl,l,o,rfl,h1,h3,h4,λh5=>by omega⟩
   ·rw[if_neg g];refine Qi (bey (hint+o) _ (by omega) ?_);cases e:QcE c lf kk xs (b+(hint+o)) with
    |true=>exact Qj ⟨rfl,o,2*o+1,rfl,by omega,by omega,by omega,e⟩
    |false=>exact Qj ⟨rfl,l,o,rfl,h1,h3,h4,λ_=>e⟩
  case post=>
   rintro z st' ⟨rfl,l,o,rfl,h1,h3,h4,h5⟩
   dsimp only
   refine Qi (YA (JZ (I:=λx z st''=>st''=st'/\∃u v,z=(none,u,v)/\v<=n/\u<=v/\v - u<=n - x/\(∀i,i<u->QcE c lf kk xs (b+i)=true)/\(∀i,v<=i->i<n->QcE c lf kk xs (b+i)=false))
    (Q:=λz st''=>st''=st'/\∃v,z=(none,v,v)/\v<=n/\(∀i,i<v->QcE c lf kk xs (b+i)=true)/\(∀i,v<=i->i<n->QcE c lf kk xs (b+i)=false)) ?step2 ?fin2 ?init2) ?post2)
   case init2=>
    refine⟨rfl,_,_,rfl,by omega,by omega,by omega,λi hi=>mono (by omega) h3 h4,λi hi hn=>?_⟩;exact monoF (i:=hint+o) (by omega) hn (h5 (by omega))
   case fin2=>
    rintro z st'' ⟨rfl,u,v,rfl,g1,g2,g3,g4,g5⟩;have:u=v:=by omega
    subst this;exact⟨rfl,u,rfl,g1,g4,g5⟩
   case step2=>
    rintro x z st'' _ hx ⟨rfl,u,v,rfl,g1,g2,g3,g4,g5⟩
    dsimp only
    by_cases g:u≥v
    ·rw[if_pos g];have:u=v:=by omega
     subst this;exact Qj ⟨rfl,u,rfl,g1,g4,g5⟩
    ·rw[if_neg g];refine Qi (bey (u+(v - u) / 2) _ (by omega) ?_);cases e:QcE c lf kk xs (b+(u+(v - u) / 2)) with
     |true=>exact Qj ⟨rfl,_,_,rfl,g1,by omega,by omega,λi hi=>mono (by omega) (by omega) e,g5⟩
     |false=>exact Qj ⟨rfl,_,_,rfl,by omega,by omega,by omega,g4,λi hi hn=>monoF hi hn e⟩
   case post2=>
    rintro z st'' ⟨rfl,v,rfl,g1,g4,g5⟩;exact Qj (h v g1 g4 g5)
 |false=>
  dsimp only
  rw[if_neg (by decide)];refine Qi (YA (JZ (I:=λx z st'=>st'=st/\∃l o,z=(none,l,o)/\l<o/\x+1<=o/\l<=hint/\QcE c lf kk xs (b+(hint - l))=false)
   (Q:=λz st'=>st'=st/\∃l o,z=(none,l,o)/\l<o/\l<=hint/\QcE c lf kk xs (b+(hint - l))=false/\(o<=hint->QcE c lf kk xs (b+(hint - o))=true)) ?step ?fin ⟨rfl,0,1,rfl,by omega,by omega,by omega,hr⟩) ?post)
  case fin=>
   rintro z st' ⟨rfl,l,o,rfl,h1,h2,h3,h4⟩;exact⟨rfl,l,o,rfl,h1,h3,h4,λh5=>by omega⟩
  case step=>
   rintro x z st' _ hx ⟨rfl,l,o,rfl,h1,h2,h3,h4⟩
   dsimp only
   by_cases g:o≥hint+1
   ·rw[if_pos g];exact Qj ⟨rfl,l,o,rfl,h1,h3,h4,λh5=>by omega⟩
   ·rw[if_neg g];refine Qi (bey (hint - o) _ (by omega) ?_);cases e:QcE c lf kk xs (b+(hint - o)) with
    |false=>exact Qj ⟨rfl,o,2*o+1,rfl,by omega,by omega,by omega,e⟩
    |true=>exact Qj ⟨rfl,l,o,rfl,h1,h3,h4,λ_=>e⟩
  case post=>
   rintro z st' ⟨rfl,l,o,rfl,h1,h3,h4,h5⟩
   dsimp only
   refine Qi (YA (JZ (I:=λx z st''=>st''=st'/\∃u v,z=(none,u,v)/\v<=n/\u<=v/\v - u<=n - x/\(∀i,i<u->QcE c lf kk xs (b+i)=true)/\(∀i,v<=i->i<n->QcE c lf kk xs (b+i)=false))
    (Q:=λz st''=>st''=st'/\∃v,z=(none,v,v)/\v<=n/\(∀i,i<v->QcE c lf kk xs (b+i)=true)/\(∀i,v<=i->i<n->QcE c lf kk xs (b+i)=false)) ?step2 ?fin2 ?init2) ?post2)
   case init2=>
    refine⟨rfl,_,_,rfl,by omega,by omega,by omega,λi hi=>?_,λi hi hn=>monoF hi hn h4⟩;exact mono (j:=hint - o) (by omega) (by omega) (h5 (by omega))
   case fin2=>
    rintro z st'' ⟨rfl,u,v,rfl,g1,g2,g3,g4,g5⟩;have:u=v:=by omega
    subst this;exact⟨rfl,u,rfl,g1,g4,g5⟩
   case step2=>
    rintro x z st'' _ hx ⟨rfl,u,v,rfl,g1,g2,g3,g4,g5⟩
    dsimp only
    by_cases g:u≥v
    ·rw[if_pos g];have:u=v:=by omega
     subst this;exact Qj ⟨rfl,u,rfl,g1,g4,g5⟩
    ·rw[if_neg g];refine Qi (bey (u+(v - u) / 2) _ (by omega) ?_);cases e:QcE c lf kk xs (b+(u+(v - u) / 2)) with
     |true=>exact Qj ⟨rfl,_,_,rfl,g1,by omega,by omega,λi hi=>mono (by omega) (by omega) e,g5⟩
     |false=>exact Qj ⟨rfl,_,_,rfl,by omega,by omega,by omega,g4,λi hi hn=>monoF hi hn e⟩
   case post2=>
    rintro z st'' ⟨rfl,v,rfl,g1,g4,g5⟩;exact Qj (h v g1 g4 g5)
structure Fb (κ:YB) (a₀:Array Keyed) (lo:Nat) (st st':J3):Prop where
 sb:SB κ a₀ st'
 pend:pendingOf st'=pendingOf st
 low:∀k,k<lo->kx (arrOf st') k=kx (arrOf st) k
theorem Fb.refl{st:J3}{lo:Nat}(h:SB κ a₀ st):Fb κ a₀ lo st st:=⟨h,rfl,λ_ _=>rfl⟩
theorem QmJ{xs:Array Keyed}{i j:Nat}(hj:j<=xs.size)(k:Nat):kx (mirror xs i j ((j - i) / 2)) k=if i<=k/\k<j then kx xs (i+j - 1 - k) else kx xs k:=by
 have e:=getElem?_mirror_all (i:=i) hj k
 by_cases h1:i<=k/\k<j
 ·rw[if_pos h1] at e ⊢;exact QiE e
 ·rw[if_neg h1] at e ⊢;exact QiE e
theorem Qb0{st:J3}{i j lo:Nat}{st0:J3}{Q:Unit->J3->Prop}(fb:Fb κ a₀ lo st0 st)(hi:lo<=i)(hj:j<=a₀.size)
  (h:∀st',Fb κ a₀ lo st0 st'->(∀k,kx (arrOf st') k=if i<=k/\k<j then kx (arrOf st) (i+j - 1 - k) else kx (arrOf st) k)->Q () st'):wpS (model prog w) A E s (reverseSlice' i j) Q st:=by
 rw[reverseSlice'_eq];have km:∀k,kx (mirror (arrOf st) i j ((j - i) / 2)) k=if i<=k/\k<j then kx (arrOf st) (i+j - 1 - k) else kx (arrOf st) k:=λk=>QmJ (by rw[fb.sb.size];exact hj) k
 refine Qau (h _ ⟨⟨(mirror_perm _ _ _ _).trans fb.sb.perm,fb.sb.kind,fb.sb.failed⟩,fb.pend,λk hk=>?_⟩ km);show kx (mirror (arrOf st) i j ((j - i) / 2)) k=_;rw[km,if_neg (by omega)];exact fb.low k hk
def Qzk(lo a nr:Nat):StateT J3 Sem (Option (Option Nat)×Nat):=
 forIn [a:nr] ((none,a):Option (Option Nat)×Nat) λ_ z=>do
  let r <- ltAt' (lo+z.2) (lo+z.2 - 1)
  match r with
  |some b=>if b=true then pure (Qbg (none,z.2)) else pure (JY (none,z.2+1))
  |_=>pure (Qbg (some none,z.2))
theorem Qet{st:J3}{lo a nr:Nat}{Q:Option (Option Nat)×Nat->J3->Prop}(hA:Asks prog w A s κ a₀ c)(hn:lo+nr<=a₀.size)(h1:1<=a)(han:a<=nr)(hB:SB κ a₀ st)(sg:Sg c (arrOf st) lo (lo+a))
  (h:∀n,a<=n->n<=nr->Sg c (arrOf st) lo (lo+n)->(n=nr∨c (kx (arrOf st) (lo+n)) (kx (arrOf st) (lo+n - 1))=true)->Q (none,n) st):wpS (model prog w) A E s (Qzk lo a nr) Q st:=by
 unfold Qzk;refine JZ (I:=λx z st'=>st'=st/\z=(none,x)/\Sg c (arrOf st) lo (lo+x)) ?step ?fin ⟨rfl,rfl,sg⟩
 case fin=>
  rintro z st' ⟨rfl,rfl,hs⟩;rw[show max a nr=nr by omega] at hs ⊢;exact h nr han (Qk _) hs (.inl rfl)
 case step=>
  rintro x z st' hax hxn ⟨rfl,rfl,hs⟩
  dsimp only
  refine Qi (Qer hA hB (by omega) (by omega) ?_);cases e:c (kx (arrOf st') (lo+x)) (kx (arrOf st') (lo+x - 1)) with
  |true=>exact Qj (h x hax (by omega) hs (.inr e))
  |false=>
   refine Qj ⟨rfl,rfl,λi j hi hij hj=>?_⟩;by_cases z:j<lo+x
   ·exact hs i j hi hij z
   ·have zj:j=lo+x:=by omega
    subst zj;by_cases zi:i=lo+x
    ·subst zi;exact hA.ord.irr _
    ·exact hA.ord.tr (hs i (lo+x - 1) hi (by omega) (by omega)) e
def Ng(c:Keyed->Keyed->Bool)(xs:Array Keyed)(lo hi:Nat):Prop:=∀i j,lo<=i->i<=j->j<hi->le c (kx xs j) (kx xs i)
def Eqv(c:Keyed->Keyed->Bool)(x y:Keyed):Prop:=le c x y/\le c y x
theorem Eqv.ng(o:Ord c){xs ys:Array Keyed}{lo hi:Nat}(h:∀k,lo<=k->k<hi->Eqv c (kx ys k) (kx xs k))(n:Ng c xs lo hi):Ng c ys lo hi:=λi j hi' hij hj=>
 o.tr (h j (by omega) hj).1 (o.tr (n i j hi' hij hj) (h i hi' (by omega)).2)
theorem Qgb(o:Ord c){xs ys:Array Keyed}{u v:Nat}(h:∀k,kx ys k=if u<=k/\k<v then kx xs (u+v - 1 - k) else kx xs k)(q:∀k,u<=k->k<v->Eqv c (kx xs k) (kx xs (v - 1)))(k:Nat):Eqv c (kx ys k) (kx xs k):=by
 rw[h k];split
 ·rename_i z
  have a:=q (u+v - 1 - k) (by omega) (by omega);have b:=q k z.1 z.2;exact⟨o.tr a.1 b.2,o.tr b.1 a.2⟩
 ·exact⟨o.irr _,o.irr _⟩
def Qwg(lo n nr:Nat):StateT J3 Sem (Option (Option Nat)×Nat×Nat):=
 forIn [n:nr] ((none,n,0):Option (Option Nat)×Nat×Nat) λ_ z=>do
  let r <- ltAt' (lo+z.2.1) (lo+z.2.1 - 1)
  match r with
  |some b=>
   if b=true then
    if z.2.2 > 0 then do
     reverseSlice' (lo+z.2.1 - (z.2.2+1)) (lo+z.2.1)
     pure (JY (none,z.2.1+1,0))
    else pure (JY (none,z.2.1+1,0))
   else do
    let r <- ltAt' (lo+z.2.1 - 1) (lo+z.2.1)
    match r with
    |some b=>
     if b=true then pure (Qbg (none,z.2.1,z.2.2))
     else pure (JY (none,z.2.1+1,z.2.2+1))
    |_=>pure (Qbg (some none,z.2.1,z.2.2))
  |_=>pure (Qbg (some none,z.2.1,z.2.2))
theorem QeJ(o:Ord c){xs:Array Keyed}{lo n:Nat}(h:Ng c xs lo (lo+n))(h1:1<=n)(l:le c (kx xs (lo+n)) (kx xs (lo+n - 1))):Ng c xs lo (lo+(n+1)):=λi j hi hij hj=>by
 by_cases z:j<lo+n
 ·exact h i j hi hij z
 ·have zj:j=lo+n:=by omega
  subst zj;by_cases zi:i=lo+n
  ·subst zi;exact o.irr _
  ·exact o.tr l (h i (lo+n - 1) hi (by omega) (by omega))
theorem Qi2{st st0:J3}{lo n nr:Nat}{Q:Option (Option Nat)×Nat×Nat->J3->Prop}(hA:Asks prog w A s κ a₀ c)(hn:lo+nr<=a₀.size)(h1:1<=n)(han:n<=nr)(fb:Fb κ a₀ lo st0 st)(ng:Ng c (arrOf st) lo (lo+n))
  (h:∀m q st',n<=m->m<=nr->Fb κ a₀ lo st0 st'->Ng c (arrOf st') lo (lo+m)->q+1<=m->(∀k,lo+m - (q+1)<=k->k<lo+m->Eqv c (kx (arrOf st') k) (kx (arrOf st') (lo+m - 1)))->Q (none,m,q) st'):wpS (model prog w) A E s (Qwg lo n nr) Q st:=by
 unfold Qwg;have ir:∀x,Eqv c x x:=λx=>⟨hA.ord.irr x,hA.ord.irr x⟩
 refine JZ (I:=λx z st'=>∃q,z=(none,x,q)/\Fb κ a₀ lo st0 st'/\Ng c (arrOf st') lo (lo+x)/\q+1<=x/\(∀k,lo+x - (q+1)<=k->k<lo+x->Eqv c (kx (arrOf st') k) (kx (arrOf st') (lo+x - 1)))) ?step ?fin
  ⟨0,rfl,fb,ng,h1,λk k1 k2=>by rw[show k=lo+n - 1 by omega];exact ir _⟩
 case fin=>
  rintro z st' ⟨q,rfl,f,g,g1,g2⟩;rw[show max n nr=nr by omega] at g g1 g2 ⊢;exact h nr q st' han (Qk _) f g g1 g2
 case step=>
  rintro x z st' hax hxn ⟨q,rfl,f,g,g1,g2⟩
  dsimp only
  refine Qi (Qer hA f.sb (by omega) (by omega) ?_);cases e:c (kx (arrOf st') (lo+x)) (kx (arrOf st') (lo+x - 1)) with
  |true=>
   dsimp only
   rw[if_pos rfl];by_cases zq:q > 0
   ·rw[if_pos zq];refine Qi (Qb0 f (by omega) (by omega) λst2 f2 km=>Qj ⟨0,rfl,f2,?_,by omega,λk k1 k2=>by rw[show k=lo+(x+1) - 1 by omega];exact ir _⟩);refine Eqv.ng hA.ord (xs:=arrOf st') (λk _ _=>Qgb hA.ord km g2 k) (QeJ hA.ord g (by omega) (hA.ord.lt_le e))
   ·rw[if_neg zq];exact Qj ⟨0,rfl,f,QeJ hA.ord g (by omega) (hA.ord.lt_le e),by omega,λk k1 k2=>by rw[show k=lo+(x+1) - 1 by omega];exact ir _⟩
  |false=>
   dsimp only
   rw[if_neg (by decide)];refine Qi (Qer hA f.sb (by omega) (by omega) ?_);cases e2:c (kx (arrOf st') (lo+x - 1)) (kx (arrOf st') (lo+x)) with
   |true=>exact Qj (h x q st' hax (by omega) f g g1 g2)
   |false=>
    refine Qj ⟨q+1,rfl,f,QeJ hA.ord g (by omega) e2,by omega,λk k1 k2=>?_⟩;rw[show lo+(x+1) - 1=lo+x by omega];by_cases zk:k=lo+x
    ·subst zk;exact ir _
    ·have a:=g2 k (by omega) (by omega);exact⟨hA.ord.tr a.1 e,hA.ord.tr e2 a.2⟩
theorem Qpj{xs ys:Array Keyed}{lo hi:Nat}(h:∀k,kx ys k=if lo<=k/\k<hi then kx xs (lo+hi - 1 - k) else kx xs k)(n:Ng c xs lo hi):Sg c ys lo hi:=λi j hi' hij hj=>by
 rw[h i,h j,if_pos (by omega),if_pos (by omega)];exact n _ _ (by omega) (by omega) (by omega)
theorem QfZ{st:J3}{lo nr:Nat}{Q:Option Nat->J3->Prop}(hA:Asks prog w A s κ a₀ c)(hn:lo+nr<=a₀.size)(h1:1<=nr)(hB:SB κ a₀ st)
  (h:∀m st',Fb κ a₀ lo st st'->1<=m->m<=nr->Sg c (arrOf st') lo (lo+m)->Q (some m) st'):wpS (model prog w) A E s (countRun' lo nr) Q st:=by
 rw[countRun'_eq]
 dsimp only
 refine Qi (Qet (lo:=lo) (a:=1) (nr:=nr) hA hn (Qk _) h1 hB (λi j hi hij hj=>by rw[show i=j by omega];exact hA.ord.irr _) λn n1 n2 sg hor=>?_)
 dsimp only
 by_cases zn:n=nr
 ·rw[if_pos (by simpa using zn)];exact Qj (h n st (Fb.refl hB) n1 n2 sg)
 ·rw[if_neg (by simpa using zn)];have hlt:=hor.resolve_left zn;by_cases zg:n > 1
  ·rw[if_pos zg];refine Qi (Qer hA hB (by omega) (by omega) ?_);cases e:c (kx (arrOf st) lo) (kx (arrOf st) (lo+n - 1)) with
   |true=>exact Qj (h n st (Fb.refl hB) n1 n2 sg)
   |false=>
    have all:∀k,lo<=k->k<lo+n->Eqv c (kx (arrOf st) k) (kx (arrOf st) (lo+n - 1)):=λk k1 k2=>
     ⟨sg k (lo+n - 1) k1 (by omega) (by omega),hA.ord.tr e (sg lo k (Qk _) k1 k2)⟩
    dsimp only
    rw[if_neg (by decide)];refine Qi (Qb0 (Fb.refl hB) (Qk _) (by omega) λst2 f2 km=>?_);have ng2:Ng c (arrOf st2) lo (lo+(n+1)):=by
     refine Eqv.ng hA.ord (xs:=arrOf st) (λk k1 k2=>Qgb hA.ord km all k) (QeJ hA.ord (λi j i1 ij j1=>?_) n1 (hA.ord.lt_le hlt));have a:=all i i1 (by omega);have b:=all j (by omega) j1;exact hA.ord.tr b.1 a.2
    refine Qi (Qd2 (wpAny_rule ⟨rfl,?_⟩));refine Qi (Qi2 (lo:=lo) (n:=n+1) (nr:=nr) hA hn (by omega) (by omega) f2 (ng2) λm q st' m1 m2 f5 g g1 g2=>?_)
    dsimp only
    by_cases zq:q > 0
    ·rw[if_pos zq];refine Qi (Qb0 f5 (by omega) (by omega) λst3 f3 km3=>?_);refine Qi (Qb0 f3 (Qk _) (by omega) λst4 f4 km4=>?_);refine Qi (Qet (lo:=lo) (a:=m) (nr:=nr) hA hn (by omega) m2 f4.sb (Qpj km4 (Eqv.ng hA.ord (xs:=arrOf st') (λk _ _=>Qgb hA.ord km3 g2 k) g)) λk k1 k2 sg4 _=>Qj (h k st4 f4 (by omega) k2 sg4))
    ·rw[if_neg zq];refine Qi (Qb0 f5 (Qk _) (by omega) λst4 f4 km4=>?_);refine Qi (Qet (lo:=lo) (a:=m) (nr:=nr) hA hn (by omega) m2 f4.sb (Qpj km4 (g)) λk k1 k2 sg4 _=>Qj (h k st4 f4 (by omega) k2 sg4))
  ·rw[if_neg zg];have z1:n=1:=by omega
   subst z1;refine Qi (Qd2 (wpAny_rule ⟨rfl,?_⟩));refine Qi (Qi2 (lo:=lo) (n:=1+1) (nr:=nr) hA hn (by omega) (by omega) (Fb.refl hB) (QeJ hA.ord (λi j i1 ij j1=>by rw[show i=j by omega];exact hA.ord.irr _) n1 (hA.ord.lt_le hlt)) λm q st' m1 m2 f5 g g1 g2=>?_)
   dsimp only
   by_cases zq:q > 0
   ·rw[if_pos zq];refine Qi (Qb0 f5 (by omega) (by omega) λst3 f3 km3=>?_);refine Qi (Qb0 f3 (Qk _) (by omega) λst4 f4 km4=>?_);refine Qi (Qet (lo:=lo) (a:=m) (nr:=nr) hA hn (by omega) m2 f4.sb (Qpj km4 (Eqv.ng hA.ord (xs:=arrOf st') (λk _ _=>Qgb hA.ord km3 g2 k) g)) λk k1 k2 sg4 _=>Qj (h k st4 f4 (by omega) k2 sg4))
   ·rw[if_neg zq];refine Qi (Qb0 f5 (Qk _) (by omega) λst4 f4 km4=>?_);refine Qi (Qet (lo:=lo) (a:=m) (nr:=nr) hA hn (by omega) m2 f4.sb (Qpj km4 (g)) λk k1 k2 sg4 _=>Qj (h k st4 f4 (by omega) k2 sg4))
theorem QmK{xs:Array Keyed}{src d:Nat}(hs:src<xs.size)(hd:d<=src)(k:Nat):kx (bubble xs src d) k=if k=src - d then kx xs src else if src - d<k/\k<=src then kx xs (k - 1) else kx xs k:=by
 have e:=getElem?_bubble hs d hd k
 by_cases h1:k=src - d
 ·rw[if_pos h1] at e ⊢;exact QiE e
 ·rw[if_neg h1] at e ⊢;by_cases h2:src - d<k/\k<=src
  ·rw[if_pos h2] at e ⊢;exact QiE e
  ·rw[if_neg h2] at e ⊢;exact QiE e
theorem Qes{st:J3}{lo n ok:Nat}{Q:Bool->J3->Prop}(hA:Asks prog w A s κ a₀ c)(hn:lo+n<=a₀.size)(h1:1<=ok)(hok:ok<=n)(hB:SB κ a₀ st)(sg:Sg c (arrOf st) lo (lo+ok))
  (h:∀st',Fb κ a₀ lo st st'->Sg c (arrOf st') lo (lo+n)->Q true st'):wpS (model prog w) A E s (binarySort' lo n ok) Q st:=by
 rw[binarySort'_eq];refine Qi (YA (JZ (I:=λk z st'=>z=(none,())/\Fb κ a₀ lo st st'/\Sg c (arrOf st') lo (lo+min k n)) (Q:=λz st'=>z=(none,())/\Fb κ a₀ lo st st'/\Sg c (arrOf st') lo (lo+n)) ?step ?fin ⟨rfl,Fb.refl hB,by rw[show min (max ok 1) n=ok by omega];exact sg⟩) ?post)
 case post=>
  rintro z st' ⟨rfl,f,g⟩;exact Qj (h st' f g)
 case fin=>
  rintro z st' ⟨rfl,f,g⟩;rw[show min (max (max ok 1) n) n=n by omega] at g;exact⟨rfl,f,g⟩
 case step=>
  rintro k z st' hak hkn ⟨rfl,f,g⟩;rw[show min k n=k by omega] at g;refine Qi (YA (JZ (I:=λx z st''=>st''=st'/\∃l r,z=(none,l,r)/\l<=r/\r<=k/\r - l<=k - x/\(∀i,i<l->le c (kx (arrOf st') (lo+i)) (kx (arrOf st') (lo+k)))/\(∀i,r<=i->i<k->le c (kx (arrOf st') (lo+k)) (kx (arrOf st') (lo+i))))
   (Q:=λz st''=>st''=st'/\∃l r,z=(none,l,r)/\l<=k/\(∀i,i<l->le c (kx (arrOf st') (lo+i)) (kx (arrOf st') (lo+k)))/\(∀i,l<=i->i<k->le c (kx (arrOf st') (lo+k)) (kx (arrOf st') (lo+i)))) ?istep ?ifin ⟨rfl,0,k,rfl,by omega,by omega,by omega,λi hi=>by omega,λi a b=>by omega⟩) ?ipost)
  case ifin=>
   rintro z st'' ⟨rfl,l,r,rfl,h1,h2,h3,h4,h5⟩;have:l=r:=by omega
   subst this;exact⟨rfl,l,l,rfl,h2,h4,h5⟩
  case istep=>
   rintro x z st'' _ hx ⟨rfl,l,r,rfl,h1,h2,h3,h4,h5⟩
   dsimp only
   by_cases zz:l≥r
   ·rw[if_pos zz];have:l=r:=by omega
    subst this;exact Qj ⟨rfl,l,l,rfl,h2,h4,h5⟩
   ·rw[if_neg zz];refine Qi (Qer hA f.sb (by omega) (by omega) ?_);cases e:c (kx (arrOf st'') (lo+k)) (kx (arrOf st'') (lo+(l+r) / 2)) with
    |true=>exact Qj ⟨rfl,_,_,rfl,by omega,by omega,by omega,h4,λi a b=>hA.ord.tr (hA.ord.lt_le e) (g _ _ (by omega) (by omega) (by omega))⟩
    |false=>exact Qj ⟨rfl,_,_,rfl,by omega,by omega,by omega,λi a=>hA.ord.tr (g (lo+i) (lo+(l+r) / 2) (by omega) (by omega) (by omega)) e,h5⟩
  case ipost=>
   rintro z st'' ⟨rfl,l,r,rfl,h2,h4,h5⟩
   dsimp only
   rw[moveDown'_eq];have hs:lo+k<(arrOf st'').size:=by rw[f.sb.size];omega
   have kb:∀j,kx (bubble (arrOf st'') (lo+k) (lo+k - (lo+l))) j=if j=lo+l then kx (arrOf st'') (lo+k) else if lo+l<j/\j<=lo+k then kx (arrOf st'') (j - 1) else kx (arrOf st'') j:=λj=>by
    rw[QmK hs (by omega),show lo+k - (lo+k - (lo+l))=lo+l by omega]
   refine Qi (Qau (Qj ⟨rfl,⟨⟨(bubble_perm _ _ _).trans f.sb.perm,f.sb.kind,f.sb.failed⟩,f.pend,λj hj=>?_⟩,λi j hi hij hj=>?_⟩))
   ·show kx (bubble (arrOf st'') (lo+k) (lo+k - (lo+l))) j=_;rw[kb,if_neg (by omega),if_neg (by omega)];exact f.low j hj
   ·show le c (kx (bubble (arrOf st'') (lo+k) (lo+k - (lo+l))) i) (kx (bubble (arrOf st'') (lo+k) (lo+k - (lo+l))) j);rw[kb,kb];have low:∀i,lo<=i->i<lo+l->le c (kx (arrOf st'') i) (kx (arrOf st'') (lo+k)):=λi a b=>by have:=h4 (i - lo) (by omega);rwa [show lo+(i - lo)=i by omega] at this
    have high:∀i,lo+l<=i->i<lo+k->le c (kx (arrOf st'') (lo+k)) (kx (arrOf st'') i):=λi a b=>by have:=h5 (i - lo) (by omega) (by omega);rwa [show lo+(i - lo)=i by omega] at this
    repeat' split
    all_goals first
     |(exfalso;omega)
     |exact hA.ord.irr _
     |exact low _ (by omega) (by omega)
     |exact high _ (by omega) (by omega)
     |exact g _ _ (by omega) (by omega) (by omega)
end
def YE:Nat->StateT J3 Sem Unit:=sortPriv% PySem.Builtin.setMinGallop
theorem QdY(g:Nat):YE g=modify λz=>Qxj (kindOf z) (arrOf z) (pendingOf z) g (failedOf z):=rfl
def Qgm:Array Keyed->Array Keyed->StateT J3 Sem (Array Keyed):=sortPriv% PySem.Builtin.mergeLo
def Qgn:Array Keyed->Array Keyed->StateT J3 Sem (Array Keyed):=sortPriv% PySem.Builtin.mergeHi
theorem Qiw(a b:Array Keyed):Qgm a b=(do
 rule "list.sort.merge-lo"
 let tot:=a.size+b.size
 let dn (r:Array Keyed) (i j:Nat):=r++a.extract i a.size++b.extract j b.size
 let la (r:Array Keyed) (i j:Nat):=r++b.extract j b.size++a.extract i a.size
 let mut r:Array Keyed:=#[<- elem' b 0]
 let mut i:=0
 let mut j:=1
 if j == b.size then return dn r i j
 if i+1 == a.size then return la r i j
 let mut mg:=gallopOf (<- get)
 for _ in [0:tot] do
  let mut p:=0
  let mut q:=0
  for _ in [0:tot] do
   let some t <- lt' (<- elem' b j) (<- elem' a i) | return dn r i j
   if t then
    r:=r.push (<- elem' b j);j:=j+1;q:=q+1;p:=0
    if j == b.size then return dn r i j
    if q≥mg then break
   else
    r:=r.push (<- elem' a i);i:=i+1;p:=p+1;q:=0
    if i+1 == a.size then return la r i j
    if p≥mg then break
  rule "list.sort.gallop"
  mg:=mg+1
  for _ in [0:tot] do
   if mg > 1 then mg:=mg - 1
   YE mg
   let some k <- Qb2 false (<- elem' b j) a i (a.size - i) 0 | return dn r i j
   p:=k
   if k > 0 then
    r:=r++a.extract i (i+k);i:=i+k
    if i+1 == a.size then return la r i j
    if i == a.size then return dn r i j
   r:=r.push (<- elem' b j);j:=j+1
   if j == b.size then return dn r i j
   let some k <- Qb2 true (<- elem' a i) b j (b.size - j) 0 | return dn r i j
   q:=k
   if k > 0 then
    r:=r++b.extract j (j+k);j:=j+k
    if j == b.size then return dn r i j
   r:=r.push (<- elem' a i);i:=i+1
   if i+1 == a.size then return la r i j
   if p<7&&q<7 then break
  mg:=mg+1
  YE mg
 unsupported "internal:list.sort.merge-bound"):=rfl
section
variable{c:Keyed->Keyed->Bool}
abbrev Pw (c:Keyed->Keyed->Bool) (l:List Keyed):Prop:=l.Pairwise (le c)
theorem QrW{r ch x y:List Keyed}(h1:Pw c (r++(ch++x)))(h2:Pw c (r++y))(h:∀u∈ch,∀v∈y,le c u v):Pw c ((r++ch)++x)/\Pw c ((r++ch)++y):=by
 have h1':Pw c ((r++ch)++x):=by rw[Q3];exact h1
 refine⟨h1',?_⟩;have g:=Jp.mp h1';have g2:=Jp.mp h2;refine Jp.mpr ⟨g.1,g2.2.1,λu hu v hv=>?_⟩;rcases JB.mp hu with z | z
 ·exact g2.2.2 u z v hv
 ·exact h u z v hv
theorem QaR{xs:Array Keyed}{i:Nat}(h:i<xs.size):xs.toList[i]? = some (kx xs i):=by rw[ZF];exact QtC h
theorem Qm9{xs:Array Keyed}{i:Nat}(h:i<xs.size):xs.toList.drop i=kx xs i::xs.toList.drop (i+1):=by
 have hl:i<xs.toList.length:=by rw[Qq];exact h
 rw[QbP hl];have:=QaR h;rw[Ql hl] at this;rw[Qy this]
theorem QbI{xs:Array Keyed}{i:Nat}{p:Keyed}(h:p∈xs.toList.drop i):∃k,i<=k/\k<xs.size/\p=kx xs k:=by
 obtain⟨n,hn⟩:=Jf.mp h;rw[QbC] at hn;have hl:=(QU.mp hn).1;rw[Qq] at hl;rw[QaR hl] at hn;exact⟨i+n,by omega,hl,(Qy hn).symm⟩
theorem Qei(xs:Array Keyed)(i k:Nat):(xs.extract i (i+k)).toList=(xs.toList.drop i).take k:=by
 rw[Qa0,Y5,Nat.add_sub_cancel_left]
theorem QdC(xs:Array Keyed)(i:Nat):(xs.extract i xs.size).toList=xs.toList.drop i:=by
 rw[Qa0,Y5,Yz (by rw[Zn,Qq];exact Qk _)]
theorem QeL{xs:Array Keyed}{i k:Nat}{p:Keyed}(h:p∈(xs.toList.drop i).take k):∃t,t<k/\i+t<xs.size/\p=kx xs (i+t):=by
 obtain⟨n,hn⟩:=Jf.mp h;rw[Qd6] at hn;split at hn
 ·rename_i z
  rw[QbC] at hn;have hl:=(QU.mp hn).1;rw[Qq] at hl;rw[QaR hl] at hn;exact⟨n,z,hl,(Qy hn).symm⟩
 ·cases hn
structure MI (c:Keyed->Keyed->Bool) (a b r:Array Keyed) (i j:Nat):Prop where
 ha:Pw c (r.toList++a.toList.drop i)
 hb:Pw c (r.toList++b.toList.drop j)
 pm:(r.toList++(a.toList.drop i++b.toList.drop j)).Perm (a.toList++b.toList)
def Out(c:Keyed->Keyed->Bool)(a b z:Array Keyed):Prop:=Pw c z.toList/\z.toList.Perm (a.toList++b.toList)
variable{a b r:Array Keyed}{i j k:Nat}
theorem MI.chA(m:MI c a b r i j)(h:∀t,t<k->i+t<a.size->∀n,j<=n->n<b.size->le c (kx a (i+t)) (kx b n)):MI c a b (r++a.extract i (i+k)) (i+k) j:=by
 have e:a.toList.drop i=(a.toList.drop i).take k++a.toList.drop (i+k):=by rw[<- QhT,Jw]
 have e2:(r++a.extract i (i+k)).toList=r.toList++(a.toList.drop i).take k:=by rw[JA,Qei]
 have h1:=m.ha;have pm:=m.pm;rw[e] at h1 pm;obtain⟨g1,g2⟩:=QrW h1 m.hb λu hu v hv=>by
  obtain⟨t,t1,t2,rfl⟩:=QeL hu;obtain⟨n,n1,n2,rfl⟩:=QbI hv;exact h t t1 t2 n n1 n2
 refine⟨by rw[e2];exact g1,by rw[e2];exact g2,?_⟩;rw[e2,Q3,<- Q3 ((a.toList.drop i).take k)];exact pm
theorem MI.chB(m:MI c a b r i j)(h:∀t,t<k->j+t<b.size->∀n,i<=n->n<a.size->le c (kx b (j+t)) (kx a n)):MI c a b (r++b.extract j (j+k)) i (j+k):=by
 have e:b.toList.drop j=(b.toList.drop j).take k++b.toList.drop (j+k):=by rw[<- QhT,Jw]
 have e2:(r++b.extract j (j+k)).toList=r.toList++(b.toList.drop j).take k:=by rw[JA,Qei]
 have h1:=m.hb;have pm:=m.pm;rw[e] at h1 pm;obtain⟨g1,g2⟩:=QrW h1 m.ha λu hu v hv=>by
  obtain⟨t,t1,t2,rfl⟩:=QeL hu;obtain⟨n,n1,n2,rfl⟩:=QbI hv;exact h t t1 t2 n n1 n2
 refine⟨by rw[e2];exact g2,by rw[e2];exact g1,?_⟩;rw[e2,Q3];refine QaM (Qap _ ?_) pm;rw[<- Q3,<- Q3];exact Qah _ QaH
theorem Qjo{xs:Array Keyed}{i:Nat}(h:i<xs.size):r.push (kx xs i)=r++xs.extract i (i+1):=by
 apply Qfa.mp
 rw[Qep,JA,Qei,Qm9 h];rfl
theorem MI.puA(m:MI c a b r i j)(hi:i<a.size)(h:∀n,j<=n->n<b.size->le c (kx a i) (kx b n)):MI c a b (r.push (kx a i)) (i+1) j:=by
 rw[Qjo hi];refine m.chA λt t1 t2=>?_
 have:t=0:=by omega
 subst this;exact h
theorem MI.puB(m:MI c a b r i j)(hj:j<b.size)(h:∀n,i<=n->n<a.size->le c (kx b j) (kx a n)):MI c a b (r.push (kx b j)) i (j+1):=by
 rw[Qjo hj];refine m.chB λt t1 t2=>?_
 have:t=0:=by omega
 subst this;exact h
theorem MI.dnB(m:MI c a b r i j)(hj:j=b.size):Out c a b (r++a.extract i a.size++b.extract j b.size):=by
 have e:b.toList.drop j=[]:=ZY (by rw[Qq];omega);have e2:(r++a.extract i a.size++b.extract j b.size).toList=r.toList++a.toList.drop i:=by rw[JA,JA,QdC,QdC,e,Ji]
 have pm:=m.pm;rw[e,Ji] at pm;exact⟨by rw[e2];exact m.ha,by rw[e2];exact pm⟩
theorem MI.dnA(m:MI c a b r i j)(hi:i=a.size):Out c a b (r++a.extract i a.size++b.extract j b.size):=by
 have e:a.toList.drop i=[]:=ZY (by rw[Qq];omega);have e2:(r++a.extract i a.size++b.extract j b.size).toList=r.toList++b.toList.drop j:=by rw[JA,JA,QdC,QdC,e,Ji]
 have pm:=m.pm;rw[e,QcI] at pm;exact⟨by rw[e2];exact m.hb,by rw[e2];exact pm⟩
theorem MI.last(m:MI c a b r i j)(hi:i+1=a.size)(p2:∀k,k<b.size->le c (kx b k) (kx a (a.size - 1))):Out c a b (r++b.extract j b.size++a.extract i a.size):=by
 have e2:(r++b.extract j b.size++a.extract i a.size).toList=(r.toList++b.toList.drop j)++a.toList.drop i:=by rw[JA,JA,QdC,QdC]
 have g:=Jp.mp m.ha;refine⟨by
  rw[e2];refine Jp.mpr ⟨m.hb,g.2.1,λu hu v hv=>?_⟩;rcases JB.mp hu with z | z
  ·exact g.2.2 u z v hv
  ·obtain⟨n,n1,n2,rfl⟩:=QbI hv;obtain⟨n',n3,n4,rfl⟩:=QbI z;rw[show n=a.size - 1 by omega];exact p2 n' n4,?_⟩
 rw[e2,Q3];exact QaM (Qap _ QaH) m.pm
end
structure Sm (st st':J3):Prop where
 kind:kindOf st'=kindOf st
 arr:arrOf st'=arrOf st
 pend:pendingOf st'=pendingOf st
 failed:failedOf st'=failedOf st
theorem Sm.refl(st:J3):Sm st st:=⟨rfl,rfl,rfl,rfl⟩
section
variable{prog:QB}{w:Jl}{A:Q9}{E:Value->Shared->Prop}{s:Shared}{a₀:Array Keyed}{κ:YB}{c:Keyed->Keyed->Bool}
theorem Qfk{st st0:J3}{g:Nat}{Q:Unit->J3->Prop}(m:Sm st0 st)(h:∀st',Sm st0 st'->Q () st'):wpS (model prog w) A E s (YE g) Q st:=by
 rw[QdY];exact Qau (h _ ⟨m.kind,m.arr,m.pend,m.failed⟩)
theorem JO{x y:Nat}(h:x≠y):¬((x == y)=true):=λz=>h (beq_iff_eq.mp z)
theorem Qh5{st:J3}{a b:Array Keyed}{Q:Array Keyed->J3->Prop}(hA:Asks prog w A s κ a₀ c)(hk:kindOf st=κ)(ma:∀p∈a.toList,p∈a₀.toList)(mb:∀p∈b.toList,p∈a₀.toList)(na:1<=a.size)(nb:1<=b.size)
  (sa:Sg c a 0 a.size)(sb:Sg c b 0 b.size)(p1:∀k,k<a.size->le c (kx b 0) (kx a k))(p2:∀k,k<b.size->le c (kx b k) (kx a (a.size - 1)))(h:∀z st',Sm st st'->Out c a b z->Q z st'):wpS (model prog w) A E s (Qgm a b) Q st:=by
 have pwl:∀{xs:Array Keyed},Sg c xs 0 xs.size->Pw c xs.toList:=λ{xs} sg=>Z7.mpr λx y hx hy hxy=>by
  rw[Qq] at hx hy;have e1:=QaR hx;have e2:=QaR hy;rw[Ql (by rw[Qq];exact hx)] at e1;rw[Ql (by rw[Qq];exact hy)] at e2;rw[Qy e1,Qy e2];exact sg x y (Qv _) (by omega) hy
 rw[Qiw]
 dsimp only
 refine Qi (Qd2 (wpAny_rule ⟨rfl,?_⟩));refine Qi (Q6 (by omega) ?_);have m0:MI c a b #[] 0 0:=⟨by rw[ZQ];exact pwl sa,by rw[ZQ];exact pwl sb,by rw[ZQ,ZQ];exact QnW _⟩;have m1:MI c a b #[kx b 0] 0 1:=MI.puB m0 (by omega) λn _ hn=>p1 n hn
 by_cases z1:1=b.size
 ·rw[if_pos (beq_iff_eq.mpr z1)];exact Qj (h _ _ (Sm.refl st) (m1.dnB z1))
 ·rw[if_neg (JO z1)];by_cases z2:0+1=a.size
  ·rw[if_pos (beq_iff_eq.mpr z2)];exact Qj (h _ _ (Sm.refl st) (m1.last z2 p2))
  ·rw[if_neg (JO z2)];refine Qi (Qcn ?_);refine Qi (YA (JZ (I:=λx z st'=>∃r i j mg,z=(none,r,i,j,mg)/\MI c a b r i j/\i+1<a.size/\j<b.size/\x+1<=i+j/\Sm st st')
    (Q:=λz st'=>∃o y,z=(some o,y)/\Out c a b o/\Sm st st') ?step ?fin ⟨_,0,1,_,rfl,m1,by omega,by omega,by omega,Sm.refl st⟩) ?post)
   case post=>
    rintro z st' ⟨o,y,rfl,ho,sm⟩;exact Qj (h o st' sm ho)
   case fin=>
    rintro z st' ⟨r,i,j,mg,rfl,m,i1,j1,x1,sm⟩;exfalso
    omega
   case step=>
    rintro x z st' _ hx ⟨r,i,j,mg,rfl,m,i1,j1,x1,sm⟩
    dsimp only
    refine Qi (YA (JZ (I:=λy z st2=>∃r i j p q,z=(none,r,i,j,p,q)/\MI c a b r i j/\i+1<a.size/\j<b.size/\x+1+y<=i+j/\Sm st st2)
     (Q:=λz st2=>(∃o y,z=(some o,y)/\Out c a b o/\Sm st st2)∨∃r i j p q,z=(none,r,i,j,p,q)/\MI c a b r i j/\i+1<a.size/\j<b.size/\x+2<=i+j/\Sm st st2) ?step1 ?fin1 ⟨r,i,j,0,0,rfl,m,i1,j1,by omega,sm⟩) ?post1)
    case fin1=>
     rintro z st2 ⟨r,i,j,p,q,rfl,m,i1,j1,x1,sm⟩;exact .inr ⟨r,i,j,p,q,rfl,m,i1,j1,by omega,sm⟩
    case step1=>
     rintro y z st2 _ hy ⟨r,i,j,p,q,rfl,m,i1,j1,x1,sm⟩
     dsimp only
     refine Qi (Q6 j1 ?_);refine Qi (Q6 (by omega) ?_);refine Qi (Qg0 hA (sm.kind.trans hk) (mb _ (QeN j1)) (ma _ (QeN (by omega))) ?_);cases e:c (kx b j) (kx a i) with
     |true=>
      dsimp only
      rw[if_pos rfl];refine Qi (Q6 j1 ?_);have m2:=MI.puB m j1 λn n1 n2=>hA.ord.tr (hA.ord.lt_le e) (sa i n (Qv _) n1 n2)
      by_cases z3:j+1=b.size
      ·rw[if_pos (beq_iff_eq.mpr z3)];exact Qj (.inl ⟨_,_,rfl,m2.dnB z3,sm⟩)
      ·rw[if_neg (JO z3)];split
       ·exact Qj (.inr ⟨_,_,_,_,_,rfl,m2,by omega,by omega,by omega,sm⟩)
       ·exact Qj ⟨_,_,_,_,_,rfl,m2,by omega,by omega,by omega,sm⟩
     |false=>
      dsimp only
      rw[if_neg (by decide)];refine Qi (Q6 (by omega) ?_);have m2:=MI.puA m (by omega) λn n1 n2=>hA.ord.tr e (sb j n (Qv _) n1 n2)
      by_cases z3:i+1+1=a.size
      ·rw[if_pos (beq_iff_eq.mpr z3)];exact Qj (.inl ⟨_,_,rfl,m2.last z3 p2,sm⟩)
      ·rw[if_neg (JO z3)];split
       ·exact Qj (.inr ⟨_,_,_,_,_,rfl,m2,by omega,by omega,by omega,sm⟩)
       ·exact Qj ⟨_,_,_,_,_,rfl,m2,by omega,by omega,by omega,sm⟩
    case post1=>
     rintro z st2 (⟨o,y,rfl,ho,sm⟩ | ⟨r,i,j,p,q,rfl,m,i1,j1,x1,sm⟩)
     ·exact Qj ⟨o,_,rfl,ho,sm⟩
     ·dsimp only
      refine Qi (Qd2 (wpAny_rule ⟨rfl,?_⟩));refine Qi (YA (JZ (I:=λy z st3=>∃r i j mg p q,z=(none,r,i,j,mg,p,q)/\MI c a b r i j/\i+1<a.size/\j<b.size/\x+2<=i+j/\Sm st st3)
       (Q:=λz st3=>(∃o y,z=(some o,y)/\Out c a b o/\Sm st st3)∨∃r i j mg p q,z=(none,r,i,j,mg,p,q)/\MI c a b r i j/\i+1<a.size/\j<b.size/\x+2<=i+j/\Sm st st3) ?step2 ?fin2 ⟨r,i,j,_,p,q,rfl,m,i1,j1,by omega,sm⟩) ?post2)
      case fin2=>
       rintro z st3 ⟨r,i,j,mg,p,q,rfl,m,i1,j1,x1,sm⟩;exact .inr ⟨r,i,j,mg,p,q,rfl,m,i1,j1,by omega,sm⟩
      case post2=>
       rintro z st3 (⟨o,y,rfl,ho,sm⟩ | ⟨r,i,j,mg,p,q,rfl,m,i1,j1,x1,sm⟩)
       ·exact Qj ⟨o,_,rfl,ho,sm⟩
       ·dsimp only
        exact Qi (Qfk sm λst4 sm4=>Qj ⟨_,_,_,_,rfl,m,i1,j1,by omega,sm4⟩)
      case step2=>
       rintro y z st3 _ hy ⟨r,i,j,mg,p,q,rfl,m,i1,j1,x1,sm⟩
       dsimp only
       by_cases z0:mg > 1
       ·rw[if_pos z0];refine Qi (Qfk sm λst4 sm4=>?_);refine Qi (Q6 (by omega) ?_);refine Qi (ZB hA (sm4.kind.trans hk) (mb _ (QeN (by omega))) ma (by omega) (by omega) (λx y x1 xy y1=>sa x y (Qv _) xy (by omega)) λk kn b1 b2=>?_);have b1:∀t,t<k->(!c (kx b j) (kx a (i+t)))=true:=λt ht=>b1 t ht
        have b2:∀t,k<=t->t<a.size - i->(!c (kx b j) (kx a (i+t)))=false:=λt h1 h2=>b2 t h1 h2
        dsimp only
        have hB1:∀n,i+k<=n->n<a.size->le c (kx b j) (kx a n):=λn n1 n2=>by
         have:=b2 (n - i) (by omega) (by omega);rw[show i+(n - i)=n by omega] at this;exact hA.ord.lt_le (by simpa using this)
        by_cases zk:k > 0
        ·rw[if_pos zk];have m2:=MI.chA (k:=k) m λt t1 t2 n n1 n2=>by
          have:=b1 t t1;exact hA.ord.tr (show le c (kx a (i+t)) (kx b j) by simpa using this) (sb j n (Qv _) n1 n2)
         by_cases z2:i+k+1=a.size
         ·rw[if_pos (beq_iff_eq.mpr z2)];exact Qj (.inl ⟨_,_,rfl,m2.last z2 p2,sm4⟩)
         ·rw[if_neg (JO z2)];by_cases z3:i+k=a.size
          ·rw[if_pos (beq_iff_eq.mpr z3)];exact Qj (.inl ⟨_,_,rfl,m2.dnA z3,sm4⟩)
          ·rw[if_neg (JO z3)];refine Qi (Q6 (by omega) ?_);have m5:=MI.puB m2 (by omega) hB1;by_cases z5:j+1=b.size
           ·rw[if_pos (beq_iff_eq.mpr z5)];exact Qj (.inl ⟨_,_,rfl,m5.dnB z5,sm4⟩)
           ·rw[if_neg (JO z5)];refine Qi (Q6 (by omega) ?_);refine Qi (ZB hA (sm4.kind.trans hk) (ma _ (QeN (by omega))) mb (by omega) (by omega) (λx y x1 xy y1=>sb x y (Qv _) xy (by omega)) λk2 k2n b1 b2=>?_);have b1:∀t,t<k2->c (kx b (j+1+t)) (kx a (i+k))=true:=λt ht=>b1 t ht
            have b2:∀t,k2<=t->t<b.size - (j+1)->c (kx b (j+1+t)) (kx a (i+k))=false:=λt h1 h2=>b2 t h1 h2
            dsimp only
            have gA:∀n,j+1+k2<=n->n<b.size->le c (kx a (i+k)) (kx b n):=λn n1 n2=>by have:=b2 (n - (j+1)) (by omega) (by omega);rwa [show j+1+(n - (j+1))=n by omega] at this
            by_cases zk2:k2 > 0
            ·rw[if_pos zk2];have m6:=MI.chB (k:=k2) m5 λt t1 t2 n n1 n2=>hA.ord.tr (hA.ord.lt_le (b1 t t1)) (sa (i+k) n (Qv _) n1 n2)
             by_cases z6:j+1+k2=b.size
             ·rw[if_pos (beq_iff_eq.mpr z6)];exact Qj (.inl ⟨_,_,rfl,m6.dnB z6,sm4⟩)
             ·rw[if_neg (JO z6)];refine Qi (Q6 (by omega) ?_);have m9:=MI.puA m6 (by omega) gA;by_cases z9:i+k+1+1=a.size
              ·rw[if_pos (beq_iff_eq.mpr z9)];exact Qj (.inl ⟨_,_,rfl,m9.last z9 p2,sm4⟩)
              ·rw[if_neg (JO z9)];split
               ·exact Qj (.inr ⟨_,_,_,_,_,_,rfl,m9,by omega,by omega,by omega,sm4⟩)
               ·exact Qj ⟨_,_,_,_,_,_,rfl,m9,by omega,by omega,by omega,sm4⟩
            ·rw[if_neg zk2];have zk2:k2=0:=by omega
             subst zk2;refine Qi (Q6 (by omega) ?_);have m9:=MI.puA m5 (by omega) gA;by_cases z9:i+k+1+1=a.size
             ·rw[if_pos (beq_iff_eq.mpr z9)];exact Qj (.inl ⟨_,_,rfl,m9.last z9 p2,sm4⟩)
             ·rw[if_neg (JO z9)];split
              ·exact Qj (.inr ⟨_,_,_,_,_,_,rfl,m9,by omega,by omega,by omega,sm4⟩)
              ·exact Qj ⟨_,_,_,_,_,_,rfl,m9,by omega,by omega,by omega,sm4⟩
        ·rw[if_neg zk];have zk:k=0:=by omega
         subst zk;refine Qi (Q6 (by omega) ?_);have m5:=MI.puB m (by omega) hB1;by_cases z5:j+1=b.size
         ·rw[if_pos (beq_iff_eq.mpr z5)];exact Qj (.inl ⟨_,_,rfl,m5.dnB z5,sm4⟩)
         ·rw[if_neg (JO z5)];refine Qi (Q6 (by omega) ?_);refine Qi (ZB hA (sm4.kind.trans hk) (ma _ (QeN (by omega))) mb (by omega) (by omega) (λx y x1 xy y1=>sb x y (Qv _) xy (by omega)) λk2 k2n b1 b2=>?_);have b1:∀t,t<k2->c (kx b (j+1+t)) (kx a (i))=true:=λt ht=>b1 t ht
          have b2:∀t,k2<=t->t<b.size - (j+1)->c (kx b (j+1+t)) (kx a (i))=false:=λt h1 h2=>b2 t h1 h2
          dsimp only
          have gA:∀n,j+1+k2<=n->n<b.size->le c (kx a (i)) (kx b n):=λn n1 n2=>by have:=b2 (n - (j+1)) (by omega) (by omega);rwa [show j+1+(n - (j+1))=n by omega] at this
          by_cases zk2:k2 > 0
          ·rw[if_pos zk2];have m6:=MI.chB (k:=k2) m5 λt t1 t2 n n1 n2=>hA.ord.tr (hA.ord.lt_le (b1 t t1)) (sa (i) n (Qv _) n1 n2)
           by_cases z6:j+1+k2=b.size
           ·rw[if_pos (beq_iff_eq.mpr z6)];exact Qj (.inl ⟨_,_,rfl,m6.dnB z6,sm4⟩)
           ·rw[if_neg (JO z6)];refine Qi (Q6 (by omega) ?_);have m9:=MI.puA m6 (by omega) gA;by_cases z9:i+1+1=a.size
            ·rw[if_pos (beq_iff_eq.mpr z9)];exact Qj (.inl ⟨_,_,rfl,m9.last z9 p2,sm4⟩)
            ·rw[if_neg (JO z9)];split
             ·exact Qj (.inr ⟨_,_,_,_,_,_,rfl,m9,by omega,by omega,by omega,sm4⟩)
             ·exact Qj ⟨_,_,_,_,_,_,rfl,m9,by omega,by omega,by omega,sm4⟩
          ·rw[if_neg zk2];have zk2:k2=0:=by omega
           subst zk2;refine Qi (Q6 (by omega) ?_);have m9:=MI.puA m5 (by omega) gA;by_cases z9:i+1+1=a.size
           ·rw[if_pos (beq_iff_eq.mpr z9)];exact Qj (.inl ⟨_,_,rfl,m9.last z9 p2,sm4⟩)
           ·rw[if_neg (JO z9)];split
            ·exact Qj (.inr ⟨_,_,_,_,_,_,rfl,m9,by omega,by omega,by omega,sm4⟩)
            ·exact Qj ⟨_,_,_,_,_,_,rfl,m9,by omega,by omega,by omega,sm4⟩
       ·rw[if_neg z0];refine Qi (Qfk sm λst4 sm4=>?_);refine Qi (Q6 (by omega) ?_);refine Qi (ZB hA (sm4.kind.trans hk) (mb _ (QeN (by omega))) ma (by omega) (by omega) (λx y x1 xy y1=>sa x y (Qv _) xy (by omega)) λk kn b1 b2=>?_);have b1:∀t,t<k->(!c (kx b j) (kx a (i+t)))=true:=λt ht=>b1 t ht
        have b2:∀t,k<=t->t<a.size - i->(!c (kx b j) (kx a (i+t)))=false:=λt h1 h2=>b2 t h1 h2
        dsimp only
        have hB1:∀n,i+k<=n->n<a.size->le c (kx b j) (kx a n):=λn n1 n2=>by
         have:=b2 (n - i) (by omega) (by omega);rw[show i+(n - i)=n by omega] at this;exact hA.ord.lt_le (by simpa using this)
        by_cases zk:k > 0
        ·rw[if_pos zk];have m2:=MI.chA (k:=k) m λt t1 t2 n n1 n2=>by
          have:=b1 t t1;exact hA.ord.tr (show le c (kx a (i+t)) (kx b j) by simpa using this) (sb j n (Qv _) n1 n2)
         by_cases z2:i+k+1=a.size
         ·rw[if_pos (beq_iff_eq.mpr z2)];exact Qj (.inl ⟨_,_,rfl,m2.last z2 p2,sm4⟩)
         ·rw[if_neg (JO z2)];by_cases z3:i+k=a.size
          ·rw[if_pos (beq_iff_eq.mpr z3)];exact Qj (.inl ⟨_,_,rfl,m2.dnA z3,sm4⟩)
          ·rw[if_neg (JO z3)];refine Qi (Q6 (by omega) ?_);have m5:=MI.puB m2 (by omega) hB1;by_cases z5:j+1=b.size
           ·rw[if_pos (beq_iff_eq.mpr z5)];exact Qj (.inl ⟨_,_,rfl,m5.dnB z5,sm4⟩)
           ·rw[if_neg (JO z5)];refine Qi (Q6 (by omega) ?_);refine Qi (ZB hA (sm4.kind.trans hk) (ma _ (QeN (by omega))) mb (by omega) (by omega) (λx y x1 xy y1=>sb x y (Qv _) xy (by omega)) λk2 k2n b1 b2=>?_);have b1:∀t,t<k2->c (kx b (j+1+t)) (kx a (i+k))=true:=λt ht=>b1 t ht
            have b2:∀t,k2<=t->t<b.size - (j+1)->c (kx b (j+1+t)) (kx a (i+k))=false:=λt h1 h2=>b2 t h1 h2
            dsimp only
            have gA:∀n,j+1+k2<=n->n<b.size->le c (kx a (i+k)) (kx b n):=λn n1 n2=>by have:=b2 (n - (j+1)) (by omega) (by omega);rwa [show j+1+(n - (j+1))=n by omega] at this
            by_cases zk2:k2 > 0
            ·rw[if_pos zk2];have m6:=MI.chB (k:=k2) m5 λt t1 t2 n n1 n2=>hA.ord.tr (hA.ord.lt_le (b1 t t1)) (sa (i+k) n (Qv _) n1 n2)
             by_cases z6:j+1+k2=b.size
             ·rw[if_pos (beq_iff_eq.mpr z6)];exact Qj (.inl ⟨_,_,rfl,m6.dnB z6,sm4⟩)
             ·rw[if_neg (JO z6)];refine Qi (Q6 (by omega) ?_);have m9:=MI.puA m6 (by omega) gA;by_cases z9:i+k+1+1=a.size
              ·rw[if_pos (beq_iff_eq.mpr z9)];exact Qj (.inl ⟨_,_,rfl,m9.last z9 p2,sm4⟩)
              ·rw[if_neg (JO z9)];split
               ·exact Qj (.inr ⟨_,_,_,_,_,_,rfl,m9,by omega,by omega,by omega,sm4⟩)
               ·exact Qj ⟨_,_,_,_,_,_,rfl,m9,by omega,by omega,by omega,sm4⟩
            ·rw[if_neg zk2];have zk2:k2=0:=by omega
             subst zk2;refine Qi (Q6 (by omega) ?_);have m9:=MI.puA m5 (by omega) gA;by_cases z9:i+k+1+1=a.size
             ·rw[if_pos (beq_iff_eq.mpr z9)];exact Qj (.inl ⟨_,_,rfl,m9.last z9 p2,sm4⟩)
             ·rw[if_neg (JO z9)];split
              ·exact Qj (.inr ⟨_,_,_,_,_,_,rfl,m9,by omega,by omega,by omega,sm4⟩)
              ·exact Qj ⟨_,_,_,_,_,_,rfl,m9,by omega,by omega,by omega,sm4⟩
        ·rw[if_neg zk];have zk:k=0:=by omega
         subst zk;refine Qi (Q6 (by omega) ?_);have m5:=MI.puB m (by omega) hB1;by_cases z5:j+1=b.size
         ·rw[if_pos (beq_iff_eq.mpr z5)];exact Qj (.inl ⟨_,_,rfl,m5.dnB z5,sm4⟩)
         ·rw[if_neg (JO z5)];refine Qi (Q6 (by omega) ?_);refine Qi (ZB hA (sm4.kind.trans hk) (ma _ (QeN (by omega))) mb (by omega) (by omega) (λx y x1 xy y1=>sb x y (Qv _) xy (by omega)) λk2 k2n b1 b2=>?_);have b1:∀t,t<k2->c (kx b (j+1+t)) (kx a (i))=true:=λt ht=>b1 t ht
          have b2:∀t,k2<=t->t<b.size - (j+1)->c (kx b (j+1+t)) (kx a (i))=false:=λt h1 h2=>b2 t h1 h2
          dsimp only
          have gA:∀n,j+1+k2<=n->n<b.size->le c (kx a (i)) (kx b n):=λn n1 n2=>by have:=b2 (n - (j+1)) (by omega) (by omega);rwa [show j+1+(n - (j+1))=n by omega] at this
          by_cases zk2:k2 > 0
          ·rw[if_pos zk2];have m6:=MI.chB (k:=k2) m5 λt t1 t2 n n1 n2=>hA.ord.tr (hA.ord.lt_le (b1 t t1)) (sa (i) n (Qv _) n1 n2)
           by_cases z6:j+1+k2=b.size
           ·rw[if_pos (beq_iff_eq.mpr z6)];exact Qj (.inl ⟨_,_,rfl,m6.dnB z6,sm4⟩)
           ·rw[if_neg (JO z6)];refine Qi (Q6 (by omega) ?_);have m9:=MI.puA m6 (by omega) gA;by_cases z9:i+1+1=a.size
            ·rw[if_pos (beq_iff_eq.mpr z9)];exact Qj (.inl ⟨_,_,rfl,m9.last z9 p2,sm4⟩)
            ·rw[if_neg (JO z9)];split
             ·exact Qj (.inr ⟨_,_,_,_,_,_,rfl,m9,by omega,by omega,by omega,sm4⟩)
             ·exact Qj ⟨_,_,_,_,_,_,rfl,m9,by omega,by omega,by omega,sm4⟩
          ·rw[if_neg zk2];have zk2:k2=0:=by omega
           subst zk2;refine Qi (Q6 (by omega) ?_);have m9:=MI.puA m5 (by omega) gA;by_cases z9:i+1+1=a.size
           ·rw[if_pos (beq_iff_eq.mpr z9)];exact Qj (.inl ⟨_,_,rfl,m9.last z9 p2,sm4⟩)
           ·rw[if_neg (JO z9)];split
            ·exact Qj (.inr ⟨_,_,_,_,_,_,rfl,m9,by omega,by omega,by omega,sm4⟩)
            ·exact Qj ⟨_,_,_,_,_,_,rfl,m9,by omega,by omega,by omega,sm4⟩
end
theorem Qix(a b:Array Keyed):Qgn a b=(do
 rule "list.sort.merge-hi"
 let tot:=a.size+b.size
 let dn (r:Array Keyed) (i j:Nat):=a.extract 0 i++b.extract 0 j++r.reverse
 let fb (r:Array Keyed) (i j:Nat):=b.extract 0 j++a.extract 0 i++r.reverse
 let mut i:=a.size - 1
 let mut j:=b.size
 let mut r:Array Keyed:=#[<- elem' a i]
 if i == 0 then return dn r i j
 if j == 1 then return fb r i j
 let mut mg:=gallopOf (<- get)
 for _ in [0:tot] do
  let mut p:=0
  let mut q:=0
  for _ in [0:tot] do
   let some t <- lt' (<- elem' b (j - 1)) (<- elem' a (i - 1)) | return dn r i j
   if t then
    i:=i - 1;r:=r.push (<- elem' a i);p:=p+1;q:=0
    if i == 0 then return dn r i j
    if p≥mg then break
   else
    j:=j - 1;r:=r.push (<- elem' b j);q:=q+1;p:=0
    if j == 1 then return fb r i j
    if q≥mg then break
  rule "list.sort.gallop"
  mg:=mg+1
  for _ in [0:tot] do
   if mg > 1 then mg:=mg - 1
   YE mg
   let some t <- Qb2 false (<- elem' b (j - 1)) a 0 i (i - 1) | return dn r i j
   let k:=i - t
   p:=k
   if k > 0 then
    r:=r++(a.extract t i).reverse;i:=t
    if i == 0 then return dn r i j
   j:=j - 1;r:=r.push (<- elem' b j)
   if j == 1 then return fb r i j
   let some t <- Qb2 true (<- elem' a (i - 1)) b 0 j (j - 1) | return dn r i j
   let k:=j - t
   q:=k
   if k > 0 then
    r:=r++(b.extract t j).reverse;j:=t
    if j == 1 then return fb r i j
    if j == 0 then return dn r i j
   i:=i - 1;r:=r.push (<- elem' a i)
   if i == 0 then return dn r i j
   if p<7&&q<7 then break
  mg:=mg+1
  YE mg
 unsupported "internal:list.sort.merge-bound"):=rfl
section
variable{c:Keyed->Keyed->Bool}
theorem QrV{r ch x y:List Keyed}(h1:Pw c ((x++ch)++r))(h2:Pw c (y++r))(h:∀u∈y,∀v∈ch,le c u v):Pw c (x++(ch++r))/\Pw c (y++(ch++r)):=by
 have h1':Pw c (x++(ch++r)):=by rw[<- Q3];exact h1
 refine⟨h1',?_⟩;have g:=Jp.mp h1';have g2:=Jp.mp h2;refine Jp.mpr ⟨g2.1,g.2.1,λu hu v hv=>?_⟩;rcases JB.mp hv with z | z
 ·exact h u hu v z
 ·exact g2.2.2 u hu v z
theorem QjI(xs:Array Keyed)(i:Nat):(xs.extract 0 i).toList=xs.toList.take i:=by
 rw[Qa0,Y5,Nat.sub_zero,ZQ]
theorem QaT(xs:Array Keyed)(t i:Nat):(xs.extract t i).toList=(xs.toList.take i).drop t:=by
 rw[Qa0,Y5,List.take_drop];by_cases z:t<=i
 ·rw[show t+(i - t)=i by omega]
 ·rw[show i - t=0 by omega,Qfh,ZY (by rw[Jo];omega),ZY (by rw[Jo];omega)]
theorem Y3{xs:Array Keyed}{t i:Nat}{p:Keyed}(h:p∈(xs.toList.take i).drop t):∃n,t<=n/\n<i/\n<xs.size/\p=kx xs n:=by
 obtain⟨n,hn⟩:=Jf.mp h;rw[QbC,Qd6] at hn;split at hn
 ·rename_i z
  have hl:=(QU.mp hn).1;rw[Qq] at hl;rw[QaR hl] at hn;exact⟨t+n,by omega,z,hl,(Qy hn).symm⟩
 ·cases hn
structure MH (c:Keyed->Keyed->Bool) (a b r:Array Keyed) (i j:Nat):Prop where
 ha:Pw c (a.toList.take i++r.toList.reverse)
 hb:Pw c (b.toList.take j++r.toList.reverse)
 pm:((a.toList.take i++b.toList.take j)++r.toList.reverse).Perm (a.toList++b.toList)
variable{a b r:Array Keyed}{i j t:Nat}
theorem Qdl(r x:Array Keyed):(r++x.reverse).toList.reverse=x.toList++r.toList.reverse:=by
 rw[JA,QcR,List.reverse_append,List.reverse_reverse]
theorem MH.chA(m:MH c a b r i j)(ht:t<=i)(h:∀n,t<=n->n<i->n<a.size->∀k,k<j->k<b.size->le c (kx b k) (kx a n)):MH c a b (r++(a.extract t i).reverse) t j:=by
 have e:a.toList.take i=a.toList.take t++(a.toList.take i).drop t:=by
  have:=(Jw t (a.toList.take i)).symm
  rwa [Qdf,YO ht] at this
 have h1:=m.ha;have pm:=m.pm;rw[e] at h1 pm;obtain⟨g1,g2⟩:=QrV h1 m.hb λu hu v hv=>by
  obtain⟨n,n1,n2,n3,rfl⟩:=Y3 hv;obtain⟨k,_,k2,k3,rfl⟩:=Y3 (t:=0) (by rw[ZQ];exact hu);exact h n n1 n2 n3 k k2 k3
 refine⟨by rw[Qdl,QaT];exact g1,by rw[Qdl,QaT];exact g2,?_⟩;rw[Qdl,QaT];refine QaM ?_ pm
 rw[<- Q3];refine Qah _ ?_
 rw[Q3,Q3];exact Qap _ QaH
theorem MH.chB(m:MH c a b r i j)(ht:t<=j)(h:∀n,t<=n->n<j->n<b.size->∀k,k<i->k<a.size->le c (kx a k) (kx b n)):MH c a b (r++(b.extract t j).reverse) i t:=by
 have e:b.toList.take j=b.toList.take t++(b.toList.take j).drop t:=by
  have:=(Jw t (b.toList.take j)).symm
  rwa [Qdf,YO ht] at this
 have h1:=m.hb;have pm:=m.pm;rw[e] at h1 pm;obtain⟨g1,g2⟩:=QrV h1 m.ha λu hu v hv=>by
  obtain⟨n,n1,n2,n3,rfl⟩:=Y3 hv;obtain⟨k,_,k2,k3,rfl⟩:=Y3 (t:=0) (by rw[ZQ];exact hu);exact h n n1 n2 n3 k k2 k3
 refine⟨by rw[Qdl,QaT];exact g2,by rw[Qdl,QaT];exact g1,?_⟩;rw[Qdl,QaT];refine QaM ?_ pm
 rw[<- Q3,Q3 (a.toList.take i)]
theorem Qjn{xs:Array Keyed}{i:Nat}(h1:1<=i)(h:i<=xs.size):r.push (kx xs (i - 1))=r++(xs.extract (i - 1) i).reverse:=by
 apply Qfa.mp
 have e:=Qei xs (i - 1) 1;rw[show i - 1+1=i by omega] at e;rw[Qep,JA,QcR,e,Qm9 (by omega)];rfl
theorem MH.puA(m:MH c a b r i j)(h1:1<=i)(hi:i<=a.size)(h:∀k,k<j->k<b.size->le c (kx b k) (kx a (i - 1))):MH c a b (r.push (kx a (i - 1))) (i - 1) j:=by
 rw[Qjn h1 hi];refine m.chA (by omega) λn n1 n2 _=>?_
 rw[show n=i - 1 by omega];exact h
theorem MH.puB(m:MH c a b r i j)(h1:1<=j)(hj:j<=b.size)(h:∀k,k<i->k<a.size->le c (kx a k) (kx b (j - 1))):MH c a b (r.push (kx b (j - 1))) i (j - 1):=by
 rw[Qjn h1 hj];refine m.chB (by omega) λn n1 n2 _=>?_
 rw[show n=j - 1 by omega];exact h
theorem Qci(x y r:Array Keyed)(i j:Nat):(x.extract 0 i++y.extract 0 j++r.reverse).toList=(x.toList.take i++y.toList.take j)++r.toList.reverse:=by
 rw[JA,JA,QjI,QjI,QcR]
theorem MH.dnA(m:MH c a b r i j)(hi:i=0):Out c a b (a.extract 0 i++b.extract 0 j++r.reverse):=by
 have pm:=m.pm;subst hi;refine⟨?_,by rw[Qci];exact pm⟩;rw[Qci,Qus,QcI];exact m.hb
theorem MH.dnB(m:MH c a b r i j)(hj:j=0):Out c a b (a.extract 0 i++b.extract 0 j++r.reverse):=by
 have pm:=m.pm;subst hj;refine⟨?_,by rw[Qci];exact pm⟩;rw[Qci,Qus,Ji];exact m.ha
theorem MH.fb(m:MH c a b r i j)(hj:j=1)(p1:∀k,k<a.size->le c (kx b 0) (kx a k)):Out c a b (b.extract 0 j++a.extract 0 i++r.reverse):=by
 refine⟨?_,?_⟩
 ·rw[Qci];have g:=Jp.mp m.hb;rw[Q3];refine Jp.mpr ⟨g.1,m.ha,λu hu v hv=>?_⟩;rcases JB.mp hv with z | z
  ·obtain⟨k,_,k2,k3,rfl⟩:=Y3 (t:=0) (by rw[ZQ];exact hu);obtain⟨n,_,n2,n3,rfl⟩:=Y3 (t:=0) (by rw[ZQ];exact z);rw[show k=0 by omega];exact p1 n n3
  ·exact g.2.2 u hu v z
 ·rw[Qci];exact QaM (Qah _ QaH) m.pm
end
section
variable{prog:QB}{w:Jl}{A:Q9}{E:Value->Shared->Prop}{s:Shared}{a₀:Array Keyed}{κ:YB}{c:Keyed->Keyed->Bool}
theorem Qjm{xs:Array Keyed}(sg:Sg c xs 0 xs.size):Pw c xs.toList:=Z7.mpr λx y hx hy hxy=>by
 rw[Qq] at hx hy;have e1:=QaR hx;have e2:=QaR hy;rw[Ql (by rw[Qq];exact hx)] at e1;rw[Ql (by rw[Qq];exact hy)] at e2;rw[Qy e1,Qy e2];exact sg x y (Qv _) (by omega) hy
theorem Qh6{st:J3}{a b:Array Keyed}{Q:Array Keyed->J3->Prop}(hA:Asks prog w A s κ a₀ c)(hk:kindOf st=κ)(ma:∀p∈a.toList,p∈a₀.toList)(mb:∀p∈b.toList,p∈a₀.toList)(na:1<=a.size)(nb:1<=b.size)
  (sa:Sg c a 0 a.size)(sb:Sg c b 0 b.size)(p1:∀k,k<a.size->le c (kx b 0) (kx a k))(p2:∀k,k<b.size->le c (kx b k) (kx a (a.size - 1)))(h:∀z st',Sm st st'->Out c a b z->Q z st'):wpS (model prog w) A E s (Qgn a b) Q st:=by
 rw[Qix]
 dsimp only
 refine Qi (Qd2 (wpAny_rule ⟨rfl,?_⟩));refine Qi (Q6 (by omega) ?_);have tk:∀xs:Array Keyed,xs.toList.take xs.size=xs.toList:=λxs=>Yz (by rw[Qq];exact Qk _)
 have m0:MH c a b #[] a.size b.size:=⟨by rw[tk];show Pw c (a.toList++[]);rw[Ji];exact Qjm sa,by rw[tk];show Pw c (b.toList++[]);rw[Ji];exact Qjm sb,by rw[tk,tk];show((a.toList++b.toList)++[]).Perm _;rw[Ji]⟩;have m1:MH c a b #[kx a (a.size - 1)] (a.size - 1) b.size:=MH.puA m0 na (Qk _) λk _ hk=>p2 k hk
 by_cases z1:a.size - 1=0
 ·rw[if_pos (beq_iff_eq.mpr z1)];exact Qj (h _ _ (Sm.refl st) (m1.dnA z1))
 ·rw[if_neg (JO z1)];by_cases z2:b.size=1
  ·rw[if_pos (beq_iff_eq.mpr z2)];exact Qj (h _ _ (Sm.refl st) (m1.fb z2 p1))
  ·rw[if_neg (JO z2)];refine Qi (Qcn ?_);refine Qi (YA (JZ (I:=λx z st'=>∃r i j mg,z=(none,i,j,r,mg)/\MH c a b r i j/\1<=i/\i<=a.size/\2<=j/\j<=b.size/\x+1+i+j<=a.size+b.size/\Sm st st')
    (Q:=λz st'=>∃o y,z=(some o,y)/\Out c a b o/\Sm st st') ?step ?fin ⟨_,_,_,_,rfl,m1,by omega,by omega,by omega,by omega,by omega,Sm.refl st⟩) ?post)
   case post=>
    rintro z st' ⟨o,y,rfl,ho,sm⟩;exact Qj (h o st' sm ho)
   case fin=>
    rintro z st' ⟨r,i,j,mg,rfl,m,i1,i2,j1,j2,x1,sm⟩;exfalso
    omega
   case step=>
    rintro x z st' _ hx ⟨r,i,j,mg,rfl,m,i1,i2,j1,j2,x1,sm⟩
    dsimp only
    refine Qi (YA (JZ (I:=λy z st2=>∃r i j p q,z=(none,i,j,r,p,q)/\MH c a b r i j/\1<=i/\i<=a.size/\2<=j/\j<=b.size/\x+1+y+i+j<=a.size+b.size/\Sm st st2)
     (Q:=λz st2=>(∃o y,z=(some o,y)/\Out c a b o/\Sm st st2)∨∃r i j p q,z=(none,i,j,r,p,q)/\MH c a b r i j/\1<=i/\i<=a.size/\2<=j/\j<=b.size/\x+2+i+j<=a.size+b.size/\Sm st st2) ?step1 ?fin1 ⟨r,i,j,0,0,rfl,m,i1,i2,j1,j2,by omega,sm⟩) ?post1)
    case fin1=>
     rintro z st2 ⟨r,i,j,p,q,rfl,m,i1,i2,j1,j2,x1,sm⟩;exact .inr ⟨r,i,j,p,q,rfl,m,i1,i2,j1,j2,by omega,sm⟩
    case step1=>
     rintro y z st2 _ hy ⟨r,i,j,p,q,rfl,m,i1,i2,j1,j2,x1,sm⟩
     dsimp only
     refine Qi (Q6 (by omega) ?_);refine Qi (Q6 (by omega) ?_);refine Qi (Qg0 hA (sm.kind.trans hk) (mb _ (QeN (by omega))) (ma _ (QeN (by omega))) ?_);cases e:c (kx b (j - 1)) (kx a (i - 1)) with
     |true=>
      dsimp only
      rw[if_pos rfl];refine Qi (Q6 (by omega) ?_);have m2:=MH.puA m i1 i2 λk k1 k2=>hA.ord.tr (sb k (j - 1) (Qv _) (by omega) (by omega)) (hA.ord.lt_le e)
      by_cases z3:i - 1=0
      ·rw[if_pos (beq_iff_eq.mpr z3)];exact Qj (.inl ⟨_,_,rfl,m2.dnA z3,sm⟩)
      ·rw[if_neg (JO z3)];split
       ·exact Qj (.inr ⟨_,_,_,_,_,rfl,m2,by omega,by omega,by omega,by omega,by omega,sm⟩)
       ·exact Qj ⟨_,_,_,_,_,rfl,m2,by omega,by omega,by omega,by omega,by omega,sm⟩
     |false=>
      dsimp only
      rw[if_neg (by decide)];refine Qi (Q6 (by omega) ?_);have m2:=MH.puB m (by omega) j2 λk k1 k2=>hA.ord.tr (sa k (i - 1) (Qv _) (by omega) (by omega)) e
      by_cases z3:j - 1=1
      ·rw[if_pos (beq_iff_eq.mpr z3)];exact Qj (.inl ⟨_,_,rfl,m2.fb z3 p1,sm⟩)
      ·rw[if_neg (JO z3)];split
       ·exact Qj (.inr ⟨_,_,_,_,_,rfl,m2,by omega,by omega,by omega,by omega,by omega,sm⟩)
       ·exact Qj ⟨_,_,_,_,_,rfl,m2,by omega,by omega,by omega,by omega,by omega,sm⟩
    case post1=>
     rintro z st2 (⟨o,y,rfl,ho,sm⟩ | ⟨r,i,j,p,q,rfl,m,i1,i2,j1,j2,x1,sm⟩)
     ·exact Qj ⟨o,_,rfl,ho,sm⟩
     ·dsimp only
      refine Qi (Qd2 (wpAny_rule ⟨rfl,?_⟩));refine Qi (YA (JZ (I:=λy z st3=>∃r i j mg p q,z=(none,i,j,r,mg,p,q)/\MH c a b r i j/\1<=i/\i<=a.size/\2<=j/\j<=b.size/\x+2+i+j<=a.size+b.size/\Sm st st3)
       (Q:=λz st3=>(∃o y,z=(some o,y)/\Out c a b o/\Sm st st3)∨∃r i j mg p q,z=(none,i,j,r,mg,p,q)/\MH c a b r i j/\1<=i/\i<=a.size/\2<=j/\j<=b.size/\x+2+i+j<=a.size+b.size/\Sm st st3) ?step2 ?fin2 ⟨r,i,j,_,p,q,rfl,m,i1,i2,j1,j2,by omega,sm⟩) ?post2)
      case fin2=>
       rintro z st3 ⟨r,i,j,mg,p,q,rfl,m,i1,i2,j1,j2,x1,sm⟩;exact .inr ⟨r,i,j,mg,p,q,rfl,m,i1,i2,j1,j2,by omega,sm⟩
      case post2=>
       rintro z st3 (⟨o,y,rfl,ho,sm⟩ | ⟨r,i,j,mg,p,q,rfl,m,i1,i2,j1,j2,x1,sm⟩)
       ·exact Qj ⟨o,_,rfl,ho,sm⟩
       ·dsimp only
        exact Qi (Qfk sm λst4 sm4=>Qj ⟨_,_,_,_,rfl,m,i1,i2,j1,j2,by omega,sm4⟩)
      case step2=>
       rintro y z st3 _ hy ⟨r,i,j,mg,p,q,rfl,m,i1,i2,j1,j2,x1,sm⟩
       dsimp only
       by_cases z0:mg > 1
       ·rw[if_pos z0];refine Qi (Qfk sm λst4 sm4=>?_);refine Qi (Q6 (by omega) ?_);refine Qi (ZB hA (sm4.kind.trans hk) (mb _ (QeN (by omega))) ma (by omega) (by omega) (λx y x1 xy y1=>sa x y (Qv _) xy (by omega)) λt tn b1 b2=>?_);have lowA:∀n,n<t->le c (kx a n) (kx b (j - 1)):=λn hn=>by
         have:(!c (kx b (j - 1)) (kx a (0+n)))=true:=b1 n hn;rw[ZR] at this
         simpa using this
        have b2:∀n,t<=n->n<i->c (kx b (j - 1)) (kx a n)=true:=λn h1 h2=>by
         have:(!c (kx b (j - 1)) (kx a (0+n)))=false:=b2 n h1 h2;rw[ZR] at this
         simpa using this
        dsimp only
        by_cases zk:i - t > 0
        ·rw[if_pos zk];have m2:=MH.chA (t:=t) m tn λn n1 n2 _ k k1 k2=>hA.ord.tr (sb k (j - 1) (Qv _) (by omega) (by omega)) (hA.ord.lt_le (b2 n n1 n2))
         by_cases z2:t=0
         ·rw[if_pos (beq_iff_eq.mpr z2)];exact Qj (.inl ⟨_,_,rfl,m2.dnA z2,sm4⟩)
         ·rw[if_neg (JO z2)];refine Qi (Q6 (by omega) ?_);have m5:=MH.puB m2 (by omega) (by omega) λk k1 k2=>lowA k k1
          by_cases z5:j - 1=1
          ·rw[if_pos (beq_iff_eq.mpr z5)];exact Qj (.inl ⟨_,_,rfl,m5.fb z5 p1,sm4⟩)
          ·rw[if_neg (JO z5)];refine Qi (Q6 (by omega) ?_);refine Qi (ZB hA (sm4.kind.trans hk) (ma _ (QeN (by omega))) mb (by omega) (by omega) (λx y x1 xy y1=>sb x y (Qv _) xy (by omega)) λt2 t2n b1 b2=>?_);have b1:∀n,n<t2->c (kx b n) (kx a (t - 1))=true:=λn hn=>by have:=b1 n hn;rwa [ZR] at this
           have b2:∀n,t2<=n->n<j - 1->c (kx b n) (kx a (t - 1))=false:=λn h1 h2=>by have:=b2 n h1 h2;rwa [ZR] at this
           dsimp only
           by_cases zk2:j - 1 - t2 > 0
           ·rw[if_pos zk2];have m6:=MH.chB (t:=t2) m5 t2n λn n1 n2 _ k k1 k2=>hA.ord.tr (sa k (t - 1) (Qv _) (by omega) (by omega)) (b2 n n1 n2)
            by_cases z6:t2=1
            ·rw[if_pos (beq_iff_eq.mpr z6)];exact Qj (.inl ⟨_,_,rfl,m6.fb z6 p1,sm4⟩)
            ·rw[if_neg (JO z6)];by_cases z7:t2=0
             ·rw[if_pos (beq_iff_eq.mpr z7)];exact Qj (.inl ⟨_,_,rfl,m6.dnB z7,sm4⟩)
             ·rw[if_neg (JO z7)];refine Qi (Q6 (by omega) ?_);have m9:=MH.puA m6 (by omega) (by omega) λk k1 k2=>hA.ord.lt_le (b1 k k1)
              by_cases z9:t - 1=0
              ·rw[if_pos (beq_iff_eq.mpr z9)];exact Qj (.inl ⟨_,_,rfl,m9.dnA z9,sm4⟩)
              ·rw[if_neg (JO z9)];split
               ·exact Qj (.inr ⟨_,_,_,_,_,_,rfl,m9,by omega,by omega,by omega,by omega,by omega,sm4⟩)
               ·exact Qj ⟨_,_,_,_,_,_,rfl,m9,by omega,by omega,by omega,by omega,by omega,sm4⟩
           ·rw[if_neg zk2];have zt:t2=j - 1:=by omega
            refine Qi (Q6 (by omega) ?_);have m9:=MH.puA m5 (by omega) (by omega) λk k1 k2=>hA.ord.lt_le (b1 k (by omega))
            by_cases z9:t - 1=0
            ·rw[if_pos (beq_iff_eq.mpr z9)];exact Qj (.inl ⟨_,_,rfl,m9.dnA z9,sm4⟩)
            ·rw[if_neg (JO z9)];split
             ·exact Qj (.inr ⟨_,_,_,_,_,_,rfl,m9,by omega,by omega,by omega,by omega,by omega,sm4⟩)
             ·exact Qj ⟨_,_,_,_,_,_,rfl,m9,by omega,by omega,by omega,by omega,by omega,sm4⟩
        ·rw[if_neg zk];have zt:t=i:=by omega
         subst zt;refine Qi (Q6 (by omega) ?_);have m5:=MH.puB m (by omega) (by omega) λk k1 k2=>lowA k k1
         by_cases z5:j - 1=1
         ·rw[if_pos (beq_iff_eq.mpr z5)];exact Qj (.inl ⟨_,_,rfl,m5.fb z5 p1,sm4⟩)
         ·rw[if_neg (JO z5)];refine Qi (Q6 (by omega) ?_);refine Qi (ZB hA (sm4.kind.trans hk) (ma _ (QeN (by omega))) mb (by omega) (by omega) (λx y x1 xy y1=>sb x y (Qv _) xy (by omega)) λt2 t2n b1 b2=>?_);have b1:∀n,n<t2->c (kx b n) (kx a (t - 1))=true:=λn hn=>by have:=b1 n hn;rwa [ZR] at this
          have b2:∀n,t2<=n->n<j - 1->c (kx b n) (kx a (t - 1))=false:=λn h1 h2=>by have:=b2 n h1 h2;rwa [ZR] at this
          dsimp only
          by_cases zk2:j - 1 - t2 > 0
          ·rw[if_pos zk2];have m6:=MH.chB (t:=t2) m5 t2n λn n1 n2 _ k k1 k2=>hA.ord.tr (sa k (t - 1) (Qv _) (by omega) (by omega)) (b2 n n1 n2)
           by_cases z6:t2=1
           ·rw[if_pos (beq_iff_eq.mpr z6)];exact Qj (.inl ⟨_,_,rfl,m6.fb z6 p1,sm4⟩)
           ·rw[if_neg (JO z6)];by_cases z7:t2=0
            ·rw[if_pos (beq_iff_eq.mpr z7)];exact Qj (.inl ⟨_,_,rfl,m6.dnB z7,sm4⟩)
            ·rw[if_neg (JO z7)];refine Qi (Q6 (by omega) ?_);have m9:=MH.puA m6 (by omega) (by omega) λk k1 k2=>hA.ord.lt_le (b1 k k1)
             by_cases z9:t - 1=0
             ·rw[if_pos (beq_iff_eq.mpr z9)];exact Qj (.inl ⟨_,_,rfl,m9.dnA z9,sm4⟩)
             ·rw[if_neg (JO z9)];split
              ·exact Qj (.inr ⟨_,_,_,_,_,_,rfl,m9,by omega,by omega,by omega,by omega,by omega,sm4⟩)
              ·exact Qj ⟨_,_,_,_,_,_,rfl,m9,by omega,by omega,by omega,by omega,by omega,sm4⟩
          ·rw[if_neg zk2];have zt:t2=j - 1:=by omega
           refine Qi (Q6 (by omega) ?_);have m9:=MH.puA m5 (by omega) (by omega) λk k1 k2=>hA.ord.lt_le (b1 k (by omega))
           by_cases z9:t - 1=0
           ·rw[if_pos (beq_iff_eq.mpr z9)];exact Qj (.inl ⟨_,_,rfl,m9.dnA z9,sm4⟩)
           ·rw[if_neg (JO z9)];split
            ·exact Qj (.inr ⟨_,_,_,_,_,_,rfl,m9,by omega,by omega,by omega,by omega,by omega,sm4⟩)
            ·exact Qj ⟨_,_,_,_,_,_,rfl,m9,by omega,by omega,by omega,by omega,by omega,sm4⟩
       ·rw[if_neg z0];refine Qi (Qfk sm λst4 sm4=>?_);refine Qi (Q6 (by omega) ?_);refine Qi (ZB hA (sm4.kind.trans hk) (mb _ (QeN (by omega))) ma (by omega) (by omega) (λx y x1 xy y1=>sa x y (Qv _) xy (by omega)) λt tn b1 b2=>?_);have lowA:∀n,n<t->le c (kx a n) (kx b (j - 1)):=λn hn=>by
         have:(!c (kx b (j - 1)) (kx a (0+n)))=true:=b1 n hn;rw[ZR] at this
         simpa using this
        have b2:∀n,t<=n->n<i->c (kx b (j - 1)) (kx a n)=true:=λn h1 h2=>by
         have:(!c (kx b (j - 1)) (kx a (0+n)))=false:=b2 n h1 h2;rw[ZR] at this
         simpa using this
        dsimp only
        by_cases zk:i - t > 0
        ·rw[if_pos zk];have m2:=MH.chA (t:=t) m tn λn n1 n2 _ k k1 k2=>hA.ord.tr (sb k (j - 1) (Qv _) (by omega) (by omega)) (hA.ord.lt_le (b2 n n1 n2))
         by_cases z2:t=0
         ·rw[if_pos (beq_iff_eq.mpr z2)];exact Qj (.inl ⟨_,_,rfl,m2.dnA z2,sm4⟩)
         ·rw[if_neg (JO z2)];refine Qi (Q6 (by omega) ?_);have m5:=MH.puB m2 (by omega) (by omega) λk k1 k2=>lowA k k1
          by_cases z5:j - 1=1
          ·rw[if_pos (beq_iff_eq.mpr z5)];exact Qj (.inl ⟨_,_,rfl,m5.fb z5 p1,sm4⟩)
          ·rw[if_neg (JO z5)];refine Qi (Q6 (by omega) ?_);refine Qi (ZB hA (sm4.kind.trans hk) (ma _ (QeN (by omega))) mb (by omega) (by omega) (λx y x1 xy y1=>sb x y (Qv _) xy (by omega)) λt2 t2n b1 b2=>?_);have b1:∀n,n<t2->c (kx b n) (kx a (t - 1))=true:=λn hn=>by have:=b1 n hn;rwa [ZR] at this
           have b2:∀n,t2<=n->n<j - 1->c (kx b n) (kx a (t - 1))=false:=λn h1 h2=>by have:=b2 n h1 h2;rwa [ZR] at this
           dsimp only
           by_cases zk2:j - 1 - t2 > 0
           ·rw[if_pos zk2];have m6:=MH.chB (t:=t2) m5 t2n λn n1 n2 _ k k1 k2=>hA.ord.tr (sa k (t - 1) (Qv _) (by omega) (by omega)) (b2 n n1 n2)
            by_cases z6:t2=1
            ·rw[if_pos (beq_iff_eq.mpr z6)];exact Qj (.inl ⟨_,_,rfl,m6.fb z6 p1,sm4⟩)
            ·rw[if_neg (JO z6)];by_cases z7:t2=0
             ·rw[if_pos (beq_iff_eq.mpr z7)];exact Qj (.inl ⟨_,_,rfl,m6.dnB z7,sm4⟩)
             ·rw[if_neg (JO z7)];refine Qi (Q6 (by omega) ?_);have m9:=MH.puA m6 (by omega) (by omega) λk k1 k2=>hA.ord.lt_le (b1 k k1)
              by_cases z9:t - 1=0
              ·rw[if_pos (beq_iff_eq.mpr z9)];exact Qj (.inl ⟨_,_,rfl,m9.dnA z9,sm4⟩)
              ·rw[if_neg (JO z9)];split
               ·exact Qj (.inr ⟨_,_,_,_,_,_,rfl,m9,by omega,by omega,by omega,by omega,by omega,sm4⟩)
               ·exact Qj ⟨_,_,_,_,_,_,rfl,m9,by omega,by omega,by omega,by omega,by omega,sm4⟩
           ·rw[if_neg zk2];have zt:t2=j - 1:=by omega
            refine Qi (Q6 (by omega) ?_);have m9:=MH.puA m5 (by omega) (by omega) λk k1 k2=>hA.ord.lt_le (b1 k (by omega))
            by_cases z9:t - 1=0
            ·rw[if_pos (beq_iff_eq.mpr z9)];exact Qj (.inl ⟨_,_,rfl,m9.dnA z9,sm4⟩)
            ·rw[if_neg (JO z9)];split
             ·exact Qj (.inr ⟨_,_,_,_,_,_,rfl,m9,by omega,by omega,by omega,by omega,by omega,sm4⟩)
             ·exact Qj ⟨_,_,_,_,_,_,rfl,m9,by omega,by omega,by omega,by omega,by omega,sm4⟩
        ·rw[if_neg zk];have zt:t=i:=by omega
         subst zt;refine Qi (Q6 (by omega) ?_);have m5:=MH.puB m (by omega) (by omega) λk k1 k2=>lowA k k1
         by_cases z5:j - 1=1
         ·rw[if_pos (beq_iff_eq.mpr z5)];exact Qj (.inl ⟨_,_,rfl,m5.fb z5 p1,sm4⟩)
         ·rw[if_neg (JO z5)];refine Qi (Q6 (by omega) ?_);refine Qi (ZB hA (sm4.kind.trans hk) (ma _ (QeN (by omega))) mb (by omega) (by omega) (λx y x1 xy y1=>sb x y (Qv _) xy (by omega)) λt2 t2n b1 b2=>?_);have b1:∀n,n<t2->c (kx b n) (kx a (t - 1))=true:=λn hn=>by have:=b1 n hn;rwa [ZR] at this
          have b2:∀n,t2<=n->n<j - 1->c (kx b n) (kx a (t - 1))=false:=λn h1 h2=>by have:=b2 n h1 h2;rwa [ZR] at this
          dsimp only
          by_cases zk2:j - 1 - t2 > 0
          ·rw[if_pos zk2];have m6:=MH.chB (t:=t2) m5 t2n λn n1 n2 _ k k1 k2=>hA.ord.tr (sa k (t - 1) (Qv _) (by omega) (by omega)) (b2 n n1 n2)
           by_cases z6:t2=1
           ·rw[if_pos (beq_iff_eq.mpr z6)];exact Qj (.inl ⟨_,_,rfl,m6.fb z6 p1,sm4⟩)
           ·rw[if_neg (JO z6)];by_cases z7:t2=0
            ·rw[if_pos (beq_iff_eq.mpr z7)];exact Qj (.inl ⟨_,_,rfl,m6.dnB z7,sm4⟩)
            ·rw[if_neg (JO z7)];refine Qi (Q6 (by omega) ?_);have m9:=MH.puA m6 (by omega) (by omega) λk k1 k2=>hA.ord.lt_le (b1 k k1)
             by_cases z9:t - 1=0
             ·rw[if_pos (beq_iff_eq.mpr z9)];exact Qj (.inl ⟨_,_,rfl,m9.dnA z9,sm4⟩)
             ·rw[if_neg (JO z9)];split
              ·exact Qj (.inr ⟨_,_,_,_,_,_,rfl,m9,by omega,by omega,by omega,by omega,by omega,sm4⟩)
              ·exact Qj ⟨_,_,_,_,_,_,rfl,m9,by omega,by omega,by omega,by omega,by omega,sm4⟩
          ·rw[if_neg zk2];have zt:t2=j - 1:=by omega
           refine Qi (Q6 (by omega) ?_);have m9:=MH.puA m5 (by omega) (by omega) λk k1 k2=>hA.ord.lt_le (b1 k (by omega))
           by_cases z9:t - 1=0
           ·rw[if_pos (beq_iff_eq.mpr z9)];exact Qj (.inl ⟨_,_,rfl,m9.dnA z9,sm4⟩)
           ·rw[if_neg (JO z9)];split
            ·exact Qj (.inr ⟨_,_,_,_,_,_,rfl,m9,by omega,by omega,by omega,by omega,by omega,sm4⟩)
            ·exact Qj ⟨_,_,_,_,_,_,rfl,m9,by omega,by omega,by omega,by omega,by omega,sm4⟩
end
theorem Qiy(i:Nat):mergeAt' i=(do
 let z <- get
 let (some (u,n,pw),some (v,m,_)):=((pendingOf z)[i]?,(pendingOf z)[i+1]?) | unsupported "internal:list.sort.pending"
 set (setPending z (((pendingOf z).setIfInBounds i (u,n+m,pw)).eraseIdxIfInBounds (i+1)))
 let some k <- Qb2 false (<- elem' (arrOf z) v) (arrOf z) u n 0 | return false
 let (u,n):=(u+k,n - k)
 if n == 0 then return true
 let some m <- Qb2 true (<- elem' (arrOf z) (u+n - 1)) (arrOf z) v m (m - 1) | return false
 if m == 0 then return true
 let x:=(arrOf z).extract u v
 let y:=(arrOf z).extract v (v+m)
 let mm <- if n<=m then Qgm x y else Qgn x y
 modify λz=>setArr z (mm.toList.zipIdx.foldl (λa (p,j)=>a.setIfInBounds (u+j) p) (arrOf z))
 return (failedOf (<- get)).isNone):=rfl
theorem Qse{σ:Type}{M:Qj2}{A:Q9}{E:Value->Shared->Prop}{s:Shared}{Q:PUnit->σ->Prop}{st st':σ}(h:Q ⟨⟩ st'):wpS M A E s (set st':StateT σ Sem PUnit) Q st:=by
 unfold wpS;rw[StateT.run_set];exact Qg ⟨rfl,h⟩
theorem QjB(u:Nat):∀(z:List Keyed)(m:Nat)(xs:Array Keyed),u+m+z.length<=xs.size->((z.zipIdx m).foldl (λa (p:Keyed×Nat)=>a.setIfInBounds (u+p.2) p.1) xs).toList=xs.toList.take (u+m)++z++xs.toList.drop (u+m+z.length)
 |[],m,xs,_=>by
  show xs.toList=_;rw[Ji,Qak,Qfh,Jw]
 |p::z,m,xs,h=>by
  rw[QC] at h;rw[Qfi,QgP];have ih:=QjB u z (m+1) (xs.setIfInBounds (u+m) p) (by rw[Array.size_setIfInBounds];omega);rw[ih,QgS,List.set_eq_take_append_cons_drop,if_pos (by rw[Qq];omega)];have lt:(xs.toList.take (u+m)).length=u+m:=by rw[Jo,Qq];omega
  have e1:(xs.toList.take (u+m)++p::xs.toList.drop (u+m+1)).take (u+(m+1))=xs.toList.take (u+m)++[p]:=by
   rw[List.take_append,lt,Yz (by omega),show u+(m+1) - (u+m)=1 by omega];rfl
  have e2:(xs.toList.take (u+m)++p::xs.toList.drop (u+m+1)).drop (u+(m+1)+z.length)=xs.toList.drop (u+m+(p::z).length):=by
   rw[List.drop_append,lt,ZY (by omega),QcI,show u+(m+1)+z.length - (u+m)=z.length+1 by omega,List.drop_succ_cons,QhT,QC]
   congr 1
   omega
  rw[e1,e2,Q3,Q3,Q3];rfl
theorem Qhu{xs ys:Array Keyed}{i j:Nat}(h:xs.toList[i]? = ys.toList[j]?):kx xs i=kx ys j:=by
 rw[ZF,ZF] at h;exact QiE h
theorem QrL{xs:Array Keyed}{u v t:Nat}(h:u+t<v)(hv:v<=xs.size):kx (xs.extract u v) t=kx xs (u+t):=by
 refine QiE ?_
 rw[Array.getElem?_extract,if_pos (by omega)]
section
variable{c:Keyed->Keyed->Bool}
structure Laid (c:Keyed->Keyed->Bool) (xs ws z:Array Keyed) (lo hi:Nat):Prop where
 size:ws.size=xs.size
 perm:ws.Perm xs
 out:∀n,n<lo∨hi<=n->kx ws n=kx xs n
 mid:∀n,lo<=n->n<hi->kx ws n=kx z (n - lo)
 zs:z.size=hi - lo
 of_:∀n,lo<=n->n<hi->∃m,lo<=m/\m<hi/\kx ws n=kx xs m
theorem QtB{xs z:Array Keyed}{lo v hi:Nat}(h1:lo<=v)(h2:v<=hi)(h3:hi<=xs.size)(o:Out c (xs.extract lo v) (xs.extract v hi) z):Laid c xs (z.toList.zipIdx.foldl (λa (p:Keyed×Nat)=>a.setIfInBounds (lo+p.2) p.1) xs) z lo hi:=by
 have ln:z.toList.length=hi - lo:=by
  rw[o.2.length_eq,Qd,Qq,Qq,QbA,QbA];omega
 have zs:z.size=hi - lo:=by rw[<- ln,Qq]
 have lb:=QjB lo z.toList 0 xs (by omega);rw[Qfh,ln,show lo+(hi - lo)=hi by omega] at lb;generalize hw:z.toList.zipIdx.foldl (λa (p:Keyed×Nat)=>a.setIfInBounds (lo+p.2) p.1) xs=ws;rw[show z.toList.zipIdx 0=z.toList.zipIdx from rfl,hw] at lb;have lt:(xs.toList.take lo).length=lo:=by rw[Jo,Qq];omega
 have mid0:xs.toList=xs.toList.take lo++((xs.extract lo v).toList++(xs.extract v hi).toList)++xs.toList.drop hi:=by
  rw[QaT,QaT];have e1:xs.toList.take hi=xs.toList.take v++(xs.toList.take hi).drop v:=by
   have:=(Jw v (xs.toList.take hi)).symm
   rwa [Qdf,YO h2] at this
  have e2:xs.toList.take v=xs.toList.take lo++(xs.toList.take v).drop lo:=by
   have:=(Jw lo (xs.toList.take v)).symm
   rwa [Qdf,YO h1] at this
  rw[<- Q3,<- e2,<- e1,Jw]
 have szl:ws.toList.length=xs.toList.length:=by
  rw[lb,Qd,Qd,lt,ln,Zn,Qq];omega
 have md:∀n,lo<=n->n<hi->kx ws n=kx z (n - lo):=λn n1 n2=>by
  refine Qhu ?_
  rw[lb,Zz (by rw[Qd,lt,ln];omega),JR (by rw[lt];exact n1),lt]
 refine⟨by rw[<- Qq,szl,Qq],?_,λn hn=>?_,md,zs,λn n1 n2=>?_⟩
 ·refine YW.mpr ?_
  rw[lb]
  conv=>rhs;rw[mid0]
  exact Qah _ (Qap _ o.2)
 ·refine Qhu ?_
  rw[lb];rcases hn with hn | hn
  ·rw[Q3,Zz (by rw[lt];exact hn),Qd6,if_pos hn]
  ·rw[JR (by rw[Qd,lt,ln];omega),Qd,lt,ln,QbC]
   congr 1
   omega
 ·have hz:n - lo<z.size:=by omega
  have hm:=o.2.mem_iff.mp (QeN hz);rw[md n n1 n2];rcases JB.mp hm with q | q
  ·rw[QaT] at q;obtain⟨m,m1,m2,_,e⟩:=Y3 q;exact⟨m,m1,by omega,e⟩
  ·rw[QaT] at q;obtain⟨m,m1,m2,_,e⟩:=Y3 q;exact⟨m,by omega,m2,e⟩
end
section
variable{prog:QB}{w:Jl}{A:Q9}{E:Value->Shared->Prop}{s:Shared}{a₀:Array Keyed}{κ:YB}{c:Keyed->Keyed->Bool}
structure Mg (κ:YB) (a₀:Array Keyed) (c:Keyed->Keyed->Bool) (st st':J3) (i u v hi pn pw:Nat):Prop where
 sb:SB κ a₀ st'
 pend:pendingOf st'=((pendingOf st).setIfInBounds i (u,pn,pw)).eraseIdxIfInBounds (i+1)
 out:∀n,n<u∨hi<=n->kx (arrOf st') n=kx (arrOf st) n
 sg:Sg c (arrOf st') u hi
theorem Qh7{st:J3}{i u n pw m pw2:Nat}{Q:Bool->J3->Prop}(hA:Asks prog w A s κ a₀ c)(hB:SB κ a₀ st)(e1:(pendingOf st)[i]? = some (u,n,pw))(e2:(pendingOf st)[i+1]? = some (u+n,m,pw2))(n1:1<=n)(m1:1<=m)(hz:u+n+m<=a₀.size)
  (s1:Sg c (arrOf st) u (u+n))(s2:Sg c (arrOf st) (u+n) (u+n+m))(h:∀st',Mg κ a₀ c st st' i u (u+n) (u+n+m) (n+m) pw->Q true st'):wpS (model prog w) A E s (mergeAt' i) Q st:=by
 have sz:=hB.size;have mem:∀p∈(arrOf st).toList,p∈a₀.toList:=λp hp=>hB.mem hp
 have memE:∀{x y:Nat}{p:Keyed},p∈((arrOf st).extract x y).toList->p∈a₀.toList:=λ{x y p} hp=>mem p (by rw[QaT] at hp;exact Qdd (Qk4 hp))
 rw[Qiy];refine Qi (Qcn ?_);rw[e1,e2]
 dsimp only
 refine Qi (Qse ?_);refine Qi (Q6 (by omega) ?_);refine Qi (ZB hA hB.kind (mem _ (QeN (by omega))) mem (by omega) (by omega) s1 λk kn b1 b2=>?_);have b1:∀t,t<k->le c (kx (arrOf st) (u+t)) (kx (arrOf st) (u+n)):=λt ht=>by
  have:(!c (kx (arrOf st) (u+n)) (kx (arrOf st) (u+t)))=true:=b1 t ht
  simpa using this
 have b2:∀t,k<=t->t<n->c (kx (arrOf st) (u+n)) (kx (arrOf st) (u+t))=true:=λt h1 h2=>by
  have:(!c (kx (arrOf st) (u+n)) (kx (arrOf st) (u+t)))=false:=b2 t h1 h2
  simpa using this
 dsimp only
 by_cases z1:n - k=0
 ·rw[if_pos (beq_iff_eq.mpr z1)];refine Qj (h _ ⟨⟨hB.perm,hB.kind,hB.failed⟩,rfl,λ_ _=>rfl,λx y x1 xy y1=>?_⟩);show le c (kx (arrOf st) x) (kx (arrOf st) y);by_cases zx:x<u+n
  ·by_cases zy:y<u+n
   ·exact s1 x y x1 xy zy
   ·have:=b1 (x - u) (by omega);rw[show u+(x - u)=x by omega] at this;exact hA.ord.tr this (s2 (u+n) y (Qk _) (by omega) y1)
  ·exact s2 x y (by omega) xy y1
 ·rw[if_neg (JO z1)];have hl:u+k+(n - k) - 1=u+n - 1:=by omega
  rw[hl];refine Qi (Q6 (by omega) ?_);refine Qi (ZB hA hB.kind (mem _ (QeN (by omega))) mem (by omega) (by omega) s2 λm2 mn d1 d2=>?_);have d1:∀t,t<m2->c (kx (arrOf st) (u+n+t)) (kx (arrOf st) (u+n - 1))=true:=λt ht=>d1 t ht
  have d2:∀t,m2<=t->t<m->le c (kx (arrOf st) (u+n - 1)) (kx (arrOf st) (u+n+t)):=λt h1 h2=>d2 t h1 h2
  dsimp only
  by_cases z2:m2=0
  ·rw[if_pos (beq_iff_eq.mpr z2)];refine Qj (h _ ⟨⟨hB.perm,hB.kind,hB.failed⟩,rfl,λ_ _=>rfl,λx y x1 xy y1=>?_⟩);show le c (kx (arrOf st) x) (kx (arrOf st) y);by_cases zx:x<u+n
   ·by_cases zy:y<u+n
    ·exact s1 x y x1 xy zy
    ·have:=d2 (y - (u+n)) (by omega) (by omega);rw[show u+n+(y - (u+n))=y by omega] at this;exact hA.ord.tr (s1 x (u+n - 1) x1 (by omega) (by omega)) this
   ·exact s2 x y (by omega) xy y1
  ·rw[if_neg (JO z2)];have ex:∀t,t<n - k->kx ((arrOf st).extract (u+k) (u+n)) t=kx (arrOf st) (u+k+t):=λt ht=>QrL (by omega) (by omega)
   have ey:∀t,t<m2->kx ((arrOf st).extract (u+n) (u+n+m2)) t=kx (arrOf st) (u+n+t):=λt ht=>QrL (by omega) (by omega)
   have sx:((arrOf st).extract (u+k) (u+n)).size=n - k:=by rw[QbA];omega
   have sy:((arrOf st).extract (u+n) (u+n+m2)).size=m2:=by rw[QbA];omega
   have fin:∀(z:Array Keyed)(st':J3),Sm (setPending st (((pendingOf st).setIfInBounds i (u,n+m,pw)).eraseIdxIfInBounds (i+1))) st'->Out c ((arrOf st).extract (u+k) (u+n)) ((arrOf st).extract (u+n) (u+n+m2)) z ->
     wpS (model prog w) A E s (do
      modify λx=>setArr x (z.toList.zipIdx.foldl (λa (p,j)=>a.setIfInBounds (u+k+j) p) (arrOf x))
      return (failedOf (<- get)).isNone) Q st':=λz st' sm o=>by
    refine Qi (Qau (Qi (Qcn ?_)));have fe:failedOf st'=none:=sm.failed.trans hB.failed;have ae:arrOf st'=arrOf st:=sm.arr;have L:=QtB (c:=c) (xs:=arrOf st) (z:=z) (lo:=u+k) (v:=u+n) (hi:=u+n+m2) (by omega) (by omega) (by omega) o;refine Qj ?_
    show Q ((failedOf st').isNone) _;rw[fe,ae];refine h _ ⟨⟨L.perm.trans hB.perm,sm.kind.trans hB.kind,fe⟩,sm.pend,λx hx=>L.out x (by omega),λx y x1 xy y1=>?_⟩;generalize z.toList.zipIdx.foldl (λa (p:Keyed×Nat)=>a.setIfInBounds (u+k+p.2) p.1) (arrOf st)=ws at L;show le c (kx ws x) (kx ws y);have a0:∀x,u<=x->x<u+k->le c (kx (arrOf st) x) (kx (arrOf st) (u+n)):=λx g1 g2=>by have:=b1 (x - u) (by omega);rwa [show u+(x - u)=x by omega] at this
    have b9:∀y,u+n+m2<=y->y<u+n+m->le c (kx (arrOf st) (u+n - 1)) (kx (arrOf st) y):=λy g1 g2=>by have:=d2 (y - (u+n)) (by omega) (by omega);rwa [show u+n+(y - (u+n))=y by omega] at this
    by_cases zx:x<u+k
    ·rw[L.out x (.inl zx)];by_cases zy:y<u+k
     ·rw[L.out y (.inl zy)];exact s1 x y x1 xy (by omega)
     ·by_cases zy2:y<u+n+m2
      ·obtain⟨q,q1,q2,qe⟩:=L.of_ y (by omega) zy2;rw[qe];by_cases zq:q<u+n
       ·exact s1 x q x1 (by omega) zq
       ·exact hA.ord.tr (a0 x x1 zx) (s2 (u+n) q (Qk _) (by omega) (by omega))
      ·rw[L.out y (.inr (by omega))];exact hA.ord.tr (a0 x x1 zx) (s2 (u+n) y (Qk _) (by omega) y1)
    ·by_cases zx2:x<u+n+m2
     ·by_cases zy2:y<u+n+m2
      ·rw[L.mid x (by omega) zx2,L.mid y (by omega) zy2];by_cases xe:x=y
       ·subst xe;exact hA.ord.irr _
       ·have g:=Z7.mp o.1 (x - (u+k)) (y - (u+k)) (by rw[Qq,L.zs];omega) (by rw[Qq,L.zs];omega) (by omega);have k1:=QaR (xs:=z) (i:=x - (u+k)) (by rw[L.zs];omega);have k2:=QaR (xs:=z) (i:=y - (u+k)) (by rw[L.zs];omega);rw[Ql (by rw[Qq,L.zs];omega)] at k1 k2;rw[Qy k1,Qy k2] at g;exact g
      ·rw[L.out y (.inr (by omega))];obtain⟨q,q1,q2,qe⟩:=L.of_ x (by omega) zx2;rw[qe];by_cases zq:q<u+n
       ·exact hA.ord.tr (s1 q (u+n - 1) (by omega) (by omega) (by omega)) (b9 y (by omega) y1)
       ·exact s2 q y (by omega) (by omega) y1
     ·rw[L.out x (.inr (by omega)),L.out y (.inr (by omega))];exact s2 x y (by omega) xy y1
   have hsx:Sg c ((arrOf st).extract (u+k) (u+n)) 0 ((arrOf st).extract (u+k) (u+n)).size:=λx y _ xy y1=>by
    rw[sx] at y1;rw[ex x (by omega),ex y y1];exact s1 _ _ (by omega) (by omega) (by omega)
   have hsy:Sg c ((arrOf st).extract (u+n) (u+n+m2)) 0 ((arrOf st).extract (u+n) (u+n+m2)).size:=λx y _ xy y1=>by
    rw[sy] at y1;rw[ey x (by omega),ey y y1];exact s2 _ _ (by omega) (by omega) (by omega)
   have hp1:∀t,t<((arrOf st).extract (u+k) (u+n)).size->le c (kx ((arrOf st).extract (u+n) (u+n+m2)) 0) (kx ((arrOf st).extract (u+k) (u+n)) t):=λt ht=>by
    rw[sx] at ht;rw[ey 0 (by omega),ex t ht,Qfh];have:=b2 (k+t) (by omega) (by omega);rw[show u+(k+t)=u+k+t by omega] at this;exact hA.ord.lt_le this
   have hp2:∀t,t<((arrOf st).extract (u+n) (u+n+m2)).size->le c (kx ((arrOf st).extract (u+n) (u+n+m2)) t) (kx ((arrOf st).extract (u+k) (u+n)) (((arrOf st).extract (u+k) (u+n)).size - 1)):=λt ht=>by
    rw[sy] at ht;rw[sx,ey t ht,ex (n - k - 1) (by omega),show u+k+(n - k - 1)=u+n - 1 by omega];exact hA.ord.lt_le (d1 t ht)
   split
   ·exact Qi (Qh5 hA hB.kind (λp hp=>memE hp) (λp hp=>memE hp) (by rw[sx];omega) (by rw[sy];omega) hsx hsy hp1 hp2 λz st' sm o=>fin z st' sm o)
   ·exact Qi (Qh6 hA hB.kind (λp hp=>memE hp) (λp hp=>memE hp) (by rw[sx];omega) (by rw[sy];omega) hsx hsy hp1 hp2 λz st' sm o=>fin z st' sm o)
end
def RunsOk:List (Nat×Nat)->Nat->Nat->Prop
 |[],s,e=>s=e
 |(s',n)::r,s,e=>s'=s/\1<=n/\RunsOk r (s+n) e
theorem RunsOk.app:∀{l1 l2:List (Nat×Nat)}{s e:Nat},RunsOk (l1++l2) s e↔∃m,RunsOk l1 s m/\RunsOk l2 m e
 |[],l2,s,e=>⟨λh=>⟨s,rfl,h⟩,λ⟨m,h1,h2⟩=>by cases(show s=m from h1);exact h2⟩
 |(s',n)::l1,l2,s,e=>by
  constructor
  ·rintro⟨h1,h2,h3⟩;obtain⟨m,a,b⟩:=RunsOk.app.mp h3;exact⟨m,⟨h1,h2,a⟩,b⟩
  ·rintro⟨m,⟨h1,h2,a⟩,b⟩;exact⟨h1,h2,RunsOk.app.mpr ⟨m,a,b⟩⟩
theorem RunsOk.le:∀{l:List (Nat×Nat)}{s e:Nat},RunsOk l s e->s+l.length<=e
 |[],s,e,h=>by cases(show s=e from h);exact Qk _
 |(s',n)::l,s,e,⟨_,h2,h3⟩=>by
  have:=RunsOk.le h3;rw[QC];omega
theorem RunsOk.mem:∀{l:List (Nat×Nat)}{s e:Nat},RunsOk l s e->∀p∈l,s<=p.1/\p.1+p.2<=e
 |(s',n)::l,s,e,⟨h1,h2,h3⟩,p,hp=>by
  have hl:=RunsOk.le h3;rcases QN.mp hp with z | z
  ·subst z;show s<=s'/\s'+n<=e;omega
  ·have:=RunsOk.mem h3 p z;omega
def sn(p:Nat×Nat×Nat):Nat×Nat:=(p.1,p.2.1)
def YZ(st:J3):List (Nat×Nat):=(pendingOf st).toList.map sn
section
variable{prog:QB}{w:Jl}{A:Q9}{E:Value->Shared->Prop}{s:Shared}{a₀:Array Keyed}{κ:YB}{c:Keyed->Keyed->Bool}
structure RI (κ:YB) (a₀:Array Keyed) (c:Keyed->Keyed->Bool) (lo:Nat) (st:J3):Prop where
 sb:SB κ a₀ st
 runs:RunsOk (YZ st) 0 lo
 srt:∀p∈YZ st,Sg c (arrOf st) p.1 (p.1+p.2)
 le:lo<=a₀.size
theorem Sg.same{xs ys:Array Keyed}{u v:Nat}(h:Sg c xs u v)(k:∀n,u<=n->n<v->kx ys n=kx xs n):Sg c ys u v:=λi j hi hij hj=>by
 rw[k i hi (by omega),k j (by omega) hj];exact h i j hi hij hj
theorem QuA{l:List (Nat×Nat×Nat)}{i:Nat}(h:i+1<l.length):∃l1 x y l2,l=l1++x::y::l2/\l1.length=i:=by
 refine⟨l.take i,l[i],l[i+1],l.drop (i+2),?_,by rw[Jo];omega⟩;rw[<- QbP,<- QbP,Jw]
theorem Qdi{st:J3}{lo i hi:Nat}{Q:Bool->J3->Prop}(hA:Asks prog w A s κ a₀ c)(ri:RI κ a₀ c lo st)(hi':i+1<(pendingOf st).size)
  (h:∀st',RI κ a₀ c lo st'->(pendingOf st').size+1=(pendingOf st).size->(∀n,lo<=n->kx (arrOf st') n=kx (arrOf st) n)->Q true st'):wpS (model prog w) A E s (mergeAt' i) Q st:=by
 obtain⟨l1,⟨u,n,pw⟩,⟨v,m,pw2⟩,l2,el,ll⟩:=QuA (l:=(pendingOf st).toList) (i:=i) (by rw[Qq];exact hi');have er:YZ st=l1.map sn++(u,n)::(v,m)::l2.map sn:=by unfold YZ;rw[el,Q1];rfl
 have r0:=ri.runs;rw[er] at r0;obtain⟨q,ra,rb⟩:=RunsOk.app.mp r0;obtain⟨g1,g2,g3,g4,g5⟩:=rb;subst g1;subst g3;have e1:(pendingOf st)[i]? = some (u,n,pw):=by
  rw[<- ZF,el,JR (by omega),ll,Nat.sub_self];rfl
 have e2:(pendingOf st)[i+1]? = some (u+n,m,pw2):=by
  rw[<- ZF,el,JR (by omega),ll,show i+1 - i=1 by omega];rfl
 have le5:=RunsOk.le g5;have le1:=ri.le;refine Qh7 hA ri.sb e1 e2 g2 g4 (by omega) (ri.srt (u,n) (by rw[er];simp)) (ri.srt (u+n,m) (by rw[er];simp)) λst' mg=>?_
 have ep:(pendingOf st').toList=l1++(u,n+m,pw)::l2:=by
  rw[mg.pend,Array.toList_eraseIdxIfInBounds,QgS,el,List.set_append_right _ _ (by omega),ll,Nat.sub_self,Qn8,List.eraseIdx_append_of_length_le (by omega),ll,show i+1 - i=1 by omega];rfl
 have er':YZ st'=l1.map sn++(u,n+m)::l2.map sn:=by unfold YZ;rw[ep,Q1];rfl
 refine h st' ⟨mg.sb,?_,λp hp=>?_,ri.le⟩ ?_ λk hk=>mg.out k (.inr (by omega))
 ·rw[er'];exact RunsOk.app.mpr ⟨u,ra,rfl,by omega,by rw[show u+(n+m)=u+n+m by omega];exact g5⟩
 ·rw[er'] at hp;rcases JB.mp hp with z | z
  ·have b:=RunsOk.mem ra p z;exact(ri.srt p (by rw[er];exact Qa1 _ z)).same λk k1 k2=>mg.out k (.inl (by omega))
  ·rcases QN.mp z with z | z
   ·subst z;show Sg c (arrOf st') u (u+(n+m));rw[show u+(n+m)=u+n+m by omega];exact mg.sg
   ·have b:=RunsOk.mem g5 p z;exact(ri.srt p (by rw[er];exact Jb _ (Jq _ (Jq _ z)))).same λk k1 k2=>mg.out k (.inr (by omega))
 ·rw[<- Qq,<- Qq,ep,el,Qd,Qd,QC,QC,QC];omega
theorem RI.pow{st:J3}{lo:Nat}(r:RI κ a₀ c lo st)(i pw:Nat):RI κ a₀ c lo (setPending st ((pendingOf st).modify i λx=>(x.1,x.2.1,pw))):=by
 have er:YZ (setPending st ((pendingOf st).modify i λx=>(x.1,x.2.1,pw)))=YZ st:=by
  show((pendingOf st).modify i λx=>(x.1,x.2.1,pw)).toList.map sn=(pendingOf st).toList.map sn;rw[Array.toList_modify];apply Qe2
  intro j;rw[Q5,Q5,List.getElem?_modify];cases(pendingOf st).toList[j]? with
  |none=>rfl
  |some p=>
   show some (sn (if i=j then _ else p))=some (sn p);split<;>rfl
 exact⟨⟨r.sb.perm,r.sb.kind,r.sb.failed⟩,by rw[er];exact r.runs,by rw[er];exact r.srt,r.le⟩
theorem Qh4{st:J3}{Q:Unit->J3->Prop}(hA:Asks prog w A s κ a₀ c)(hB:SB κ a₀ st)(hp:pendingOf st=#[])
  (h:∀st',SB κ a₀ st'->Sg c (arrOf st') 0 a₀.size->Q () st'):wpS (model prog w) A E s sortRuns' Q st:=by
 rw[sortRuns'_eq];refine Qi (Qcn ?_)
 dsimp only
 rw[hB.size];have ri0:RI κ a₀ c 0 st:=⟨hB,by unfold YZ;rw[hp];rfl,λp h=>by unfold YZ at h;rw[hp] at h;simp at h,Qv _⟩;refine Qi (YA (JZ (I:=λx z st'=>∃lo,z=(none,lo)/\RI κ a₀ c lo st'/\(x<=lo∨lo=a₀.size)) (Q:=λz st'=>z=(none,a₀.size)/\RI κ a₀ c a₀.size st') ?step ?fin ⟨0,rfl,ri0,.inl (Qk _)⟩) ?post)
 case fin=>
  rintro z st' ⟨lo,rfl,ri,hx⟩;have:=ri.le;have e:lo=a₀.size:=by omega
  subst e;exact⟨rfl,ri⟩
 case step=>
  rintro x z st' _ hx ⟨lo,rfl,ri,hxl⟩
  dsimp only
  have hle:=ri.le;by_cases z0:lo≥a₀.size
  ·rw[if_pos z0];have e:lo=a₀.size:=by omega
   subst e;exact Qj ⟨rfl,ri⟩
  ·rw[if_neg z0];refine Qi (QfZ hA (by omega) (by omega) ri.sb λm st1 f1 m1 m2 sg1=>?_)
   dsimp only
   have ri1:RI κ a₀ c lo st1:=⟨f1.sb,by unfold YZ;rw[f1.pend];exact ri.runs,λp hp=>by
    unfold YZ at hp;rw[f1.pend] at hp;have b:=RunsOk.mem ri.runs p hp;exact(ri.srt p hp).same λk k1 k2=>f1.low k (by omega),hle⟩
   have push:∀(n:Nat)(st2:J3),RI κ a₀ c lo st2->1<=n->lo+n<=a₀.size->Sg c (arrOf st2) lo (lo+n)->RI κ a₀ c (lo+n) (setPending st2 ((pendingOf st2).push (lo,n,0))):=λn st2 r2 n1 n2 sg=>by
    have er:YZ (setPending st2 ((pendingOf st2).push (lo,n,0)))=YZ st2++[(lo,n)]:=by
     show((pendingOf st2).push (lo,n,0)).toList.map sn=_;rw[Qep,Q1];rfl
    refine⟨⟨r2.sb.perm,r2.sb.kind,r2.sb.failed⟩,by rw[er];exact RunsOk.app.mpr ⟨lo,r2.runs,rfl,n1,rfl⟩,λp hp=>?_,n2⟩;rw[er] at hp;rcases JB.mp hp with z | z
    ·exact r2.srt p z
    ·rw[Jz.mp z];exact sg
   by_cases zm:m<minRun' a₀.size a₀.size 0
   ·rw[if_pos zm];refine Qi (Qd2 (wpAny_rule ⟨rfl,?_⟩));refine Qi (Qes hA (by omega) m1 (by omega) f1.sb sg1 λst2 f2 sg2=>?_);simp only[Bool.not_true,Qal,if_false];have ri2:RI κ a₀ c lo st2:=⟨f2.sb,by unfold YZ;rw[f2.pend];exact ri1.runs,λp hp=>by
     unfold YZ at hp;rw[f2.pend] at hp;have b:=RunsOk.mem ri1.runs p hp;exact(ri1.srt p hp).same λk k1 k2=>f2.low k (by omega),hle⟩
    refine Qi (Qcn ?_);cases hb:(pendingOf st2).back? with
    |none=>
     dsimp only
     exact Qi (Qau (Qj ⟨_,rfl,push _ st2 ri2 (by omega) (by omega) sg2,by omega⟩))
    |some bb=>
     obtain⟨s1,s2,s3⟩:=bb
     dsimp only
     refine Qi (YA (JZ (I:=λ_ z st3=>z=(none,())/\RI κ a₀ c lo st3/\Sg c (arrOf st3) lo (lo+min (a₀.size - lo) (minRun' a₀.size a₀.size 0))) (Q:=λz st3=>z=(none,())/\RI κ a₀ c lo st3/\Sg c (arrOf st3) lo (lo+min (a₀.size - lo) (minRun' a₀.size a₀.size 0))) ?stepA (λ_ _ q=>q) ⟨rfl,ri2,sg2⟩) ?postA)
     case stepA=>
      rintro y z st3 _ hy ⟨rfl,r3,g3⟩;refine Qi (Qcn ?_);by_cases z5:(pendingOf st3).size > 1
      ·rw[if_pos z5,getElem?_pos (pendingOf st3) ((pendingOf st3).size - 2) (by omega)];generalize (pendingOf st3)[(pendingOf st3).size - 2]'(by omega)=pp;obtain⟨q1,q2,q3⟩:=pp
       dsimp only
       split
       ·exact Qj ⟨rfl,r3,g3⟩
       ·refine Qi (Qdi (hi:=0) hA r3 (by omega) λst4 r4 sz k4=>?_);exact Qj ⟨rfl,r4,g3.same λk k1 _=>k4 k k1⟩
      ·rw[if_neg z5];exact Qj ⟨rfl,r3,g3⟩
     case postA=>
      rintro z st3 ⟨rfl,r3,g3⟩
      dsimp only
      refine Qi (Qau (Qi (Qau (Qj ⟨_,rfl,push _ _ (r3.pow _ _) (by omega) (by omega) g3,by omega⟩))))
   ·rw[if_neg zm];refine Qi (Qcn ?_);cases hb:(pendingOf st1).back? with
    |none=>
     dsimp only
     exact Qi (Qau (Qj ⟨_,rfl,push _ st1 ri1 m1 (by omega) sg1,by omega⟩))
    |some bb=>
     obtain⟨s1,s2,s3⟩:=bb
     dsimp only
     refine Qi (YA (JZ (I:=λ_ z st3=>z=(none,())/\RI κ a₀ c lo st3/\Sg c (arrOf st3) lo (lo+m)) (Q:=λz st3=>z=(none,())/\RI κ a₀ c lo st3/\Sg c (arrOf st3) lo (lo+m)) ?stepA (λ_ _ q=>q) ⟨rfl,ri1,sg1⟩) ?postA)
     case stepA=>
      rintro y z st3 _ hy ⟨rfl,r3,g3⟩;refine Qi (Qcn ?_);by_cases z5:(pendingOf st3).size > 1
      ·rw[if_pos z5,getElem?_pos (pendingOf st3) ((pendingOf st3).size - 2) (by omega)];generalize (pendingOf st3)[(pendingOf st3).size - 2]'(by omega)=pp;obtain⟨q1,q2,q3⟩:=pp
       dsimp only
       split
       ·exact Qj ⟨rfl,r3,g3⟩
       ·refine Qi (Qdi (hi:=0) hA r3 (by omega) λst4 r4 sz k4=>?_);exact Qj ⟨rfl,r4,g3.same λk k1 _=>k4 k k1⟩
      ·rw[if_neg z5];exact Qj ⟨rfl,r3,g3⟩
     case postA=>
      rintro z st3 ⟨rfl,r3,g3⟩
      dsimp only
      refine Qi (Qau (Qi (Qau (Qj ⟨_,rfl,push _ _ (r3.pow _ _) m1 (by omega) g3,by omega⟩))))
 case post=>
  rintro z st' ⟨rfl,ri⟩
  dsimp only
  refine Qi (YA (JZ (I:=λx z st3=>z=(none,())/\RI κ a₀ c a₀.size st3/\((pendingOf st3).size+x<=a₀.size∨(pendingOf st3).size<=1)) (Q:=λz st3=>z=(none,())/\RI κ a₀ c a₀.size st3/\(pendingOf st3).size<=1) ?stepB ?finB ⟨rfl,ri,.inl ?initB⟩) ?postB)
  case initB=>
   have:=RunsOk.le ri.runs;unfold YZ at this;rw[Qe,Qq] at this;omega
  case finB=>
   rintro z st3 ⟨rfl,r3,hx⟩;exact⟨rfl,r3,by omega⟩
  case stepB=>
   rintro x z st3 _ hx ⟨rfl,r3,hs⟩;refine Qi (Qcn ?_);by_cases z5:(pendingOf st3).size<=1
   ·rw[if_pos z5];exact Qj ⟨rfl,r3,z5⟩
   ·rw[if_neg z5];have key:∀i,i+1<(pendingOf st3).size->wpS (model prog w) A E s (mergeAt' i) (λb st4=>b=true/\RI κ a₀ c a₀.size st4/\(pendingOf st4).size+1=(pendingOf st3).size) st3:=λi hi=>Qdi (hi:=0) hA r3 hi λst4 r4 sz _=>⟨rfl,r4,sz⟩
    refine Qi (YA (key _ ?_) ?_)
    ·have ii:∀{p:Prop}[Decidable p],(if p then(pendingOf st3).size - 2 - 1 else(pendingOf st3).size - 2)+1<(pendingOf st3).size:=by intro p _;split<;>omega
     exact ii
    ·rintro bb st4 ⟨rfl,r4,sz⟩;exact Qj ⟨rfl,r4,by omega⟩
  case postB=>
   rintro z st3 ⟨rfl,r3,hs⟩;refine Qj (h st3 r3.sb ?_);have rr:=r3.runs;have hl:(YZ st3).length<=1:=by unfold YZ;rw[Qe,Qq];exact hs
   have hsr:=r3.srt;cases er:YZ st3 with
   |nil=>
    rw[er] at rr;rw[<- (show 0=a₀.size from rr)];exact λi j hi hij hj=>by omega
   |cons p l=>
    rw[er] at rr hl hsr;cases l with
    |cons p' l'=>simp at hl
    |nil=>
     obtain⟨g1,g2,g3⟩:=rr;have:=hsr p (Jz.mpr rfl);rw[g1,(show 0+p.2=a₀.size from g3)] at this;exact this
end
end Rt
namespace L2
def blk(X:Cx)(M:List Str)(scope:Yp)(cl:List (Str×Addr))(ex:List Addr)(s3:Shared)(H3:Hp)(C:Addr):Cx where
 prog:=X.prog
 w:=X.w
 K:=X.K
 mg:=X.mg
 base:=X.base
 A:=X.A
 N:=M
 s₀:=s3
 H₀:=H3
 env:=compEnvC scope cl C X.env
 outer:=X.stack
 stack:=X.stack
 ex:=ex
 fn:=λ_=>false
 calm:=X.calm
 pn:=[]
 xe:=λ_ _=>False
def Qbq(env:Env):List (Str×Qa6)->List (Str×Addr)->List (Str×Addr)
 |[],acc=>acc
 |(n,k)::r,acc=>Qbq env r (if k=.free then(n,(env.cells.lookup n).getD 0)::acc else acc)
theorem QiN{env:Env}:∀(l:List (Str×Qa6))(acc:List (Str×Addr)),(∀x∈l,x.2=.free->∃c,env.cells.lookup x.1=some c) ->
  (forIn (m:=Sem) l acc λx cs=>(if(x.2 == Je)=true then do let a <- cellOf env x.1;pure (JY ((x.1,a)::cs)) else pure (JY cs)))=pure (Qbq env l acc)
 |[],acc,_=>rfl
 |(n,k)::r,acc,h=>by
  rw[QgO];by_cases hk:k=.free
  ·subst hk;obtain⟨c,hc⟩:=h (n,.free) Zi rfl;have e1:cellOf env n=pure c:=by unfold cellOf;rw[hc]
   have e2:Qbq env ((n,.free)::r) acc=Qbq env r ((n,c)::acc):=by
    show Qbq env r (if Je=.free then(n,(env.cells.lookup n).getD 0)::acc else acc)=_;rw[if_pos rfl,hc];rfl
   rw[e2];show((if(Je == Je)=true then do let a <- cellOf env n;pure (JY ((n,a)::acc)) else pure (JY acc)) >>= _)=_;rw[if_pos (show(Je == Je)=true by decide),e1];exact QiN r _ λx hx=>h x (Jq _ hx)
  ·have hb:(k == Je)=false:=by simpa using hk
   have e2:Qbq env ((n,k)::r) acc=Qbq env r acc:=by
    show Qbq env r (if k=.free then(n,(env.cells.lookup n).getD 0)::acc else acc)=_;rw[if_neg hk]
   rw[e2];show((if(k == Je)=true then _ else pure (JY acc)) >>= _)=_;rw[hb,if_neg QF];exact QiN r _ λx hx=>h x (Jq _ hx)
theorem QeW{scope:Yp}{env:Env}(h:∀x∈scope.names,x.2=.free->∃c,env.cells.lookup x.1=some c):closureFor scope env=pure (Qbq env scope.names []):=by
 have e:=QiN (env:=env) scope.names [] h;unfold closureFor;show(forIn scope.names [] _ >>= _)=_;have e':(forIn (m:=Sem) scope.names ([]:List (Str×Addr)) λx cs=>match x with | (name,kind)=>(if(kind == Je)=true then do let a <- cellOf env name;pure (JY ((name,a)::cs)) else pure (JY cs)))=pure (Qbq env scope.names []):=e
 first
  |(rw[e'];rfl)
  |(refine Eq.trans (congrArg (λt=>t >>= _) e') ?_;rfl)
theorem QiO{env:Env}:∀(l:List (Str×Qa6))(acc:List (Str×Addr)),(∀x∈l,x.2=.free->∃c,env.cells.lookup x.1=some c)->(∀x c,acc.lookup x=some c->env.cells.lookup x=some c) ->
  (∀x c,(Qbq env l acc).lookup x=some c->env.cells.lookup x=some c)/\(∀x c,acc.lookup x=some c->(Qbq env l acc).lookup x=some c)/\∀x,(x,Je)∈l->∃c,(Qbq env l acc).lookup x=some c
 |[],acc,_,ha=>⟨ha,λ_ _ h=>h,λ_ h=>nomatch h⟩
 |(n,k)::r,acc,h,ha=>by
  have hr:∀x∈r,x.2=.free->∃c,env.cells.lookup x.1=some c:=λx hx=>h x (Jq _ hx)
  by_cases hk:k=.free
  ·subst hk;obtain⟨c,hc⟩:=h (n,.free) Zi rfl;have e2:Qbq env ((n,.free)::r) acc=Qbq env r ((n,c)::acc):=by
    show Qbq env r (if Je=.free then(n,(env.cells.lookup n).getD 0)::acc else acc)=_;rw[if_pos rfl,hc];rfl
   rw[e2];have ha':∀x c',((n,c)::acc).lookup x=some c'->env.cells.lookup x=some c':=λx c' q=>by
    rw[Jn] at q;cases hx:x == n with
    |true=>
     rw[hx] at q;have z:c=c':=Qy q;have y:x=n:=by simpa using hx
     rw[y,<- z];exact hc
    |false=>rw[hx] at q;exact ha x c' q
   obtain⟨i1,i2,i3⟩:=QiO r ((n,c)::acc) hr ha';refine⟨i1,λx c' q=>?_,λx hx=>?_⟩
   ·refine i2 x c' ?_
    rw[Jn];cases hx:x == n with
    |true=>
     have y:x=n:=by simpa using hx
     have:=ha x c' q;rw[y,hc] at this;exact this
    |false=>exact q
   ·rcases QN.mp hx with z | z
    ·cases z;exact⟨c,i2 n c (by rw[Jn,beq_self_eq_true])⟩
    ·exact i3 x z
  ·have e2:Qbq env ((n,k)::r) acc=Qbq env r acc:=by
    show Qbq env r (if k=.free then(n,(env.cells.lookup n).getD 0)::acc else acc)=_;rw[if_neg hk]
   rw[e2];obtain⟨i1,i2,i3⟩:=QiO r acc hr ha;refine⟨i1,i2,λx hx=>?_⟩;rcases QN.mp hx with z | z
   ·cases z;exact absurd rfl hk
   ·exact i3 x z
theorem Qck{l:List (Str×Qa6)}{x:Str}{k:Qa6}(h:l.lookup x=some k):(x,k)∈l:=by
 induction l with
 |nil=>cases h
 |cons p r ih=>
  obtain⟨n,q⟩:=p;rw[Jn] at h;cases hx:x == n with
  |true=>
   rw[hx] at h;have y:x=n:=by simpa using hx
   have z:q=k:=Qy h;subst y z;exact Zi
  |false=>rw[hx] at h;exact Jq _ (ih h)
theorem Qbj{env:Env}:∀{names:List (Str×Qa6)}{x:Str}{k:Qa6},(names.map λ(n,k)=>if(k == Je&&env.scope.kind == .function&&env.kindOf n == some .cell) then(n,YI) else(n,k)).lookup x=some k ->
  names.lookup x=some k∨(k=.cell/\names.lookup x=some .free)
 |[],x,k,h=>by cases h
 |(n,q)::r,x,k,h=>by
  have ih:=@Qbj env r x k;rw[Jh] at h;have h':QgN x ((if(q == Je&&env.scope.kind == .function&&env.kindOf n == some .cell)=true then(n,YI) else(n,q))::_)=some k:=h;cases hx:x == n with
  |true=>
   by_cases hc:(q == Je&&env.scope.kind == .function&&env.kindOf n == some .cell)=true
   ·rw[if_pos hc,Jn,hx] at h';have z:YI=k:=Qy h';have y:q=.free:=by simp at hc;exact hc.1.1
    refine .inr ⟨z.symm,?_⟩;rw[Jn,hx,y]
   ·rw[if_neg hc,Jn,hx] at h';refine .inl ?_
    rw[Jn,hx];exact h'
  |false=>
   have h2:QgN x (r.map λ(n,k)=>if(k == Je&&env.scope.kind == .function&&env.kindOf n == some .cell) then(n,YI) else(n,k))=some k:=by
    by_cases hc:(q == Je&&env.scope.kind == .function&&env.kindOf n == some .cell)=true
    ·rw[if_pos hc,Jn,hx] at h';exact h'
    ·rw[if_neg hc,Jn,hx] at h';exact h'
   rw[Jn,hx];exact ih h2
theorem relabel_free{env:Env}:∀{names:List (Str×Qa6)}{x:Str},names.lookup x=some .free->(names.map λ(n,k)=>if(k == Je&&env.scope.kind == .function&&env.kindOf n == some .cell) then(n,YI) else(n,k)).lookup x=some .cell ∨
   (names.map λ(n,k)=>if(k == Je&&env.scope.kind == .function&&env.kindOf n == some .cell) then(n,YI) else(n,k)).lookup x=some .free
 |[],x,h=>by cases h
 |(n,q)::r,x,h=>by
  have ih:=@relabel_free env r x;rw[Jh];show QgN x ((if(q == Je&&env.scope.kind == .function&&env.kindOf n == some .cell)=true then(n,YI) else(n,q))::_)=some .cell∨QgN x ((if(q == Je&&env.scope.kind == .function&&env.kindOf n == some .cell)=true then(n,YI) else(n,q))::_)=some .free;cases hx:x == n with
  |true=>
   rw[Jn,hx] at h;have z:q=Je:=Qy h;subst z;by_cases hc:(Je == Je&&env.scope.kind == .function&&env.kindOf n == some .cell)=true
   ·rw[if_pos hc,Jn,hx];exact .inl rfl
   ·rw[if_neg hc,Jn,hx];exact .inr rfl
  |false=>
   rw[Jn,hx] at h;by_cases hc:(q == Je&&env.scope.kind == .function&&env.kindOf n == some .cell)=true
   ·rw[if_pos hc,Jn,hx];exact ih h
   ·rw[if_neg hc,Jn,hx];exact ih h
def QcC(N:List Str)(sc:Yp)(M:List Str)(scope:Yp)(cap:List (Option Nat)):Bool:=
 cap.length == M.length&&(M.zip cap).all (λ(x,o)=>match o with
  |none=>scope.names.lookup x == some .local
  |some j=>N[j]? == some x&&(scope.names.lookup x == some .free&&(sc.names.lookup x == some .cell||sc.names.lookup x == some .free))) &&
 (scope.kind == .function&&scope.names.all λy=>y.2 != .cell&&((y.2 != .free||(sc.names.lookup y.1 == some .cell||sc.names.lookup y.1 == some .free))&&(y.2 != .local||scope.names.lookup y.1 == some .local)))
def Qde(cap:List (Option Nat))(σ:St):St:=cap.map λo=>match o with
 |none=>none
 |some j=>(σ[j]?).getD none
structure CapOk (N:List Str) (sc:Yp) (M:List Str) (scope:Yp) (cap:List (Option Nat)):Prop where
 len:cap.length=M.length
 own:∀(i j:Nat)(x:Str),M[i]? = some x->cap[i]? = some (some j)->N[j]? = some x/\scope.names.lookup x=some .free/\(sc.names.lookup x=some .cell∨sc.names.lookup x=some .free)
 kind:scope.kind=.function
 cell:∀y∈scope.names,y.2≠.cell
 free:∀y∈scope.names,y.2=.free->sc.names.lookup y.1=some .cell∨sc.names.lookup y.1=some .free
 loc:∀y∈scope.names,y.2=.local->scope.names.lookup y.1=some .local
theorem CapOk.of{N:List Str}{sc:Yp}{M:List Str}{scope:Yp}{cap:List (Option Nat)}(h:QcC N sc M scope cap=true):CapOk N sc M scope cap:=by
 unfold QcC at h;simp only[JJ,Q4,beq_iff_eq] at h;obtain⟨⟨h1,h2⟩,h3,h4⟩:=h;refine⟨h1,λi j x e1 e2=>?_,h3,λy hy z=>?_,λy hy z=>?_,λy hy z=>?_⟩
 ·have hm:(x,some j)∈M.zip cap:=by
   have:(M.zip cap)[i]? = some (x,some j):=by rw[List.getElem?_zip_eq_some];exact⟨e1,e2⟩
   exact QM this
  have:=h2 _ hm;simp only[JJ,beq_iff_eq,Bool.or_eq_true] at this;exact this
 ·have:=(h4 y hy).1;simp[z] at this
 ·have:=(h4 y hy).2.1
  simpa [z] using this
 ·have:=(h4 y hy).2.2
  simpa [z] using this
section
variable{X:Cx}{pins:List (Addr×Obj)}{σ:St}{H H3:Hp}{s3:Shared}{M:List Str}{scope:Yp}{cap:List (Option Nat)}{fp:List Addr}{h4:Za}{t4:Nat}
theorem Cx.Ok.cells(ok:X.Ok){N:List Str}(c:CapOk N X.env.scope M scope cap):∀y∈scope.names,y.2=.free->∃d,X.env.cells.lookup y.1=some d:=λy hy z=>ok.has y.1 (c.free y hy z)
theorem Qb7(I:Inv X pins σ H3 s3)(c:CapOk X.N X.env.scope M scope cap)(hf:∀b∈fp,FpOk X pins H3 b)(hb:∀b∈fp,b<s3.heap.objs.size)
  (hn:h4.Ns s3.heap.objs.size λ_=>none)(hk:∀b o,s3.heap.get? b=some o->h4.get? b=some o) :
  Inv (blk X M scope (Qbq X.env scope.names []) fp s3 H3 s3.heap.objs.size) [] (Qde cap σ) H3 { s3 with heap:=h4,toks:=t4 }:=by
 obtain⟨c1,c2,c3⟩:=QiO scope.names [] (I.ok.cells c) (λx d q=>by cases q);refine⟨⟨I.ok.mod,c.kind,I.ok.glob,I.ok.blt,Qk _,λx y d e1 e2=>I.ok.inj x y d (c1 x d e1) (c1 y d e2),λx hx=>?_,(λx d z=>nomatch z),I.ok.hd,I.ok.frames,.inl rfl,λb hb'=>?_,I.bs,
  Jc I.ok.bsz I.sz,λb o e z=>?_,λb hb' z=>?_,I.stack,I.stkFree⟩,rfl,I.bare,Un.kept hk,⟨_,hn,λi x v e1 e2 e3=>?_⟩,λx d e=>?_,I.hok.fresh (Qk _),λx d e=>I.freeC x d (c1 x d e),λp hp=>(nomatch hp),I.hok.kept hk,?_⟩
 ·have hx':(relabel scope X.env).names.lookup x=some .cell∨(relabel scope X.env).names.lookup x=some .free:=hx;rcases hx' with q | q
  ·rcases Qbj q with z | ⟨_,z⟩
   ·exact absurd rfl (c.cell _ (Qck z))
   ·exact c3 x (Qck z)
  ·rcases Qbj q with z | ⟨z,_⟩
   ·exact c3 x (Qck z)
   ·cases z
 ·obtain⟨f0,f1,f2,f3,f4,f5⟩:=hf b hb';exact⟨QJ (hb b hb'),λx d e=>f4 x d (c1 x d e)⟩
 ·obtain⟨f0,f1,f2,f3,f4,f5⟩:=hf b z;rcases f3 with q | q
  ·exact I.ok.noex b o e q
  ·exact absurd (QL (Qs e) (Jc I.ok.bsz q)) (Yq _)
 ·obtain⟨f0,f1,f2,f3,f4,f5⟩:=hf b hb';rcases QN.mp (I.stkSub b z) with q | q
  ·exact f1 q
  ·exact f2 q
 ·have e2':(cap.map λo=>match o with | none=>none | some j=>(σ[j]?).getD none)[i]? = some (some v):=e2;rw[Q5] at e2';cases q:cap[i]? with
  |none=>rw[q] at e2';cases e2'
  |some o=>
   rw[q] at e2';cases o with
   |none=>cases e2'
   |some j=>
    have e4:(σ[j]?).getD none=some v:=Qy e2';have e5:σ[j]? = some (some v):=by
     cases r:σ[j]? with
     |none=>rw[r] at e4;cases e4
     |some o=>rw[r] at e4;exact congrArg some e4
    obtain⟨n1,n2,n3⟩:=c.own i j x e1 q;obtain⟨m,hm,hl⟩:=I.loc;obtain⟨u,ru,lk⟩:=hl j x v n1 e5 (n3.elim (λz=>.inr (.inl z)) λz=>.inr (.inr z));refine⟨u,ru,.inr ?_⟩;rcases lk with⟨k1,_⟩ | ⟨_,d,k2,k3⟩
    ·have k1':X.env.scope.names.lookup x=some .local:=k1;rcases n3 with z | z<;>(rw[z] at k1';cases k1')
    ·obtain⟨d',hd'⟩:=c3 x (Qck n2);have ed:d'=d:=by
      have:=c1 x d' hd';rw[k2] at this;exact(Qy this).symm
     subst ed;exact⟨(relabel_free n2:(relabel scope X.env).names.lookup x=some .cell∨(relabel scope X.env).names.lookup x=some .free),d',hd',k3.keeps hk⟩
 ·obtain⟨v,q⟩:=I.cell x d (c1 x d e);exact⟨v,q.keeps hk⟩
 ·show(cap.map _).length=M.length;rw[Qe];exact c.len
theorem QgH{σ':St}{s':Shared}{h':Za}(I:Inv X pins σ H3 s3)(hf:∀b∈fp,FpOk X pins H3 b)(J:Inv (blk X M scope (Qbq X.env scope.names []) fp s3 H3 s3.heap.objs.size) [] σ' H s')(hs:QaI s3.heap.objs.size s'.heap h') :
  Inv X pins σ H { s' with heap:=h' }:=by
 have u:Un (frs X.stack) fp H3 H s3.heap s'.heap:=J.base;have ne:∀b o,s3.heap.get? b=some o->b≠s3.heap.objs.size:=λb o e=>QJ (Qs e)
 have hC:H s3.heap.objs.size=none:=J.free;refine I.call' (ch:=fp) (s':={ s' with heap:=h' }) J.os ⟨λb o e n hb hx=>(hs.2 b (ne b o e)).trans (u.keep b o e n hb hx),λb o e n hb hx=>?_,u.free,λb o e hx=>?_,u.tups,u.frzs,u.tbls⟩ (λb o e=>?_) J.bare λb hb=>?_
 ·obtain⟨sl,q⟩:=u.slot b o e n hb hx;exact⟨sl,(hs.2 b (ne b o e)).trans q⟩
 ·obtain⟨o',q⟩:=u.there b o e hx;exact⟨o',(hs.2 b (ne b o e)).trans q⟩
 ·refine(J.hok b o e).stay (λc v hc q=>(hs.2 c ?_).trans q) (λ_ q=>q) λ_ _ q=>q
  rintro rfl;rcases hc with z | z
  ·rw[<- z,hC] at e;cases e
  ·rw[hC] at z;cases z
 ·obtain⟨f0,f1,f2,f3,f4,f5⟩:=hf b hb;exact⟨f3,f1,f4,f5⟩
end
def Wk:St->St->Prop
 |[],[]=>True
 |none::a,_::b=>Wk a b
 |some v::a,some u::b=>v=u/\Wk a b
 |_,_=>False
theorem Wk.len:∀{a b:St},Wk a b->a.length=b.length
 |[],[],_=>rfl
 |none::a,_::b,h=>congrArg (·+1) (Wk.len (a:=a) (b:=b) h)
 |some v::a,some u::b,h=>congrArg (·+1) (Wk.len (a:=a) (b:=b) h.2)
 |[],_::_,h=>h.elim
 |some _::_,[],h=>h.elim
 |none::_,[],h=>h.elim
 |some _::_,none::_,h=>h.elim
theorem Wk.get:∀{a b:St},Wk a b->∀(i:Nat) v,a[i]? = some (some v)->b[i]? = some (some v)
 |[],[],_,i,v,h=>by simp at h
 |none::a,x::b,h,0,v,e=>by simp at e
 |none::a,x::b,h,i+1,v,e=>by
  simp only[Qi0] at e ⊢;exact Wk.get (a:=a) (b:=b) h i v e
 |some q::a,some u::b,h,0,v,e=>by
  simp only[QiZ] at e ⊢;rw[<- h.1];exact e
 |some q::a,some u::b,h,i+1,v,e=>by
  simp only[Qi0] at e ⊢;exact Wk.get (a:=a) (b:=b) h.2 i v e
 |[],_::_,h,_,_,_=>h.elim
 |some _::_,[],h,_,_,_=>h.elim
 |none::_,[],h,_,_,_=>h.elim
 |some _::_,none::_,h,_,_,_=>h.elim
theorem Inv.wk{X:Cx}{pins:List (Addr×Obj)}{σ σ':St}{H:Hp}{s:Shared}(I:Inv X pins σ H s)(h:Wk σ' σ):Inv X pins σ' H s:=I.weak h.len h.get
def Qg5(J:It)(body:V->Hp->(Hp->Prop)->Prop)(Qn:Hp->Prop)(H:Hp):Prop:=
 ∃W:Nat->Nat->Hp->Prop,(∃m,W 0 m H)/\∀i m H2,W i m H2->(J.stop i H2/\Qn H2)∨(J.go i H2/\∀x H3,J.yld i H2 x H3->body x H3 λH6=>∃m',m'<m/\W (i+1) m' H6)
abbrev Act:=(Shared->Prop)->Shared->Prop
def BodyOk(Y:Cx)(σ:St)(act:Act)(b:Hp->(Hp->Prop)->Prop):Prop:=
 ∀(pins:List (Addr×Obj))(s:Shared)(H:Hp)(k:Hp->Prop)(Q:Shared->Prop),Inv Y pins σ H s->b H k->(∀s' H',Inv Y pins σ H' s'->k H'->Q s')->act Q s
theorem Qb4{Y:Cx}{σ:St}{tg:Q2}{elt:Q2}{gens:List QcP}{scope:Yp}{cpos:Pos}{d:Nat}{it D:Addr}{fp:List Addr}{tn:Nat->Za->Prop}{J:It}{pins:List (Addr×Obj)}{s:Shared}{H:Hp}{body:V->Hp->(Hp->Prop)->Prop}{Qn:Hp->Prop}{R:Qr5->Shared->Prop}{act:Value->Act}
  (hc:Y.calm=true)(T:Turn Y.prog Y.w Y.K tg J fp it tn)(st:tn 0 s.heap)(hf:∀b∈fp,FpOk Y pins H b)
  (hturn:∀(Q:PySem.Fin->Shared->Prop)(E:Value->Shared->Prop)(s:Shared),wpAny (model Y.prog Y.w) Y.A (pyNext (.ref it)) (λr s1=>match r with
   |none=>Q (.done .next) s1
   |some v=>wpAny (model Y.prog Y.w) Y.A (letOwnedTupleGo tg (.ref it) v) (λ_ s2=>act v (λs3=>Q (.again (.compLoop (.ListComp elt gens scope cpos) d (.ref it) (.ref D) Y.env)) s3) s2) E s1) E s ->
   wpAny (model Y.prog Y.w) Y.A (compTurn (.ListComp elt gens scope cpos) d (.ref it) (.ref D) Y.env) Q E s)
  (hact:∀(x:V)(u:Value),RelV x u->BodyOk Y σ (act u) (body x))
  (I:Inv Y pins σ H s)(h:Qg5 J body Qn H)(hR:∀s' H',Inv Y pins σ H' s'->Qn H'->R (.ok .next) s') :
  codeAny (model Y.prog Y.w) Y.A (.compLoop (.ListComp elt gens scope cpos) d (.ref it) (.ref D) Y.env) R s:=by
 obtain⟨W,⟨m0,w0⟩,turn⟩:=h;have stat:∀{H':Hp},(∀b∈fp,H' b=none)->∀b∈fp,FpOk Y pins H' b:=λhn b hb=>⟨hn b hb,(hf b hb).2⟩
 refine codeAny_loop rfl (λn s'=>∃i H',Inv Y pins σ H' s'/\tn i s'.heap/\(∀b∈fp,H' b=none)/\W i n H') (λn s3 hI=>?_) m0 ⟨0,H,I,st,λb hb=>(hf b hb).1,w0⟩;show wpAny _ Y.A ((compTurn (.ListComp elt gens scope cpos) d (.ref it) (.ref D) Y.env).onRaise (λx=>do noteFrame x Y.env;theTreesLotGoes x)) _ _ s3;refine wpAny_noted (hturn _ _ _ ?_);obtain⟨i,H3,I3,st3,fr3,w3⟩:=hI;rcases turn i n H3 w3 with⟨stop,qn⟩ | ⟨go,step⟩
 ·refine thn (T.done Y rfl rfl rfl hc i pins s3 σ H3 _ I3 (stat fr3) st3 stop) λr s4 ⟨hr,I4⟩=>?_
  subst hr;exact hR s4 H3 I4 qn
 ·refine thn (T.item Y rfl rfl rfl hc i pins s3 σ H3 _ I3 (stat fr3) st3 go) λr s4 ⟨u,hr,h4⟩=>?_
  subst hr;refine thn h4 λ_ s5 ⟨x,H5,I5,r5,y5,st5,fr5⟩=>?_
  have I5':=I5.pinned (stat fr5) (T.obj _ _ st5);refine hact x u r5 _ s5 H5 _ _ I5' (step x H5 y5) λs7 H7 I7 ⟨m',hm,w7⟩=>?_
  refine⟨rfl,m',hm,i+1,H7,I7.unpinned,T.keep _ _ _ st5 λb hb o e=>(I7.pin (b,o) (Jb _ (Jb _ (QaJ hb e)))).1,λb hb=>?_,w7⟩;obtain⟨o,e,dd⟩:=T.obj _ _ st5 b hb;exact(I7.pin (b,o) (Jb _ (Jb _ (QaJ hb e)))).2.1
abbrev Qia (ifs:List Q2) (env:Env):Sem Bool:=forIn ifs true λc r=>if r=true then do let ok <- isTrue c env (eval c env);pure (JY ok) else pure (JY r)
def PTs(Y:Cx)(ifs:List Q2)(t:TT):Prop:=
 ∀(pins:List (Addr×Obj))(s:Shared)(σ:St)(H:Hp)(Q:Bool->Hp->Prop),Inv Y pins σ H s->t σ H Q->wpAny (model Y.prog Y.w) Y.A (Qia ifs Y.env) (TP Y pins σ Q) Y.xe s
def Qib:TT:=λ_ H Q=>Q true H
theorem QlN{Y:Cx}:PTs Y [] Qib:=λpins s σ H Q I h=>wpAny_tests_nil ⟨H,I,h⟩
theorem QsC{Y:Cx}{c:Q2}{t:TT}(h:PT Y c t):PTs Y [c] t:=λpins s σ H Q I q=>wpAny_tests_one (h pins s σ H Q I q)
def QnJ(Y:Cx)(tg:Q2)(ifs:List Q2)(inner:Act):Value->Act:=λu Q s=>
 wpAny (model Y.prog Y.w) Y.A (assign tg Y.env u) (λ_ s4=>wpAny (model Y.prog Y.w) Y.A (Qia ifs Y.env) (λok s5=>if ok=true then inner Q s5 else Q s5) (λ_ _=>False) s4) (λ_ _=>False) s
def bOf(σ:St)(g:TG)(tc:TT)(inner:St->Hp->(Hp->Prop)->Prop):V->Hp->(Hp->Prop)->Prop:=λx H k=>g x σ H λσ4 H4=>Wk σ σ4/\tc σ4 H4 λb H5=>
 if b=true then inner σ4 H5 k else k H5
theorem QdH{Y:Cx}{σ:St}{tg:Q2}{ifs:List Q2}{g:TG}{tc:TT}{inner:Act}{ri:St->Hp->(Hp->Prop)->Prop}(hx:Y.xe=λ_ _=>False)(hg:PG Y tg g)(ht:PTs Y ifs tc)(he:∀σ4,BodyOk Y σ4 inner (ri σ4))(x:V)(u:Value)(r:RelV x u) :
  BodyOk Y σ (QnJ Y tg ifs inner u) (bOf σ g tc ri x):=by
 intro pins s H k Q I h hQ;have hx':∀(v:Value)(s':Shared),Y.xe v s'->False:=λv s' z=>by rw[hx] at z;exact z
 refine wpAny_mono (hg pins s σ H x u _ I r h) (λ_ s4 ⟨σ4,H4,I4,wk,q4⟩=>?_) hx';refine wpAny_mono (ht pins s4 σ4 H4 _ I4 q4) (λb s5 ⟨H5,I5,q5⟩=>?_) hx';cases b with
 |false=>
  rw[if_neg QF] at q5;rw[if_neg QF];exact hQ s5 H5 (I5.wk wk) q5
 |true=>
  rw[if_pos rfl] at q5;rw[if_pos rfl];exact he σ4 pins s5 H5 k Q I5 q5 λs' H' I' k'=>hQ s' H' (I'.wk wk) k'
def QnM(Y:Cx)(elt:Q2)(D:Addr):Act:=λQ s=>wpAny (model Y.prog Y.w) Y.A (eval elt Y.env) (λv s6=>wpAny (model Y.prog Y.w) Y.A (call (.builtin "list.append") [.ref D,v]) (λ_ s7=>Q s7) (λ_ _=>False) s6) (λ_ _=>False) s
def Qui(p:Addr)(te:TE):St->Hp->(Hp->Prop)->Prop:=λσ H k=>te σ H λv H6=>∃ys,H6 p=some (.lst ys)/\ys.length<sizeLine/\k (upd H6 p (.lst (ys++[v])))
theorem QgG{Y:Cx}{σ:St}{elt:Q2}{te:TE}{D:Addr}(hx:Y.xe=λ_ _=>False)(he:PE Y elt te):BodyOk Y σ (QnM Y elt D) (Qui D te σ):=by
 intro pins s H k Q I h hQ;have hx':∀(v:Value)(s':Shared),Y.xe v s'->False:=λv s' z=>by rw[hx] at z;exact z
 refine wpAny_mono (he pins s σ H _ I h) (λv s6 ⟨y,H6,I6,r6,ys,e,hz,q⟩=>?_) hx';exact wpAny_mono (Qht (X:=Y) pins s6 σ H6 (.ref D) [y] (.ref D) [v] (λ_ H'=>k H') I6 rfl (.cons r6 .nil) ⟨D,ys,y,rfl,rfl,e,hz,q⟩) (λ_ s7 ⟨_,H7,I7,_,q7⟩=>hQ s7 H7 I7 q7) hx'
theorem Qi5{Y:Cx}{elt tg iter:Q2}{ifs:List Q2}{scope:Yp}{cpos:Pos}{it D:Addr}(Q:PySem.Fin->Shared->Prop)(E:Value->Shared->Prop)(s:Shared)
  (h:wpAny (model Y.prog Y.w) Y.A (pyNext (.ref it)) (λr s1=>match r with
   |none=>Q (.done .next) s1
   |some v=>wpAny (model Y.prog Y.w) Y.A (letOwnedTupleGo tg (.ref it) v) (λ_ s2=>QnJ Y tg ifs (QnM Y elt D) v (λs3=>Q (.again (.compLoop (.ListComp elt [⟨tg,iter,ifs,0⟩] scope cpos) 0 (.ref it) (.ref D) Y.env)) s3) s2) E s1) E s) :
  wpAny (model Y.prog Y.w) Y.A (compTurn (.ListComp elt [⟨tg,iter,ifs,0⟩] scope cpos) 0 (.ref it) (.ref D) Y.env) Q E s:=by
 rw[compTurn_list];refine wpAny_bind (wpAny_standAt (wpAny_bind (thn h λr s1 h1=>?_)));cases r with
 |none=>exact Qg h1
 |some v=>
  refine wpAny_bind (thn h1 λ_ s2 h2=>?_);refine wpAny_bind (wpAny_mono h2 (λ_ s4 h4=>wpAny_bind (wpAny_mono h4 (λok s5 h5=>?_) λ_ _ f=>f.elim)) λ_ _ f=>f.elim);cases ok with
  |false=>exact Qg h5
  |true=>exact wpAny_bind (wpAny_bind (wpAny_mono h5 (λx s6 h6=>wpAny_bind (wpAny_mono h6 (λ_ s7 h7=>Qg (Qg h7)) λ_ _ f=>f.elim)) λ_ _ f=>f.elim))
def tComp(cap:List (Option Nat))(wi:TI)(g:TG)(tc:TT)(te:TE):TE:=λσ H Q=>wi σ H λJ H1=>∀p,H1 p=none->Qg5 J (bOf (Qde cap σ) g tc (Qui p te)) (Q (.ref p)) (upd H1 p (.lst []))
theorem FpOk.upd{X:Cx}{pins:List (Addr×Obj)}{H:Hp}{b a:Addr}{o:HO}(h:FpOk X pins H b)(hne:b≠a):FpOk X pins (upd H a o) b:=⟨by rw[JX hne];exact h.1,h.2⟩
theorem Qjr{X:Cx}{M:List Str}{cap:List (Option Nat)}{elt tg iter:Q2}{ifs:List Q2}{scope:Yp}{pos:Pos}{wi:TI}{g:TG}{tc:TT}{te:TE}(hc:X.calm=true)(ok:QcC X.N X.env.scope M scope cap=true)
  (hi:PI X tg iter wi)(hb:∀cl ex s3 H3 C,PG (blk X M scope cl ex s3 H3 C) tg g/\PTs (blk X M scope cl ex s3 H3 C) ifs tc/\PE (blk X M scope cl ex s3 H3 C) elt te)
  (hs:∀x,foldedSetIterable iter X.env x=pure x:=by intro _;rfl):PE X (.ListComp elt [⟨tg,iter,ifs,0⟩] scope pos) (tComp cap wi g tc te):=by
 intro pins s σ H Q I h;have c:=CapOk.of ok;rw[eval_ListComp];refine Yo (use:=none) rfl hs (QeW (I.ok.cells c)) c.kind c.loc ?_
 refine thn (hi pins s σ H _ I h) λv s1 h1=>thn h1 λitv s2 h2=>?_
 obtain⟨it,fp,tn,J,H2,e,I2,T,st2,f2,hW⟩:=h2;subst e;refine JC (Qae c.cell (by intro y hy;simp at hy) (λh₁ hns₁ hsb₁=>?_) c.kind);have I3:Inv X pins σ (upd H2 s2.heap.objs.size (.lst [])) { s2 with heap:=s2.heap.push { cls:=.type "list",data:=.seq ([]:List Value).toArray } }:=I2.lnew (t':=s2.toks) (ys:=[]) .nil (Qv _);have lt2:∀b∈fp,b<s2.heap.objs.size:=λb hb=>by obtain⟨o,e,_⟩:=T.obj _ _ st2 b hb;exact Qs e
 have f3:∀b∈fp,FpOk X pins (upd H2 s2.heap.objs.size (.lst [])) b:=λb hb=>(f2 b hb).upd (QJ (lt2 b hb))
 generalize hs3:({ s2 with heap:=s2.heap.push { cls:=.type "list",data:=.seq ([]:List Value).toArray } }:Shared)=s3 at I3;have e3:s3.heap=s2.heap.push { cls:=.type "list",data:=.seq ([]:List Value).toArray }:=by rw[<- hs3]
 have z3:s3.heap.objs.size=s2.heap.objs.size+1:=by rw[e3,Z8]
 have hk:∀b o,s3.heap.get? b=some o->h₁.get? b=some o:=λb o e=>hsb₁.extBut b o (by
  have:=Qs e;rw[e3] at this;exact QJ this) (Qf _ (e3 ▸ e))
 have hn₁:h₁.Ns s3.heap.objs.size λ_=>none:=by rw[e3];exact hns₁
 have B:=Qb7 (t4:=s3.toks+([]:List (Str×Value)).length) (fp:=fp) I3 c f3 (λb hb=>by rw[z3];exact QaB (lt2 b hb)) hn₁ hk;have st4:tn 0 h₁:=T.keep _ _ _ st2 λb hb o e=>hk b o (by rw[e3];exact Qf _ e)
 have fp4:∀b∈fp,FpOk (blk X M scope (Qbq X.env scope.names []) fp s3 (upd H2 s2.heap.objs.size (.lst [])) s3.heap.objs.size) [] (upd H2 s2.heap.objs.size (.lst [])) b:=λb hb=>by
  refine⟨(f3 b hb).1,(B.ok.exf b hb).1,B.ok.exfs b hb,.inl hb,(B.ok.exf b hb).2,λp hp=>(nomatch hp)⟩
 obtain⟨hg,ht,he⟩:=hb (Qbq X.env scope.names []) fp s3 (upd H2 s2.heap.objs.size (.lst [])) s3.heap.objs.size;have loop:codeAny (model X.prog X.w) X.A (.compLoop (.ListComp elt [⟨tg,iter,ifs,0⟩] scope pos) 0 (.ref it) (.ref s2.heap.objs.size) (compEnvC scope (Qbq X.env scope.names []) s3.heap.objs.size X.env))
   (compPost (model X.prog X.w) X.A X.xe none (EP X pins σ Q) (.ref s2.heap.objs.size) s3.heap.objs.size) { s3 with heap:=h₁,toks:=s3.toks+([]:List (Str×Value)).length }:=by
  refine Qb4 (Y:=blk X M scope (Qbq X.env scope.names []) fp s3 (upd H2 s2.heap.objs.size (.lst [])) s3.heap.objs.size) (gens:=[⟨tg,iter,ifs,0⟩]) (d:=0) hc T st4 fp4
   (λQ E s h=>Qi5 Q E s h) (λx u r=>QdH rfl hg ht (λσ4=>QgG rfl he) x u r) B (hW _ (I2.hok.fresh (Qk _))) λs' H' I' q=>?_
  obtain⟨m,hn,_⟩:=I'.loc;exact⟨m,hn,λh' hs'=>⟨.ref s2.heap.objs.size,H',QgH I3 f3 I' hs',rfl,q⟩⟩
 exact QaX loop (T.self _ 0 _ _ _ st4 loop)
section
variable{X:Cx}
theorem ZM:CallR X (.builtin "isinstance") (λxs H Q=>∃x t T b,xs=[x,.ty T]/\TyOf X.K H x t/\PySem.W.kitOne X.K t (.type T)=some b/\Q (.bl b) H):=by
 intro pins s σ H xs us Q I r h;obtain⟨x,t,T,b,rfl,ty,e,q⟩:=h;obtain⟨u,v,rfl,ru,rv⟩:=vals2 r;cases(show v=YN T from rv);exact QmP I ru ty e λtk=>⟨.bl b,H,I.tok tk,rfl,q⟩
theorem QpT{bs:List Bool}:∀{us:List Value},Vals (bs.map V.bl) us->LSm.BoolsAre us bs:=by
 induction bs with
 |nil=>intro us r;cases r;exact .nil
 |cons b bs ih=>
  intro us r;cases r with
  |cons r t=>
   cases(show _=ZP b from r);exact .cons b (ih t)
theorem Qan:CallR X (.builtin "all") (λxs H Q=>∃(p:Addr)(bs:List Bool),xs=[.ref p]/\SqL X.K H p (bs.map V.bl)/\X.calm=true/\Q (.bl (bs.all id)) H):=by
 intro pins s σ H xs us Q I r h;obtain⟨p,bs,rfl,hp,hc,q⟩:=h;obtain⟨u,rfl,ru⟩:=vals1 r;cases ru;obtain⟨its,rv,pl,hz⟩:=I.list hp;have hl:=pl.isList;have hb:=QpT rv;have hlt:p<s.heap.objs.size:=by obtain⟨_,e,_⟩:=hl;exact Qs e
 refine call_all_walk (Qw9 hl ?_);refine⟨s.heap.objs.size,[s.heap.objs.size,p],[s.heap.objs.size],its.toArray.size,_,_,λi=>(bs[i]?).getD true,rfl,Walks.list (A:=X.A.in1) (I.ok.hd hc) _ p (QJ hlt) its.toArray,
  ⟨⟨_,QP _ rfl,rfl,rfl⟩,hl.push _⟩,λi v s' Q' E' hP hQ=>?_,λh' tk hk=>?_⟩
 ·obtain⟨b,e,rfl⟩:=hb.get i v (by simpa using hP);simp only[e,Option.getD_some] at hQ;exact Yn hQ
 ·have e:((Jr its.toArray.size).all λi=>(bs[i]?).getD true)=bs.all id:=by
   rw[Qu,hb.length];exact LSm.range_all bs
  rw[e];exact⟨.bl _,H,I.kept (LSm.kept_iter hk),rfl,q⟩
def QyM:V->Option Int->Option Int->Hp->VK->Prop:=λx lo hi H Q=>∃a xs,x=.ref a/\H a=some (.tup xs)/\∀p H',Same H H'->H' p=some (.tup (QkX xs lo hi))->Q (.ref p) H'
theorem Jk{H:Hp}{p:Addr}{o:HO}(h:H p=none):Same H (upd H p o):=λb u e=>by rw[JX (ZX e h)];exact e
theorem Qcz{prog:QB}{w:Jl}{A:Q9}{E:Value->Shared->Prop}{s:Shared}{t sl:Addr}{items:Array Value}{vl vu:Value}{lo hi:Option Int}{Q:Value->Shared->Prop}(ht:IsTup s.heap t items)(hs:s.heap.IsSliceOf sl vl vu .none)(pl:QhU vl lo)(pu:QhU vu hi)
  (h1:HT.sIx items.size 0 lo=0)(h2:HT.sIx items.size items.size hi=items.size)(h:Q (.ref t) s):wpAny (model prog w) A (getItem (.ref t) (.ref sl)) Q E s:=by
 obtain⟨os,hos,hcs,hds⟩:=id hs;have hTs:s.TypeIs (.ref sl) "slice" := ⟨os,hos,hcs⟩;unfold getItem
 try with_reducible refine J7 ?_
 first | refine wpAny_bind (Qg ?_) | skip
 refine wpAny_bind (QgT ht.typeIs (by decide) ?_);refine wpAny_bind (Zr (name:=QaL "__getitem__") ht.typeIs Jg
  (ZO Jg ht.typeIs Qe4 ?_ (QfO _ _)))
 show wpAny _ _ (QaC (.ref t) >>= _) _ _ s;refine wpAny_bind (Qn0 ht ?_);refine wpAny_bind (QhQ hTs ?_);rw[if_pos (by decide)];refine wpAny_bind (HT.QbQ hs pl pu ?_);show wpAny _ _ (if(((HT.sIx items.size 0 lo:Nat):Int) == 0&&(1:Int) == 1&&(HT.sIx items.size items.size hi - HT.sIx items.size 0 lo) == items.size)=true then _ else _) _ _ s;rw[if_pos (by rw[h1,h2];simp)];refine wpAny_bind (m:=QxB _) (wpAny_bind (QhQ ht.typeIs (Qg ?_)));rw[if_pos (by decide)];exact wpAny_bind (wpAny_rule (Qg ⟨_,rfl,Qg h⟩))
theorem QuM:SlR X QyM:=by
 intro pins s σ H x v vl vu lo hi sl Q I rx hs pl pu h;obtain⟨a,xs,rfl,hx,q⟩:=h;by_cases hw:HT.sIx xs.length 0 lo=0/\HT.sIx xs.length xs.length hi=xs.length
 ·cases rx;obtain⟨its,r,ht,hz⟩:=I.tuple (SqT.of hx);have hlen:its.toArray.size=xs.length:=by rw[Qu];exact r.length.symm
  refine⟨"tuple",_,Jg.lookup,ht.typeIs,?_⟩;refine Qcz ht hs pl pu (by rw[hlen];exact hw.1) (by rw[hlen];exact hw.2) ?_
  refine⟨.ref a,H,I,rfl,q a H (Same.refl H) ?_⟩;have e:QkX xs lo hi=xs:=by
   unfold QkX;rw[hw.1,hw.2];simp
  rw[e];exact hx
 ·exact QuL pins s σ H (.ref a) v vl vu lo hi sl Q I rx hs pl pu ⟨a,xs,rfl,SqT.of hx,hw,λp hp=>q p _ (Jk hp) Jm⟩
def Qzt(te ts:TE):TE:=λσ H Q=>te σ H λx H1=>QuG ts σ H1 λo H2=>o=some (-1)/\∃a xs,x=.ref a/\H2 a=some (.tup xs)/\∀p H',Same H2 H'->H' p=some (.tup xs.reverse)->Q (.ref p) H'
theorem QrO{α β:Type}(f:α->Option β)(g:α->β):∀(l:List α),(∀m∈l,f m=some (g m))->l.filterMap f=l.map g
 |[],_=>rfl
 |a::l,h=>by
  rw[Ym,h a Zi,Jh,QrO f g l λm hm=>h m (Jq _ hm)]
theorem QoD(xs:List Value):((Jr xs.length).filterMap λ(m:Nat)=>xs.toArray[((xs.length:Int) - 1+(m:Int)*(-1)).toNat]?)=xs.reverse:=by
 have e:∀m∈Jr xs.length,(xs.toArray[((xs.length:Int) - 1+(m:Int)*(-1)).toNat]?)=some (xs.reverse.getD m .none):=by
  intro m hm;have hm':m<xs.length:=QhS.mp hm;have e1:((xs.length:Int) - 1+(m:Int)*(-1)).toNat=xs.length - 1 - m:=by omega
  rw[e1];have e2:xs.reverse[m]? = xs[xs.length - 1 - m]? := List.getElem?_reverse hm'
  rw[List.getElem?_toArray,Zs,e2];have:xs.length - 1 - m<xs.length:=by omega
  rw[Ql this];rfl
 have e3:((Jr xs.length).filterMap λ(m:Nat)=>xs.toArray[((xs.length:Int) - 1+(m:Int)*(-1)).toNat]?)=(Jr xs.length).map λm=>xs.reverse.getD m .none:=by
  exact QrO _ _ _ e
 rw[e3];refine Qe2 λi=>?_
 rw[Q5];by_cases hi:i<xs.length
 ·rw[QdJ hi];have:i<xs.reverse.length:=by rw[ZU];exact hi
  show some (xs.reverse.getD i .none)=_;rw[Ql this,Zs,Ql this];rfl
 ·have h1:(Jr xs.length)[i]? = none:=YM (by rw[Yd];omega);have h2:xs.reverse[i]? = none:=YM (by rw[ZU];omega);rw[h1,h2];rfl
theorem Qdz{prog:QB}{w:Jl}{A:Q9}{E:Value->Shared->Prop}{s:Shared}{t sl:Addr}{items:List Value}{tk:Tok}{Q:Value->Shared->Prop}(ht:IsTup s.heap t items.toArray)(hs:s.heap.IsSliceOf sl .none .none (.int (-1) tk))
  (h:Q (.ref s.heap.objs.size) { s with heap:=s.heap.push { cls:=.type "tuple",data:=.seq items.reverse.toArray } })(hsz:items.length<=sizeLine):wpAny (model prog w) A (getItem (.ref t) (.ref sl)) Q E s:=by
 have htake:sizeOk (.seq items.reverse.toArray):=by
  show items.reverse.toArray.size<=sizeLine;rw[Qu,ZU];exact hsz
 obtain⟨os,hos,hcs,hds⟩:=id hs;have hTs:s.TypeIs (.ref sl) "slice" := ⟨os,hos,hcs⟩;unfold getItem
 try with_reducible refine J7 ?_
 first | refine wpAny_bind (Qg ?_) | skip
 refine wpAny_bind (QgT ht.typeIs (by decide) ?_);refine wpAny_bind (Zr (name:=QaL "__getitem__") ht.typeIs Jg
  (ZO Jg ht.typeIs Qe4 ?_ (QfO _ _)))
 show wpAny _ _ (QaC (.ref t) >>= _) _ _ s;refine wpAny_bind (Qn0 ht ?_);refine wpAny_bind (QhQ hTs ?_);rw[if_pos (by decide)];have app:∀{Q:Int×Int×Nat->Shared->Prop}{A:Q9}{E:Value->Shared->Prop},Q ((items.length:Int) - 1,-1,items.length) s->wpAny (model prog w) A (Yr (.ref sl) (pure (items.toArray.size:Int))) Q E s:=by
  intro Q A E h;unfold Yr QdV;refine wpAny_bind (wpAny_bind (Zd hos hds (x:=.none) rfl (wpAny_bind (Zd hos hds (x:=.none) rfl (wpAny_bind (Zd hos hds (x:=.int (-1) tk) rfl (Qg ?_)))))));refine wpAny_bind (slicePart_int ?_);show wpAny _ _ (if((-1:Int) == 0)=true then _ else _) _ _ s;rw[if_neg (by decide)];refine wpAny_bind (Qe0 (wpAny_bind (Qe0 (wpAny_bind (Qg ?_)))));have e1:Zj none none (-1) (items.toArray.size:Int)=((items.length:Int) - 1,-1):=by
   unfold Zj;simp
  show wpAny _ _ (match Zj none none (-1) (items.toArray.size:Int) with | (lo,hi)=>pure (lo,(-1:Int),JQ lo hi (-1))) _ _ s;rw[e1];have e2:JQ ((items.length:Int) - 1) (-1) (-1)=items.length:=by
   unfold JQ;simp only[show ¬((-1:Int) > 0) by decide,if_false];by_cases hn:items.length=0
   ·rw[hn];decide
   ·rw[if_pos (by omega)];have:((items.length:Int) - 1 - -1 - 1) / - -1=(items.length:Int) - 1:=by
     have:(- (-1:Int))=1:=by decide
     rw[this,Int.ediv_one];omega
    rw[this];omega
  show wpAny _ _ (pure ((items.length:Int) - 1,(-1:Int),JQ ((items.length:Int) - 1) (-1) (-1))) _ _ s;rw[e2];exact Qg h
 refine wpAny_bind (app ?_);show wpAny _ _ (if(((items.length:Int) - 1) == 0&&(-1:Int) == 1&&items.length == items.toArray.size)=true then _ else _) _ _ s;rw[if_neg (by simp),QoD]
 first
  |exact wpAny_bind (m:=JS _) (JC (Qg ⟨_,rfl,Qg h⟩) htake)
  |exact wpAny_bind (m:=JS _) (JC (wpAny_bind (Qg (Qg ⟨_,rfl,Qg h⟩))) htake)
  |exact wpAny_bind (wpAny_bind (m:=JS _) (JC (Qg (Qg ⟨_,rfl,Qg h⟩)) htake))
  |exact wpAny_bind (wpAny_bind (m:=JS _) (JC (Qg ⟨_,rfl,Qg h⟩) htake))
theorem Qvd{e st:Q2}{te ts:TE}{pos p2:Pos}(he:PE X e te)(hst:PE X st ts):PE X (.Subscript e (.Slice none none (some st) p2) pos) (Qzt te ts):=by
 intro pins s σ H Q I h;refine Qxi (thn (he pins s σ H _ I h) λv s1 ⟨x,H1,I1,r1,q1⟩=>?_);refine wpAny_Slice ?_
 rw[Qn3];refine Qg (Qg ?_);refine thn (QlS hst pins s1 σ H1 _ I1 q1) λvs s2 ⟨o,H2,I2,po,eo,a,xs,ex,hx,q⟩=>?_
 subst eo ex;cases r1;cases po with
 |int _ tk=>
  have I4:Inv X pins σ H2 { s2 with heap:=s2.heap.push { cls:=.type "slice",data:=.fields #[.none,.none,.int (-1) tk] } }:=I2.kept (t':=s2.toks) λb ob q=>Qf _ q
  obtain⟨its,r,ht,hz⟩:=I4.tuple (SqT.of hx);show wpAny (model X.prog X.w) X.A (subscriptTail e (.Slice none none (some st) p2) (.ref a) (.ref s2.heap.objs.size)) (EP X pins σ Q) X.xe { s2 with heap:=s2.heap.push { cls:=.type "slice",data:=.fields #[.none,.none,.int (-1) tk] } };refine tail_any (ops:=[.ref a,.ref s2.heap.objs.size]) ht.typeIs Jg.lookup (Qdz ht (QfU ..) ?_ (by rw[<- r.length];exact hz)) (by with_unfolding_all rfl);have fr:H2 (s2.heap.push { cls:=.type "slice",data:=.fields #[.none,.none,.int (-1) tk] }).objs.size=none:=I4.hok.fresh (Qk _);refine⟨.ref _,_,I4.laid (t':=s2.toks) (o:=.tup xs.reverse) (λb ob q=>Qf _ q) (Qk _) ?_,rfl,q _ _ (Jk fr) Jm⟩;exact⟨by rw[ZU];exact hz,_,r.reverse,Qj4 _ _⟩
def Qu0:R2:=λx y H Q=>∃a b xs ys,x=.ref a/\y=.ref b/\H a=some (.tup xs)/\H b=some (.tup ys)/\xs.length+ys.length<=sizeLine/\∀p H',Same H H'->H' p=some (.tup (xs++ys))->Q (.ref p) H'
theorem Qta:OpR X (binaryOp .Add) Qu0:=by
 intro pins s σ H x y v u Q I rx ry h;obtain⟨a,b,xs,ys,rfl,rfl,ha,hb,hz,q⟩:=h;by_cases hx:xs=[]
 ·subst hx;cases rx;cases ry;obtain⟨its,r1,p1,_⟩:=I.tuple (SqT.of ha);obtain⟨its2,r2,p2,_⟩:=I.tuple (SqT.of hb);cases r1;obtain⟨⟨cls,dd,data,sl⟩,ho,hc,n,hd⟩:=id p1;obtain⟨⟨cls2,dd2,data2,sl2⟩,ho2,hc2,n2,hd2⟩:=id p2;simp only at hc hd hc2 hd2;subst hc hd hc2 hd2;exact Qr3 ⟨_,ho,rfl⟩ ⟨_,ho2,rfl⟩ Qh1 Qn1 PySem.F.slot_tuple_add PySem.F.entry_tuple_add (PySem.F.args_tuple_add_2 _ _)
   (tuple_addW0 a b #[] its2.toArray n n2 dd dd2 sl sl2 rfl) ⟨ho,ho2,⟨.ref b,H,I,rfl,q b H (Same.refl H) hb⟩⟩
 ·exact Qs9 pins s σ H _ _ v u Q I rx ry ⟨a,b,xs,ys,rfl,rfl,SqT.of ha,SqT.of hb,hx,hz,λe=>q a H (Same.refl H) (by rw[e,Ji];exact ha),λ_ p hp=>q p _ (Jk hp) Jm⟩
def QxM:TE:=λ_ H Q=>∀p,H p=none->Q (.ref p) (upd H p (.dK []))
theorem QsI{pos:Pos}:PE X (.Dict [] [] pos) QxM:=λpins s σ H Q I h=>by
 refine wpAny_Dict_empty ⟨.ref s.heap.objs.size,_,I.laid (a:=s.heap.objs.size) (o:=.dK []) (t':=s.toks) (λ_ _ q=>Qf _ q) (Qk _) ?_,rfl,h _ (I.hok.fresh (Qk _))⟩;have hb:sysModules<s.heap.objs.size:=Qk3 (by decide) (I.mod.glob.keeps I.bk).lt;exact⟨Qv _,beq_eq_false_iff_ne.mpr (Qdc (QJ hb)),[],.nil,Qj6 s.heap⟩
end
end L2
namespace Rz
open Sem (wp)
section
variable{prog:QB}{w:Jl}{A:Q9}{E:Value->Shared->Prop}{s:Shared}
theorem Qgj{it t:Addr}{i:Nat}{items:Array Value}{x:Value}{Q:Value->Shared->Prop}(hit:s.heap.IsTupleIter it t i)(ht:s.heap.IsTuple t items)(hx:items[i]? = some x)
  (hQ:∀h',h'.IsTupleIter it t (i+1)->QaI it s.heap h'->Q x { s with heap:=h' }):wpAny (model prog w) A (JK (.ref it)) Q E s:=by
 obtain⟨o,ho,hc,hd⟩:=id hit;obtain⟨ol,hol,_,nl,hdl⟩:=ht;unfold JK;refine wpAny_bind (Zr (name:=QaL "__next__") hit.typeIs Y6
  (ZO Y6 hit.typeIs Qh3 ?_ (QhV _)))
 show wpAny _ _ (field (.ref it) 0 >>= _) _ _ s;refine wpAny_bind (Zd ho hd (x:=.ref t) rfl ?_);show wpAny _ _ (if(JP t == ZH)=true then _ else _) _ _ s;rw[if_neg (show ¬((JP t == ZH)=true) from QF)];show wpAny _ _ (field (.ref it) 1 >>= _) _ _ s;refine wpAny_bind (Zd ho hd (x:=.int i 0) rfl ?_);show wpAny _ _ (seqItems? (.ref t) >>= _) _ _ s;refine wpAny_bind (YL hol hdl ?_);simp only[JL,hx];refine wpAny_bind (wpAny_setField ho hd (by simp) (Qg ⟨x,rfl,Qg (hQ _ ?_ (QgQ ..))⟩));exact⟨_,QkU _ ho (Obj.isFreed_of_fields (Qp1 hd _)),(Obj.cls_mapFields ..).trans hc,by
  rw[Qp1 hd];simp[rawInt]⟩
theorem Qms{it t:Addr}{i:Nat}{items:Array Value}{Q:Value->Shared->Prop}(hh:A.handled=none)(hit:s.heap.IsTupleIter it t i)(ht:s.heap.IsTuple t items)(hx:items[i]? = none)
  (hE:∀h' e,Heap.ExtBut it s.heap h'->(∃o,h'.get? e=some o/\o.cls=.type "StopIteration")->E (.ref e) { s with heap:=h' }):wpAny (model prog w) A (JK (.ref it)) Q E s:=by
 obtain⟨o,ho,hc,hd⟩:=id hit;obtain⟨ol,hol,_,nl,hdl⟩:=ht;unfold JK;refine wpAny_bind (Zr (name:=QaL "__next__") hit.typeIs Y6
  (ZO Y6 hit.typeIs Qh3 ?_ (QhV _)))
 show wpAny _ _ (field (.ref it) 0 >>= _) _ _ s;refine wpAny_bind (Zd ho hd (x:=.ref t) rfl ?_);show wpAny _ _ (if(JP t == ZH)=true then _ else _) _ _ s;rw[if_neg (show ¬((JP t == ZH)=true) from QF)];show wpAny _ _ (field (.ref it) 1 >>= _) _ _ s;refine wpAny_bind (Zd ho hd (x:=.int i 0) rfl ?_);show wpAny _ _ (seqItems? (.ref t) >>= _) _ _ s;refine wpAny_bind (YL hol hdl ?_);simp only[JL,hx];refine wpAny_bind (wpAny_rule (wpAny_bind (wpAny_setField ho hd (by simp) ?_)));show wpAny _ _ (newExc (.type "StopIteration") [] >>= _) _ _ _;refine wpAny_bind ?_
 simp only[newExc,newTuple];refine wpAny_bind (JC ?_ (by size_fits));refine wpAny_bind (m:=firstArgMember _ _) (wpAny_of_eq (a:=ZH) (by first | rfl | (simp only[firstArgMember];rfl)) ?_);refine JC ?_ (by size_fits)
 simp only[raiseNew];refine wpAny_bind (wpAny_handled ?_)
 first | rw[show A.in1.handled=none from hh] | rw[hh]
 refine wpAny_bind (Qg (wpAny_throw ?_));exact hE _ _ (((QgQ ..).extBut.push _).push _) ⟨_,QP _ rfl,rfl⟩
structure Apart (z TI TO i1 i2 t1 t2:Addr):Prop where
 a1:TI≠z
 a2:TO≠z
 a3:i1≠z
 a4:i2≠z
 a5:TI≠TO
 a6:TI≠i1
 a7:TI≠i2
 a8:TO≠i1
 a9:TO≠i2
 b1:i1≠i2
 b2:t1≠z/\t1≠TO/\t1≠i1/\t1≠i2
 b3:t2≠z/\t2≠TO/\t2≠i1/\t2≠i2
structure QnN (h:Za) (z TI TO i1 i2 t1 t2:Addr) (f:Value) (k:Nat):Prop where
 zp:Qsa h z TI TO f
 ti:IsPair h TI (.ref i1) (.ref i2)
 to:∃a b,IsPair h TO a b
 i1:h.IsTupleIter i1 t1 k
 i2:h.IsTupleIter i2 t2 k
theorem Qmu{z TI TO i1 i2 t1 t2:Addr}{k:Nat}{xs ys:Array Value}{x y:Value}{Q:Option Value->Shared->Prop}(D:Apart z TI TO i1 i2 t1 t2)(Z:QnN s.heap z TI TO i1 i2 t1 t2 .none k)
  (hl1:s.heap.IsTuple t1 xs)(hl2:s.heap.IsTuple t2 ys)(hx:xs[k]? = some x)(hy:ys[k]? = some y)
  (hQ:∀h',QnN h' z TI TO i1 i2 t1 t2 (rawInt s.heap.objs.size) (k+1)->IsPair h' s.heap.objs.size x y->(∀c o,c≠z->c≠TO->c≠i1->c≠i2->s.heap.get? c=some o->h'.get? c=some o)->Q (some (.ref s.heap.objs.size)) { s with heap:=h' }) :
  wpAny (model prog w) A (pyNext (.ref z)) Q E s:=by
 obtain⟨hz,hTI,⟨a,b,hTO⟩,h1,h2⟩:=Z;have hT:s.TypeIs (.ref z) "zip" := ⟨_,hz,rfl⟩;unfold pyNext;refine wpAny_bind (QcM (Zr (name:=QaL "__next__") hT Qdg (ZO Qdg hT QwX ?_ (Quv _))));show wpAny _ _ (field (.ref z) 2 >>= _) _ _ _;refine wpAny_bind (Zd hz rfl (x:=.bool false) rfl ?_);show wpAny _ _ (field (.ref z) 3 >>= _) _ _ _;refine wpAny_bind (Zd hz rfl (x:=.ref TI) rfl (wpAny_bind (YL hTI rfl ?_)));show wpAny _ _ (ZA (.ref z) >>= _) _ _ _;refine wpAny_bind ?_
 unfold ZA;refine wpAny_bind (Zd hz rfl (x:=.none) rfl (Qg ?_));simp only[if_true];refine wpAny_bind (wpAny_rule (wpAny_bind (Zd hz rfl (x:=.ref TO) rfl (wpAny_bind (YR hz (by simp) λg1 z1 s1=>?_)))))
 replace z1:Qsa g1 z TI TO .ellipsis:=z1
 refine wpAny_bind ?_
 simp only[Qfi,Qud,QgO,Qut];refine wpAny_bind (wpAny_bind (QfN ?_));show wpAny _ _ (JK (.ref i1) >>= _) _ _ _;refine wpAny_bind (Qgj (h1.extBut s1.extBut D.a3) (hl1.extBut s1.extBut D.b2.1) hx λg2 p2 s2=>Qg ?_);have o2:IsPair g2 TO a b:=s2.extBut _ _ D.a8 (s1.extBut _ _ D.a2 hTO);refine wpAny_bind (YL o2 rfl (wpAny_bind (Qen o2 λg3 o3 s3=>wpAny_bind (Quk (Qg ?_)))))
 replace o3:IsPair g3 TO x b:=o3
 refine wpAny_bind (wpAny_bind (QfN ?_));show wpAny _ _ (JK (.ref i2) >>= _) _ _ _;refine wpAny_bind (Qgj (((h2.extBut s1.extBut D.a4).extBut s2.extBut D.b1.symm).extBut s3.extBut D.a9.symm)
  (((hl2.extBut s1.extBut D.b3.1).extBut s2.extBut D.b3.2.2.1).extBut s3.extBut D.b3.2.1) hy λg4 p4 s4=>Qg ?_)
 have o4:IsPair g4 TO x b:=s4.extBut _ _ D.a9 o3;refine wpAny_bind (YL o4 rfl (wpAny_bind (Qen o4 λg5 o5 s5=>wpAny_bind (Quk (Qg (Qg ?_))))))
 replace o5:IsPair g5 TO x y:=o5
 refine wpAny_bind (YL o5 rfl (wpAny_bind (wpAny_newTuple ?_)));have sz:g5.objs.size=s.heap.objs.size:=by rw[s5.1,s4.1,s3.1,s2.1,s1.1]
 have kp:∀c o,c≠z->c≠TO->c≠i1->c≠i2->s.heap.get? c=some o->g5.get? c=some o:=λc o c1 c2 c3 c4 e=>
  s5.extBut _ _ c2 (s4.extBut _ _ c4 (s3.extBut _ _ c2 (s2.extBut _ _ c3 (s1.extBut _ _ c1 e))))
 have z5:Qsa g5 z TI TO .ellipsis:=s5.extBut _ _ D.a2.symm (s4.extBut _ _ D.a4.symm (s3.extBut _ _ D.a2.symm (s2.extBut _ _ D.a3.symm z1)));have q1:g5.IsTupleIter i1 t1 (k+1):=((p2.extBut s3.extBut D.a8.symm).extBut s4.extBut D.b1).extBut s5.extBut D.a8.symm;have q2:g5.IsTupleIter i2 t2 (k+1):=p4.extBut s5.extBut D.a9.symm;show wpAny _ _ (Qbu (.ref z) (.ref g5.objs.size) >>= _) _ _ _;refine wpAny_bind ?_
 unfold Qbu;have z6:Qsa (g5.push { cls:=.type "tuple",data:=.seq #[x,y] }) z TI TO .ellipsis:=Qf _ z5;refine wpAny_bind (YR z6 (by simp) λg7 z7 s7=>?_)
 replace z7:Qsa g7 z TI TO (rawInt g5.objs.size):=z7
 refine YR z7 (by simp) λg8 z8 s8=>?_
 replace z8:Qsa g8 z TI TO (rawInt g5.objs.size):=z8
 have up:∀c o,c≠z->g5.get? c=some o->g8.get? c=some o:=λc o c1 e=>s8.extBut _ _ c1 (s7.extBut _ _ c1 (Qf _ e))
 have ne:g5.objs.size≠z:=QcN (Qs z5);have t8:IsPair g8 g5.objs.size x y:=s8.extBut _ _ ne (s7.extBut _ _ ne (QP _ rfl));rw[sz] at z8 t8;refine Qg ⟨_,rfl,Qg ?_⟩;show Q (some (.ref g5.objs.size)) _;rw[sz];exact hQ g8 ⟨z8,up _ _ D.a1 (kp _ _ D.a1 D.a5 D.a6 D.a7 hTI),⟨x,y,up _ _ D.a2 o5⟩,q1.at λo e=>up _ o D.a3 e,q2.at λo e=>up _ o D.a4 e⟩ t8 λc o c1 c2 c3 c4 e=>up c o c1 (kp c o c1 c2 c3 c4 e)
theorem Qpk{z TI TO i1 i2 t1 t2:Addr}{k:Nat}{xs ys:Array Value}{Q:Option Value->Shared->Prop}(hh:A.handled=none)(D:Apart z TI TO i1 i2 t1 t2)(Z:QnN s.heap z TI TO i1 i2 t1 t2 .none k)
  (hl1:s.heap.IsTuple t1 xs)(hl2:s.heap.IsTuple t2 ys)(hend:xs[k]? = none∨ys[k]? = none)
  (hQ:∀h',(∀c o,c≠z->c≠TO->c≠i1->c≠i2->s.heap.get? c=some o->h'.get? c=some o)->Q none { s with heap:=h' }):wpAny (model prog w) A (pyNext (.ref z)) Q E s:=by
 obtain⟨hz,hTI,⟨a,b,hTO⟩,h1,h2⟩:=Z;have hT:s.TypeIs (.ref z) "zip" := ⟨_,hz,rfl⟩;have fin:∀(h':Za)(e:Addr),(∀c o,c≠z->c≠TO->c≠i1->c≠i2->s.heap.get? c=some o->h'.get? c=some o)->(∃o,h'.get? e=some o/\o.cls=.type "StopIteration") ->
   wpAny (model prog w) A (isInstance (.ref e) (.type "StopIteration") >>= λx=>if x=true then pure none else throw (.ref e)) Q E { s with heap:=h' }:=λh' e hk he=>by
  obtain⟨o,ho,hc⟩:=he;refine wpAny_bind (wpAny_isInstance (T := "StopIteration") (b:=true) ⟨o,ho,hc⟩ isSubtype_stop ?_);exact Qg (hQ _ hk)
 unfold pyNext;refine wpAny_bind (QcM (Zr (name:=QaL "__next__") hT Qdg (ZO Qdg hT QwX ?_ (Quv _))));show wpAny _ _ (field (.ref z) 2 >>= _) _ _ _;refine wpAny_bind (Zd hz rfl (x:=.bool false) rfl ?_);show wpAny _ _ (field (.ref z) 3 >>= _) _ _ _;refine wpAny_bind (Zd hz rfl (x:=.ref TI) rfl (wpAny_bind (YL hTI rfl ?_)));show wpAny _ _ (ZA (.ref z) >>= _) _ _ _;refine wpAny_bind ?_
 unfold ZA;refine wpAny_bind (Zd hz rfl (x:=.none) rfl (Qg ?_));simp only[if_true];refine wpAny_bind (wpAny_rule (wpAny_bind (Zd hz rfl (x:=.ref TO) rfl (wpAny_bind (YR hz (by simp) λg1 z1 s1=>?_)))))
 replace z1:Qsa g1 z TI TO .ellipsis:=z1
 refine wpAny_bind ?_
 simp only[Qfi,Qud,QgO,Qut];refine wpAny_bind (wpAny_bind (QfN ?_));show wpAny _ _ (JK (.ref i1) >>= _) _ _ _;cases hx:xs[k]? with
 |none=>
  refine wpAny_bind (Qms hh (h1.extBut s1.extBut D.a3) (hl1.extBut s1.extBut D.b2.1) hx λg2 e s2 he=>?_);obtain⟨oe,hoe,hce⟩:=he;have z2:Qsa g2 z TI TO .ellipsis:=s2 _ _ D.a3.symm z1;have hez:e≠z:=λq=>by subst q;rw[z2] at hoe;cases hoe;simp at hce
  refine YR z2 (by simp) λg3 _ s3=>?_
  exact fin g3 e (λc o c1 _ c3 _ q=>s3.extBut _ _ c1 (s2 _ _ c3 (s1.extBut _ _ c1 q))) ⟨oe,s3.extBut _ _ hez hoe,hce⟩
 |some x=>
  have hy:ys[k]? = none:=by
   rcases hend with q | q
   ·rw[hx] at q;cases q
   ·exact q
  refine wpAny_bind (Qgj (h1.extBut s1.extBut D.a3) (hl1.extBut s1.extBut D.b2.1) hx λg2 p2 s2=>Qg ?_);have o2:IsPair g2 TO a b:=s2.extBut _ _ D.a8 (s1.extBut _ _ D.a2 hTO);refine wpAny_bind (YL o2 rfl (wpAny_bind (Qen o2 λg3 o3 s3=>wpAny_bind (Quk (Qg ?_)))));refine wpAny_bind (wpAny_bind (QfN ?_));show wpAny _ _ (JK (.ref i2) >>= _) _ _ _;refine wpAny_bind (Qms hh (((h2.extBut s1.extBut D.a4).extBut s2.extBut D.b1.symm).extBut s3.extBut D.a9.symm)
   (((hl2.extBut s1.extBut D.b3.1).extBut s2.extBut D.b3.2.2.1).extBut s3.extBut D.b3.2.1) hy λg4 e s4 he=>?_)
  obtain⟨oe,hoe,hce⟩:=he;have z4:Qsa g4 z TI TO .ellipsis:=s4 _ _ D.a4.symm (s3.extBut _ _ D.a2.symm (s2.extBut _ _ D.a3.symm z1));have hez:e≠z:=λq=>by subst q;rw[z4] at hoe;cases hoe;simp at hce
  refine YR z4 (by simp) λg5 _ s5=>?_
  exact fin g5 e (λc o c1 c2 c3 c4 q=>s5.extBut _ _ c1 (s4 _ _ c4 (s3.extBut _ _ c2 (s2.extBut _ _ c3 (s1.extBut _ _ c1 q))))) ⟨oe,s5.extBut _ _ hez hoe,hce⟩
end
abbrev zh1 (h:Za) (t1:Addr):Za:=h.push { cls:=.type "tuple_iterator",data:=.fields #[.ref t1,.int 0 0] }
abbrev zh2 (h:Za) (t1 t2:Addr):Za:=(zh1 h t1).push { cls:=.type "tuple_iterator",data:=.fields #[.ref t2,.int 0 0] }
abbrev zh3 (h:Za) (t1 t2:Addr):Za:=(zh2 h t1 t2).push { cls:=.type "tuple",data:=.seq #[.ref h.objs.size,.ref (zh1 h t1).objs.size] }
abbrev zh4 (h:Za) (t1 t2:Addr):Za:=(zh3 h t1 t2).push { cls:=.type "tuple",data:=.seq #[.none,.none] }
abbrev zh5 (h:Za) (t1 t2:Addr):Za:=(zh4 h t1 t2).push { cls:=.type "zip",data:=.fields #[.none,.bool false,.bool false,.ref (zh2 h t1 t2).objs.size,.ref (zh3 h t1 t2).objs.size] }
theorem QzK(t1 t2:Addr)(xs ys:Array Value) :
  Meets (QcQ.«zip.__new__» ⟨[.type "zip",.ref t1,.ref t2],[]⟩) (λ_ R s=>s.heap.IsTuple t1 xs/\s.heap.IsTuple t2 ys/\R (.ok (.ret (.ref (zh4 s.heap t1 t2).objs.size))) { s with heap:=zh5 s.heap t1 t2 }):=
 .of_wp λprog w A R s h=>by
  obtain⟨hp,g,d,tk,os⟩:=s;obtain⟨hl1,hl2,h⟩:=h;have hsub:=sub_zip;have k1:Qxy (QwQ ⟨hp,g,d,tk,os⟩) t1 xs:=hl1;have k2:Qxy (QwQ ⟨hp.push { cls:=.type "tuple_iterator",data:=.fields #[.ref t1,.int 0 0] },g,d,tk,os⟩) t2 ys:=hl2.at λo e=>Qf _ e
  wp_walk using QfM k1,QfM k2
  exact⟨_,rfl,h⟩
section
variable{prog:QB}{w:Jl}{A:Q9}{E:Value->Shared->Prop}{s:Shared}
theorem QpS{t1 t2:Addr}{xs ys:Array Value}{Q:Value->Shared->Prop}(hl1:s.heap.IsTuple t1 xs)(hl2:s.heap.IsTuple t2 ys)
  (h:∀h',QnN h' (s.heap.objs.size+4) (s.heap.objs.size+2) (s.heap.objs.size+3) s.heap.objs.size (s.heap.objs.size+1) t1 t2 .none 0->(∀c o,s.heap.get? c=some o->h'.get? c=some o)->Q (.ref (s.heap.objs.size+4)) { s with heap:=h' }) :
  wpAny (model prog w) A (call (.type "zip") [.ref t1,.ref t2]) Q E s:=by
 refine callType_new F.called_zip (by decide) (F.typeCall_zip_2 _ _) (F.newCall_zip_2 _ _) (λobj=>F.args_object_init_3 obj _ _) F.entry_zip_new (QzK t1 t2 xs ys) ⟨hl1,hl2,?_⟩;have z1:(zh1 s.heap t1).objs.size=s.heap.objs.size+1:=Z8 ..;have z2:(zh2 s.heap t1 t2).objs.size=s.heap.objs.size+2:=by rw[Z8,z1]
 have z3:(zh3 s.heap t1 t2).objs.size=s.heap.objs.size+3:=by rw[Z8,z2]
 have z4:(zh4 s.heap t1 t2).objs.size=s.heap.objs.size+4:=by rw[Z8,z3]
 have g5:(zh5 s.heap t1 t2).get? (zh4 s.heap t1 t2).objs.size=some _:=QP _ rfl;have g4:(zh5 s.heap t1 t2).get? (zh3 s.heap t1 t2).objs.size=some _:=Qf _ (QP _ rfl);have g3:(zh5 s.heap t1 t2).get? (zh2 s.heap t1 t2).objs.size=some _:=Qf _ (Qf _ (QP _ rfl));have g2:(zh5 s.heap t1 t2).get? (zh1 s.heap t1).objs.size=some _:=Qf _ (Qf _ (Qf _ (QP _ rfl)));have g1:(zh5 s.heap t1 t2).get? s.heap.objs.size=some _:=Qf _ (Qf _ (Qf _ (Qf _ (QP _ rfl))));show _/\_;rw[z2,z3,z4] at g5;rw[z1,z2] at g3;rw[z3] at g4;rw[z1] at g2;rw[z4];exact⟨⟨_,g5,rfl⟩,h _ ⟨g5,g3,⟨_,_,g4⟩,⟨_,g1,rfl,rfl⟩,⟨_,g2,rfl,rfl⟩⟩ λc o x=>Qf _ (Qf _ (Qf _ (Qf _ (Qf _ x))))⟩
end
end Rz
namespace L2
section
variable{X:Cx}{pins:List (Addr×Obj)}{σ:St}{H:Hp}{s:Shared}{h':Za}
theorem Inv.turnedNew{t':Nat}{ch:List Addr}{a:Addr}{o:HO}(I:Inv X pins σ H s)(hch:∀b∈ch,FpOk X pins H b)(k:∀b u,b∉ch->s.heap.get? b=some u->h'.get? b=some u)(hp:s.heap.objs.size<=a)
  (new:ObjOk X.prog X.w (upd H a o) h' a o):Inv X pins σ (upd H a o) { s with heap:=h',toks:=t' }:=by
 have hn:H a=none:=I.hok.fresh hp;have nch:∀b u,H b=some u->b∉ch:=λb u e z=>by rw[(hch b z).1] at e;cases e
 refine I.step (g':=s.gens) (d':=s.drawn) (ch:=ch) (λb hb=>?_) (λb u _ _ hc e _=>k b u hc e) (λb u _ _ hc e _=>⟨u.slots,k b u hc e⟩) (λb u hc e n=>?_) (λb u hc e=>⟨u,k b u hc e⟩)
  (λb xs e=>by rw[JX (ZX e hn)];exact e) (λb u v e=>by rw[JX (ZX e hn)];exact e) (λb ps e=>⟨#[],by rw[JX (ZX e hn),e];simp⟩) (λm hm=>?_) (λb u e=>?_) I.bare
 ·obtain⟨f0,f1,f2,f3,f4,f5⟩:=hch b hb;exact⟨f3,f1,f4,f5⟩
 ·rw[JX (QJ (QL (Qs e) hp))];exact n
 ·obtain⟨u,es,ep,ho,r⟩:=hm;exact⟨u,es,ep,k _ u (λz=>(hch _ z).2.1 rfl) ho,r⟩
 ·by_cases hb:b=a
  ·subst hb;rw[Jm] at e;cases e;exact new
  ·rw[JX hb] at e;refine(I.hok b u e).stay (λc v hc q=>k c v ?_ q) (λc q=>by rw[JX (ZX q hn)];exact q) λc xs q=>by rw[JX (ZX q hn)];exact q
   rcases hc with z | z
   ·rw[z];exact nch b u e
   ·exact nch c _ z
theorem Inv.turnedAll{t':Nat}{ch:List Addr}(I:Inv X pins σ H s)(hch:∀b∈ch,FpOk X pins H b)(k:∀b u,b∉ch->s.heap.get? b=some u->h'.get? b=some u):Inv X pins σ H { s with heap:=h',toks:=t' }:=by
 have nch:∀b u,H b=some u->b∉ch:=λb u e z=>by rw[(hch b z).1] at e;cases e
 refine I.step (g':=s.gens) (d':=s.drawn) (ch:=ch) (λb hb=>?_) (λb u _ _ hc e _=>k b u hc e) (λb u _ _ hc e _=>⟨u.slots,k b u hc e⟩) (λb u hc e n=>n) (λb u hc e=>⟨u,k b u hc e⟩)
  (λb xs e=>e) (λb u v e=>e) (λb ps e=>⟨#[],by rw[e];simp⟩) (λm hm=>?_) (λb u e=>?_) I.bare
 ·obtain⟨f0,f1,f2,f3,f4,f5⟩:=hch b hb;exact⟨f3,f1,f4,f5⟩
 ·obtain⟨u,es,ep,ho,r⟩:=hm;exact⟨u,es,ep,k _ u (λz=>(hch _ z).2.1 rfl) ho,r⟩
 ·refine(I.hok b u e).stay (λc v hc q=>k c v ?_ q) (λc q=>q) λc xs q=>q
  rcases hc with z | z
  ·rw[z];exact nch b u e
  ·exact nch c _ z
end
def Itz(t1 t2:Addr):It:=
 ⟨λi H=>∃xs ys x y,H t1=some (.tup xs)/\H t2=some (.tup ys)/\xs[i]? = some x/\ys[i]? = some y,
  λi H v H'=>∃p x y,H p=none/\(∀xs,H t1=some (.tup xs)->xs[i]? = some x)/\(∀ys,H t2=some (.tup ys)->ys[i]? = some y)/\v=.ref p/\H'=upd H p (.tup [x,y]),
  λi H=>∃xs ys,H t1=some (.tup xs)/\H t2=some (.tup ys)/\(xs.length<=i∨ys.length<=i)⟩
theorem Qod{P:QB}{w:Jl}{K:PySem.W.Frag}{elts:List Q2}{x1}{tpos:Pos}{z TI TO i1 i2 t1 t2:Addr}(D:Rz.Apart z TI TO i1 i2 t1 t2) :
  Turn P w K (.Tuple elts x1 tpos) (Itz t1 t2) [z,TI,TO,i1,i2] z (λi h=>Rz.QnN h z TI TO i1 i2 t1 t2 .none i) where
 mem:=by simp
 obj:=λi h st b hb=>by
  obtain⟨a1,a2,⟨_,_,a3⟩,⟨o4,a4,_,d4⟩,⟨o5,a5,_,d5⟩⟩:=st;simp only[QN,Zm,or_false] at hb;rcases hb with rfl | rfl | rfl | rfl | rfl
  ·exact⟨_,a1,λv q=>nomatch q⟩
  ·exact⟨_,a2,λv q=>nomatch q⟩
  ·exact⟨_,a3,λv q=>nomatch q⟩
  ·exact⟨_,a4,λv q=>by rw[d4] at q;cases q⟩
  ·exact⟨_,a5,λv q=>by rw[d5] at q;cases q⟩
 keep:=λi h h' st k=>by
  obtain⟨a1,a2,⟨a,b,a3⟩,a4,a5⟩:=st;exact⟨k z (by simp) _ a1,k TI (by simp) _ a2,⟨a,b,k TO (by simp) _ a3⟩,a4.at λo e=>k i1 (by simp) o e,a5.at λo e=>k i2 (by simp) o e⟩
 item:=by
  intro X hP hw hK hc i pins s σ H E I hf st hg;subst hP hw hK;obtain⟨xs,ys,x,y,h1,h2,hx,hy⟩:=hg;obtain⟨its1,r1,p1,_⟩:=I.tuple (SqT.of h1);obtain⟨its2,r2,p2,_⟩:=I.tuple (SqT.of h2);obtain⟨u1,hu1,ru1⟩:=r1.get hx;obtain⟨u2,hu2,ru2⟩:=r2.get hy;refine Rz.Qmu D st (show s.heap.IsTuple t1 its1.toArray from p1) (show s.heap.IsTuple t2 its2.toArray from p2) (by simpa using hu1) (by simpa using hu2) λh' st' tp kp=>?_
  have hlt:∀b∈[z,TI,TO,i1,i2],b≠s.heap.objs.size:=λb hb=>by
   obtain⟨a1,a2,⟨_,_,a3⟩,⟨o4,a4,_,d4⟩,⟨o5,a5,_,d5⟩⟩:=st;simp only[QN,Zm,or_false] at hb;rcases hb with rfl | rfl | rfl | rfl | rfl
   ·exact QJ (Qs a1)
   ·exact QJ (Qs a2)
   ·exact QJ (Qs a3)
   ·exact QJ (Qs a4)
   ·exact QJ (Qs a5)
  have fr:H s.heap.objs.size=none:=I.hok.fresh (Qk _);refine⟨_,rfl,QkY st'.zp λh2' z2 s2=>?_⟩;have I1:Inv X pins σ (upd H s.heap.objs.size (.tup [x,y])) { s with heap:=h2',toks:=s.toks }:=by
   refine I.turnedNew (ch:=[z,TI,TO,i1,i2]) hf (λb u hb e=>?_) (Qk _) ⟨by show 2<=sizeLine;decide,[u1,u2],.cons ru1 (.cons ru2 .nil),?_⟩
   ·simp only[QN,Zm,or_false,not_or] at hb;exact s2.extBut _ _ hb.1 (kp b u hb.1 hb.2.2.1 hb.2.2.2.1 hb.2.2.2.2 e)
   ·exact⟨_,s2.extBut _ _ (hlt z (by simp)).symm tp,rfl,0,rfl⟩
  refine⟨.ref s.heap.objs.size,_,I1,rfl,⟨_,x,y,fr,λxs' e=>?_,λys' e=>?_,rfl,rfl⟩,?_,λb hb=>?_⟩
  ·rw[h1] at e;cases e;exact hx
  ·rw[h2] at e;cases e;exact hy
  ·obtain⟨a1,a2,⟨a,b,a3⟩,a4,a5⟩:=st';exact⟨z2,s2.extBut _ _ D.a1 a2,⟨a,b,s2.extBut _ _ D.a2 a3⟩,a4.extBut s2.extBut D.a3,a5.extBut s2.extBut D.a4⟩
  ·rw[JX (hlt b hb)];exact(hf b hb).1
 done:=by
  intro X hP hw hK hc i pins s σ H E I hf st hg;subst hP hw hK;obtain⟨xs,ys,h1,h2,he⟩:=hg;obtain⟨its1,r1,p1,_⟩:=I.tuple (SqT.of h1);obtain⟨its2,r2,p2,_⟩:=I.tuple (SqT.of h2);have l1:=r1.length;have l2:=r2.length;refine Rz.Qpk (I.ok.hd hc) D st (show s.heap.IsTuple t1 its1.toArray from p1) (show s.heap.IsTuple t2 its2.toArray from p2) ?_ λh' kp=>⟨rfl,I.turnedAll (t':=s.toks) (ch:=[z,TI,TO,i1,i2]) hf λb u hb e=>?_⟩
  ·rcases he with q | q
   ·exact .inl (by simp;omega)
   ·exact .inr (by simp;omega)
  ·simp only[QN,Zm,or_false,not_or] at hb;exact kp b u hb.1 hb.2.2.1 hb.2.2.2.1 hb.2.2.2.2 e
 self:=λ_ _ _ _ _ st h=>Qc9 st.zp h
section
variable{X:Cx}
theorem apart_new(n t1 t2:Nat)(h1:t1<n)(h2:t2<n):Rz.Apart (n+4) (n+2) (n+3) n (n+1) t1 t2 where
 a1:=by show ¬(n+2=n+4);omega
 a2:=by show ¬(n+3=n+4);omega
 a3:=by show ¬(n=n+4);omega
 a4:=by show ¬(n+1=n+4);omega
 a5:=by show ¬(n+2=n+3);omega
 a6:=by show ¬(n+2=n);omega
 a7:=by show ¬(n+2=n+1);omega
 a8:=by show ¬(n+3=n);omega
 a9:=by show ¬(n+3=n+1);omega
 b1:=by show ¬(n=n+1);omega
 b2:=⟨by show ¬(t1=n+4);omega,by show ¬(t1=n+3);omega,by show ¬(t1=n);omega,by show ¬(t1=n+1);omega⟩
 b3:=⟨by show ¬(t2=n+4);omega,by show ¬(t2=n+3);omega,by show ¬(t2=n);omega,by show ¬(t2=n+1);omega⟩
def QzU(ta:TA):TI:=λσ H R=>ta σ H λvs H1=>∃t1 t2 xs ys,vs=[.ref t1,.ref t2]/\H1 t1=some (.tup xs)/\H1 t2=some (.tup ys)/\R (Itz t1 t2) H1
theorem Qny:bootBuiltins "zip" = some (.type "zip"):=by decide +kernel
theorem Qrt{a b:Q2}{elts:List Q2}{x1}{tpos:Pos}{ta:TA}{p pos:Pos}(hg:Gl X "zip")(hm:X.mg "zip" = none)(ha:PA X [a,b] ta)(hs:starEach [a,b] X.env=[(false,eval a X.env),(false,eval b X.env)]:=by rfl)(hs2:starEach [b] X.env=[(false,eval b X.env)]:=by rfl) :
  PI X (.Tuple elts x1 tpos) (.Call (.Name "zip" p) [a,b] [] pos) (QzU ta):=by
 intro pins s σ H R I h;refine Call_ (QeO I hg hm Qny (ZJ (thn (ha pos pins s σ H _ I h) λus s1 ⟨vs,H1,I1,r1,q1⟩=>?_) (by rw[hs,hs2]) (by rw[hs2];rfl)));obtain⟨t1,t2,xs,ys,e,h1,h2,q⟩:=q1;subst e;obtain⟨u,v,rfl,ru,rv⟩:=vals2 r1;cases(show u=JP t1 from ru);cases(show v=JP t2 from rv);obtain⟨its1,w1,p1,_⟩:=I1.tuple (SqT.of h1);obtain⟨its2,w2,p2,_⟩:=I1.tuple (SqT.of h2);have n1:t1<s1.heap.objs.size:=I1.hok.lt h1;have n2:t2<s1.heap.objs.size:=I1.hok.lt h2;refine Rz.QpS (show s1.heap.IsTuple t1 its1.toArray from p1) (show s1.heap.IsTuple t2 its2.toArray from p2) λh' st kp=>?_
 refine Qc9 (s:={ s1 with heap:=h' }) st.zp ?_
 have D:=apart_new s1.heap.objs.size t1 t2 n1 n2;refine⟨s1.heap.objs.size+4,_,_,_,H1,rfl,I1.kept (t':=s1.toks) kp,Qod D,st,λb hb=>?_,q⟩;have hb':s1.heap.objs.size<=b:=by
  simp only[QN,Zm,or_false] at hb;rcases hb with rfl | rfl | rfl | rfl | rfl<;>omega
 exact I1.fpOk hb' (I1.hok.fresh hb')
end
end L2
namespace Rk
open L2
def QyI:Option HO->Option (List V)
 |some (.tup xs)=>some xs
 |_=>none
def Qf3(H:Hp):V->Option (List V)
 |.ref a=>QyI (H a)
 |_=>none
theorem Qi7(H:Hp)(a:Addr):Qf3 H (.ref a)=QyI (H a):=rfl
def isT(H:Hp)(x:V):Bool:=(Qf3 H x).isSome
def isI:V->Bool
 |.int _=>true
 |_=>false
def isB:V->Bool
 |.bl _=>true
 |_=>false
def Kn(p:Addr)(H:Hp):V->Prop
 |.non=>True
 |.bl _=>True
 |.int _=>True
 |.str _=>True
 |.ref a=>a≠p/\((∃xs,H a=some (.tup xs))∨(∃xs,H a=some (.lst xs))∨∃kvs,H a=some (.dK kvs))
 |_=>False
def KnD(p:Addr):Nat->Hp->V->Prop
 |0,H,x=>Kn p H x
 |n+1,H,x=>Kn p H x/\∀xs,Qf3 H x=some xs->∀y∈xs,KnD p n H y
def KX(p:Addr)(H H':Hp):Prop:=∀b o,b≠p->H b=some o->H' b=some o
theorem KX.refl(p:Addr)(H:Hp):KX p H H:=λ_ _ _ e=>e
theorem KX.of{p:Addr}{H H':Hp}(h:Same H H'):KX p H H':=λb o _ e=>h b o e
theorem KX.new{p q:Addr}{H:Hp}{o:HO}(h:H q=none):KX p H (L2.upd H q o):=KX.of (Jk h)
theorem KnD.kn{p:Addr}{H:Hp}{x:V}:∀{n:Nat},KnD p n H x->Kn p H x
 |0,h=>h
 |_+1,h=>h.1
theorem KnD.low{p:Addr}{H:Hp}:∀{n:Nat}{x:V},KnD p (n+1) H x->KnD p n H x
 |0,x,h=>h.1
 |n+1,x,h=>⟨h.1,λxs e y hy=>KnD.low (h.2 xs e y hy)⟩
theorem KnD.tup{p:Addr}{H:Hp}{n:Nat}{a:Addr}{xs:List V}(hp:a≠p)(e:H a=some (.tup xs))(h:∀y∈xs,KnD p n H y):KnD p (n+1) H (.ref a):=
 ⟨⟨hp,.inl ⟨xs,e⟩⟩,λys z y hy=>h y (by
  have z':some xs=some ys:=by rw[<- z,Qi7,e];rfl
  cases z';exact hy)⟩
theorem KnD.int{p:Addr}{H:Hp}(i:Int):∀(n:Nat),KnD p n H (.int i)
 |0=>trivial
 |n+1=>⟨trivial,λ_ e=>nomatch e⟩
theorem Qg3{H:Hp}{a:Addr}{xs:List V}(e:H a=some (.tup xs)):Qf3 H (.ref a)=some xs:=by rw[Qi7,e];rfl
theorem QpE{K:PySem.W.Frag}{p:Addr}{H:Hp}:∀{x:V},Kn p H x->∃t,TyOf K H x t/\PySem.W.kitOne K t (.type "int")=some (isI x||isB x)
 |.non,h=>⟨_,.non,rfl⟩
 |.bl _,h=>⟨_,.bl _,rfl⟩
 |.int _,h=>⟨_,.int _,rfl⟩
 |.str _,h=>⟨_,.str _,rfl⟩
 |.ref a,⟨_,h⟩=>by
  rcases h with⟨xs,e⟩ | ⟨xs,e⟩ | ⟨xs,e⟩
  ·exact⟨_,.tup e,rfl⟩
  ·exact⟨_,.lst e,rfl⟩
  ·exact⟨_,.dK e,rfl⟩
 |.byt _,h=>h.elim
 |.flt _,h=>h.elim
 |.ty _,h=>h.elim
theorem QmT{K:PySem.W.Frag}{p:Addr}{H:Hp}:∀{x:V},Kn p H x->∃t,TyOf K H x t/\PySem.W.kitOne K t (.type "bool")=some (isB x)
 |.non,h=>⟨_,.non,rfl⟩
 |.bl _,h=>⟨_,.bl _,rfl⟩
 |.int _,h=>⟨_,.int _,rfl⟩
 |.str _,h=>⟨_,.str _,rfl⟩
 |.ref a,⟨_,h⟩=>by
  rcases h with⟨xs,e⟩ | ⟨xs,e⟩ | ⟨xs,e⟩
  ·exact⟨_,.tup e,rfl⟩
  ·exact⟨_,.lst e,rfl⟩
  ·exact⟨_,.dK e,rfl⟩
 |.byt _,h=>h.elim
 |.flt _,h=>h.elim
 |.ty _,h=>h.elim
def QrN(H:Hp)(x:V):List Int:=((Qf3 H x).getD []).map λy=>match y with
 |.int i=>i
 |_=>0
def IntsT(H:Hp)(x:V)(ns:List Int):Prop:=∃a,x=.ref a/\H a=some (.tup (ns.map V.int))
theorem IntsT.eq{H:Hp}{x:V}{ns:List Int}(h:IntsT H x ns):QrN H x=ns:=by
 obtain⟨a,rfl,e⟩:=h;unfold QrN;rw[Qg3 e];show(ns.map V.int).map _=ns;rw[Jj];exact Qbp _
theorem JT:bootBuiltins "isinstance" = some (.builtin "isinstance"):=by decide +kernel
theorem Qnw:bootBuiltins "int" = some (.type "int"):=by decide +kernel
theorem QdG:bootBuiltins "bool" = some (.type "bool"):=by decide +kernel
theorem ZE:bootBuiltins "tuple" = some (.type "tuple"):=by decide +kernel
theorem QcD:bootBuiltins "list" = some (.type "list"):=by decide +kernel
theorem QwC:bootBuiltins "str" = some (.type "str"):=by decide +kernel
theorem Qct:bootBuiltins "all" = some (.builtin "all"):=by decide +kernel
theorem Qaj:bootBuiltins "len" = some (.builtin "len"):=by decide +kernel
theorem QwE:bootBuiltins "max" = some (.builtin "max"):=by decide +kernel
theorem QwD:bootBuiltins "min" = some (.builtin "min"):=by decide +kernel
end Rk
namespace L2
theorem Qb1{J:It}{body:V->Hp->(Hp->Prop)->Prop}{Qn:Hp->Prop}{H:Hp}(n:Nat)(Pv:Nat->Hp->Prop)(h0:Pv 0 H)
  (hs:∀i H2,i<n->Pv i H2->J.go i H2/\∀x H3,J.yld i H2 x H3->∀k:Hp->Prop,(∀H6,Pv (i+1) H6->k H6)->body x H3 k)(hd:∀H2,Pv n H2->J.stop n H2/\Qn H2):Qg5 J body Qn H:=by
 refine⟨λi m H=>m=n - i/\i<=n/\Pv i H,⟨n,by simp,Qv _,h0⟩,?_⟩;rintro i m H2 ⟨rfl,hi,p⟩;by_cases hlt:i<n
 ·obtain⟨go,st⟩:=hs i H2 hlt p;exact .inr ⟨go,λx H3 y=>st x H3 y _ λH6 p6=>⟨n - (i+1),by omega,rfl,hlt,p6⟩⟩
 ·have e:i=n:=by omega
  subst e;exact .inl (hd H2 p)
theorem QfL{J:It}{σ:St}{g:TG}{te:TE}{p:Addr}{H1:Hp}{Qn:Hp->Prop}(n:Nat)(hn:n<sizeLine)(F:Nat->Bool)(hp:H1 p=none)
  (hs:∀i H2,i<n->Same H1 H2->J.go i H2/\∀x H3,J.yld i H2 x H3->∀k:VK,(∀H6,Same H2 H6->k (.bl (F i)) H6)->g x σ H3 λσ4 H4=>Wk σ σ4/\te σ4 H4 k)
  (hst:∀H2,Same H1 H2->J.stop n H2)(hq:∀H2,Same H1 H2->H2 p=some (.lst (((Jr n).map F).map V.bl))->Qn H2) :
  Qg5 J (bOf σ g Qib (Qui p te)) Qn (upd H1 p (.lst [])):=by
 refine Qb1 n (λi H2=>Same H1 H2/\H2 p=some (.lst (((Jr i).map F).map V.bl))) ⟨Jk hp,Jm⟩ (λi H2 hi ⟨s2,e2⟩=>?_) λH2 ⟨s2,e2⟩=>⟨hst H2 s2,hq H2 s2 e2⟩
 obtain⟨go,st⟩:=hs i H2 hi s2;refine⟨go,λx H3 y k hk=>?_⟩;refine st x H3 y (λv H6=>∃ys,H6 p=some (.lst ys)/\ys.length<sizeLine/\k (upd H6 p (.lst (ys++[v])))) λH6 s6=>?_
 have e6:=s6 p _ e2;refine⟨_,e6,?_,hk _ ⟨λb o e=>?_,?_⟩⟩
 ·rw[Qe,Qe,Yd];omega
 ·have hb:b≠p:=ZX e hp;rw[JX hb];exact s6 b o (s2 b o e)
 ·rw[Jm,QgM,Q1,Q1];rfl
end L2
namespace Rk
open L2
def QcU(K:PySem.W.Frag):Sp:=λvs H Q _=>∃a ns k,vs=[.ref a,.int k]/\SqL K H a ((ns:List Int).map V.int)/\ns.length<2^20/\0<=k/\∀c,Q (.int c) H
def QuK:Sp:=λvs H Q _=>∃c,vs=[.int c]/\∀p n,H p=none->Q (.ref p) (upd H p (.lst [.int n]))
def Cs(p:Addr)(H:Hp):List V->List (Int×Int)->Prop:=YK λx ij=>∃d,d≠p/\x=.ref d/\H d=some (.tup [.int ij.1,.int ij.2])
theorem Cs.mem{p:Addr}{H:Hp}:∀{ps:List V}{L:List (Int×Int)},Cs p H ps L->∀x∈ps,∃ij∈L,∃d,d≠p/\x=.ref d/\H d=some (.tup [.int ij.1,.int ij.2])
 |_,_,.nil,x,h=>nomatch h
 |_,_,.cons r t,x,h=>by
  rcases QN.mp h with e | e
  ·subst e;exact⟨_,Zi,r⟩
  ·obtain⟨ij,m,q⟩:=Cs.mem t x e;exact⟨ij,Jq _ m,q⟩
def QwM(a b:Int×Int):Prop:=a.1<b.1∨(a.1=b.1/\a.2<b.2)
structure Good (h w:Int) (L:List (Int×Int)):Prop where
 asc:L.Pairwise QwM
 ins:∀x∈L,0<=x.1/\x.1<h/\0<=x.2/\x.2<w
 len:L.length<=36
theorem QjJ(x:Int){m:Int}(h:0<m):0<=x % m/\x % m<m:=⟨Int.emod_nonneg _ (by omega),Int.emod_lt_of_pos _ h⟩
def notStar:Q2->Bool
 |.Starred _ _=>false
 |_=>true
theorem Yj{e:Q2}{es:List Q2}{env:Env}(h:notStar e=true):starEach (e::es) env=(false,eval e env)::starEach es env:=by
 cases e<;>first | rfl | cases h
section
variable{X:Cx}
theorem Qdt{e:Q2}{es:List Q2}{te:TE}{t:TA}(ha:PE X e te)(hr:PA X es t)(hs:notStar e=true:=by rfl):PA X (e::es) (Qew te t):=JH ha hr (Yj hs)
end
def Sm(H:Hp)(x:V):Prop:=∀ps,Qf3 H x=some ps->ps.length<sizeLine
def Part(p:Addr)(H:Hp)(x:V):Prop:=KnD p 2 H x/\Sm H x
def Thing(p:Addr)(H:Hp)(x:V):Prop:=KnD p 3 H x/\Sm H x/\∀xs,Qf3 H x=some xs->∀y∈xs,Sm H y
theorem QuB{H:Hp}{a:Addr}{xs ys:List V}(e:H a=some (.tup xs))(z:Qf3 H (.ref a)=some ys):ys=xs:=by
 rw[Qg3 e] at z;cases z;rfl
theorem Part.tup{p:Addr}{H:Hp}{a:Addr}{xs:List V}(hp:a≠p)(e:H a=some (.tup xs))(hl:xs.length<sizeLine)(h:∀y∈xs,KnD p 1 H y):Part p H (.ref a):=
 ⟨KnD.tup hp e h,λps z=>by rw[QuB e z];exact hl⟩
theorem Thing.part{p:Addr}{H:Hp}{x:V}(h:Thing p H x):Part p H x:=⟨h.1.low,h.2.1⟩
theorem Qwa{P:V->Prop}:∀y∈([]:List V),P y:=λ_ h=>nomatch h
theorem Qm2{P:V->Prop}{a:V}{l:List V}(h:P a)(k:∀y∈l,P y):∀y∈a::l,P y:=λy hy=>by
 rcases QN.mp hy with e | e
 ·subst e;exact h
 ·exact k y e
theorem Cs.kn{p:Addr}{H:Hp}{ps:List V}{L:List (Int×Int)}(h:Cs p H ps L):∀x∈ps,KnD p 1 H x:=λx hx=>by
 obtain⟨ij,_,d,n,rfl,e⟩:=h.mem x hx;exact KnD.tup n e (Qm2 (KnD.int _ 0) (Qm2 (KnD.int _ 0) Qwa))
theorem Cs.part{p:Addr}{H:Hp}{c:Addr}{ps:List V}{L:List (Int×Int)}(n:c≠p)(e:H c=some (.tup ps))(hl:ps.length<sizeLine)(h:Cs p H ps L):Part p H (.ref c):=Part.tup n e hl h.kn
theorem Qbk{n:Nat}(h:n<=1000):n<sizeLine:=YH h (by decide)
def Fine(p:Addr):Nat->Hp->V->Prop
 |0,H,x=>Kn p H x/\Sm H x
 |n+1,H,x=>Kn p H x/\Sm H x/\∀xs,Qf3 H x=some xs->∀y∈xs,Fine p n H y
theorem Fine.kn{p:Addr}{H:Hp}{x:V}:∀{n:Nat},Fine p n H x->Kn p H x
 |0,h=>h.1
 |_+1,h=>h.1
theorem Fine.knd{p:Addr}{H:Hp}:∀{n:Nat}{x:V},Fine p n H x->KnD p n H x
 |0,_,h=>h.1
 |_+1,_,h=>⟨h.1,λxs e y hy=>(h.2.2 xs e y hy).knd⟩
theorem Fine.thing{p:Addr}{H:Hp}{x:V}(h:∀n,Fine p n H x):Thing p H x:=⟨(h 3).knd,(h 0).2,λxs e y hy=>((h 1).2.2 xs e y hy).2⟩
section
variable{X:Cx}
theorem Qip{e:List Q2}{t t':TA}(h:PA X e t)(k:∀σ H Q,t' σ H Q->t σ H Q):PA X e t':=λpos pins s σ H Q I q=>h pos pins s σ H Q I (k σ H Q q)
end
def QxG(t:TA):TE:=λσ H Q=>t σ H λxs H1=>xs.length<=1000/\∀a H2,Same H1 H2->H1 a=none->H2 a=some (.tup xs)->Q (.ref a) H2
def QxL(t:TA):TE:=λσ H Q=>t σ H λxs H1=>xs.length<=1000/\∀a H2,Same H1 H2->H1 a=none->H2 a=some (.lst xs)->Q (.ref a) H2
section
variable{X:Cx}
theorem QlX{es:List Q2}{t:TA}{x1}{pos:Pos}(h:PA X es t):PE X (.Tuple es x1 pos) (QxG t):=by
 intro pins s σ H Q I hq;refine wpAny_Tuple_spliced (thn (h pos pins s σ H _ I hq) λus s1 ⟨xs,H1,I1,r,z,q⟩=>⟨by rw[<- r.length];exact Z5 (Qbk z),?_⟩);have hf:H1 s1.heap.objs.size=none:=I1.hok.fresh (Qk _);refine⟨.ref s1.heap.objs.size,upd H1 s1.heap.objs.size (.tup xs),I1.laid (t':=s1.toks) (λb u e=>Qf _ e) (Qk _) ?_,rfl,q _ _ (Jk hf) hf Jm⟩;exact⟨Z5 (Qbk z),us,r,⟨_,QP _ rfl,rfl,_,rfl⟩⟩
theorem QbG{es:List Q2}{t:TA}{pos:Pos}(h:PA X es t):PE X (.List es pos) (QxL t):=by
 intro pins s σ H Q I hq;refine QwN (thn (h pos pins s σ H _ I hq) λus s1 ⟨xs,H1,I1,r,z,q⟩=>⟨by rw[<- r.length];exact Z5 (Qbk z),?_⟩);have hf:H1 s1.heap.objs.size=none:=I1.hok.fresh (Qk _);refine⟨.ref s1.heap.objs.size,upd H1 s1.heap.objs.size (.lst xs),I1.laid (t':=s1.toks) (λb u e=>Qf _ e) (Qk _) ?_,rfl,q _ _ (Jk hf) hf Jm⟩;exact⟨Z5 (Qbk z),us,0,r,QP _ rfl⟩
def QxX:R2:=λx y H Q=>∃l b xs zs,x=.ref l/\y=.ref b/\H l=some (.lst xs)/\H b=some (.lst zs)/\xs.length+zs.length<=1000/\∀a H2,Same H H2->H a=none->H2 a=some (.lst (xs++zs))->Q (.ref a) H2
theorem QeI:OpR X (binaryOp .Add) QxX:=λpins s σ H x y v u Q I rx ry ⟨l,b,xs,zs,e1,e2,h1,h2,hl,k⟩=>
 QrC pins s σ H x y v u Q I rx ry ⟨l,b,xs,zs,e1,e2,h1,h2,Z5 (Qbk hl),λa ha=>k a _ (Jk ha) ha Jm⟩
end
def FineA(p:Addr)(H:Hp)(x:V):Prop:=∀n,Fine p n H x
theorem FineA.thing{p:Addr}{H:Hp}{x:V}(h:FineA p H x):Thing p H x:=Fine.thing h
theorem FineA.part{p:Addr}{H:Hp}{x:V}(h:FineA p H x):Part p H x:=(Fine.thing h).part
end Rk
namespace Rx
open PySem.Calls L2 PySem.W Builtin Builtin.ObjectAttr Builtin.Getset_descriptor
def ExAt(a C:Addr)(h:Za):Prop:=∃o vs,h.get? a=some o/\o.cls=.ref C/\o.data=.fields vs
theorem ExAt.ty{M:Qj2}{h:Za}{a C:Addr}(x:ExAt a C h):Looks M h (typeOf (.ref a)) (.ref C):=by
 obtain⟨o,vs,e,c,_⟩:=x;exact c ▸ (Looks.ld e).andThen .now
structure ExC (K:PySem.W.Frag) (C:Addr):Prop where
 ga:findIn K (.ref C) "__getattribute__" = some (some (.builtin "BaseException.__getattribute__"))
 hk:findIn K (.ref C) "__getattr__" = some none
 bas:mroIn K C (.type "BaseException")=some true
 cls:(clsIn K C).isSome=true
 att:findIn K (.ref C) "__class__" = some (some (.builtin "object.__class__"))
 spc:specialIn K (.builtin "object.__class__") "__get__" = some (some (.builtin "getset_descriptor.__get__"))
 tks:takesIn K (.builtin "object.__class__")=some true
 mro:mroIn K C (.type "object")=some true
section
variable{prog:QB}{w:Jl}{A:Q9}{E:Value->Shared->Prop}{s:Shared}{K:PySem.W.Frag}{a C:Addr}
theorem QtM{M:Qj2}{h:Za}(X:K.In h)(c:ExC K C):Looks M h (find (.ref a) (.ref C) "__class__") (.bind (.builtin "getset_descriptor.__get__") (.builtin "object.__class__")):=by
 have l1:=Qr1 (M:=M) X c.att;have l2:=looks_specialIn (M:=M) X c.spc;have l3:=looks_takesIn (M:=M) X c.tks;have l4:Looks M h (dataDescriptor? (some (.builtin "object.__class__")) (some (.builtin "getset_descriptor.__get__"))) (some (.builtin "getset_descriptor.__get__",.builtin "object.__class__")):=l3.andThen .now;exact l1.andThen (l2.andThen (l4.andThen (Looks.tag .now)))
theorem Qwd{R:Qr5->Shared->Prop}{tp:Value}(X:K.In s.heap)(I:ExAt a C s.heap)(c:ExC K C)(h:R (.ok (.ret (.ref C))) s) :
  codeAny (model prog w) A (.call (.builtin "getset_descriptor.__get__") ⟨[.builtin "object.__class__",.ref a,tp],[]⟩) R s:=by
 obtain⟨h0,g0,d0,t0,o0⟩:=s;have la:=I.ty (M:=model prog w);have lb:=looks_mroIn (M:=model prog w) X c.mro;refine Qt9 KF.slot_gs.plain KF.entry_gs (KF.slot_gs.check _ _ _ _ _ _ _ _ KF.type_class (KF.args_gs _ _ _) ?_);unfold QcQ.«getset_descriptor.__get__»;unfold descrGet;rw[dga_obj];refine wpAny_bind (Qg ?_);unfold descrGetter;unfold descrCheckInstance;unfold descrNameAndClass;unfold isInstance;simp only[KF.owner_class]
 repeat lk
 refine⟨Code.quiet_builtin _ (by decide +kernel),codeAny_builtin KF.entry_class ?_⟩;unfold QcQ.«object.__class__»;unfold shownTypeOf
 repeat lk
 exact h
theorem QpN{M:Qj2}{nameV:Value}{Q:Unit->Shared->Prop}(X:K.In s.heap)(I:ExAt a C s.heap)(c:ExC K C)(hq:Q () s):wpAny M A (checkBuiltinCall "BaseException.__getattribute__" ⟨[.ref a,nameV],[]⟩) Q E s:=by
 have hk:builtinKind "BaseException.__getattribute__" = some .slot:=by decide +kernel
 have hsplit:splitId "BaseException.__getattribute__" = some ("BaseException", "__getattribute__"):=by decide +kernel
 have ha:=F.args_bexc_ga (.ref a) nameV;have la:=I.ty (M:=M);have lb:=looks_mroIn (M:=M) X c.bas;have li:Looks M s.heap (isInstance (.ref a) (.type "BaseException")) true:=la.andThen lb;simp only[checkBuiltinCall,hk,hsplit];refine wpAny_bind (li.at ?_)
 repeat (first | exact hq | wp_step)
theorem QpM{Q:Option Value->Shared->Prop}(X:K.In s.heap)(I:ExAt a C s.heap)(c:ExC K C)(h:Q (some (.ref C)) { s with toks:=s.toks+1 }):wpAny (model prog w) A (getAttr? (.ref a) "__class__") Q E s:=by
 obtain⟨h0,g0,d0,t0,o0⟩:=s;have la:=I.ty (M:=model prog w);have lb:=Qr1 (M:=model prog w) X c.ga;have lc:=Qr1 (M:=model prog w) X c.hk;have ld:=QtM (M:=model prog w) (a:=a) X c;have f3:=Qp6.ga.bind (.ref a);have hx2:(onTheHeap (JP C)&&QdR "BaseException.__getattribute__" == QdR "object.__getattribute__")=false:=by
  have e:(QdR "BaseException.__getattribute__" == QdR "object.__getattribute__")=false:=by decide +kernel
  rw[e];rfl
 unfold getAttr?;unfold getAttrBy?;unfold getAttrBy;refine wpAny_bind (wpAny_mkText (wpAny_bind (QcM (J7 (wpAny_bind (la.at (wpAny_bind (lb.at ?_))))))));simp only[hx2,Qal,if_false];unfold getAttrByItsOwn;refine wpAny_bind (m:=hookBefore (.ref C)) ?_
 show wpAny _ _ (typeLookup (.ref C) "__getattr__") _ _ _;refine lc.at ?_
 refine wpAny_bind (QcM (J7 ?_));show wpAny _ _ (boundAndCalled _ _ _) _ _ _;unfold boundAndCalled;rw[f3];refine wpAny_bind (Qg ?_);refine Qd3 (Qt9 Qp6.ga.plain F.entry_bexc_ga (QpN X I c ?_));unfold QcQ.«object.__getattribute__»;refine wpAny_bind (Qg (wpAny_bind (Qg (wpAny_bind (la.at (wpAny_bind (ld.at ?_)))))));show wpAny _ _ (bindTo (.builtin "getset_descriptor.__get__") (.builtin "object.__class__") (.ref a) (.ref C)) _ _ _;unfold bindTo;refine wpAny_bind (J7 (Qd3 (Qwd (s:=⟨h0,g0,d0,t0+1,o0⟩) X I c ?_)));exact Qg (handed_on rfl (Qg h))
theorem QtD(c:ExC K C):KitX K (.ref a) (.ref C) (ExAt a C) where
 ty:=λ_ _ _ I=>I.ty
 it:=λ_ _ X _=>by
  have q:=c.cls;unfold clsIn at q;split at q
  ·rename_i ho
   intro A' Q' E' s' k z;unfold isType loadHead;exact wpAny_bind (wpAny_loadPart (k _ _ (X _ _ ho)) (Qg z))
  ·cases q
 ne:=λh tp dd its n sl X htp=>by
  have q:=c.cls;refine Bool.eq_false_iff.mpr λz=>?_
  cases Value.ref.inj (beq_iff_eq.mp z);unfold clsIn at q;split at q
  ·rename_i ho
   cases(X _ _ ho).symm.trans htp
  ·cases q
 ca:=λX I k=>QpM X I c k
end
end Rx
namespace Rx
open PySem.Calls L2
abbrev mroV:List Value:=[.type "ValueError",.type "Exception",.type "BaseException",.type "object"]
def QwJ(h:Za)(C:Addr):Prop:=∃bm N nm q bs hdct sn sub ab col dd k0 k1 k2 k3 k5 mN,
 h.get? C=some (excClassObj nm q C N bs bm hdct sn sub ab col dd k0 k1 k2 k3 k5 "ValueError.__new__")/\h.Ns N mN/\mN "__init__" = none/\OwnTail h mroV bm
theorem Qlz{K:PySem.W.Frag}{h:Za}{C:Addr}(X:K.In h)(q:PySem.W.excIn K C mroV "ValueError.__new__" = true):QwJ h C:=by
 unfold PySem.W.excIn at q;split at q;next dd cd sl ho=>
  split at q;next C' bm k0 k1 k2 k3 n k5 hm hs=>
   obtain⟨q,e6⟩:=Qo.mp q;obtain⟨q,e5⟩:=Qo.mp q;obtain⟨q,e4⟩:=Qo.mp q;obtain⟨q,e3⟩:=Qo.mp q;obtain⟨e1,e2⟩:=Qo.mp q;cases beq_iff_eq.mp e1;cases beq_iff_eq.mp e2;rcases cd with⟨c1,c2,c3,c4,c5,c6,c7,c8,c9,ca,cb⟩
   rcases sl with⟨sl⟩
   have e7:cb=false:=by
    cases cb with
    |false=>rfl
    |true=>cases e3
   have hm:c3=.ref C::bm:=hm;have hs:sl=[k0,k1,k2,k3,some (.builtin "ValueError.__new__"),k5]:=hs;subst hm hs e7;have hn:h.Ns c4 (h.nsMap c4):=.of_isNs (PySem.W.isNs_of_in X e5);exact⟨_,_,_,_,_,_,_,_,_,_,_,_,_,_,_,_,_,X _ _ ho,hn,PySem.W.nsMap_none_of_in X e5 (beq_iff_eq.mp e6),PySem.W.tail_of_in X e4⟩
  next=>cases q
 next=>cases q
theorem obj_there{P:QB}{w:Jl}{H:Hp}{h:Za}{a:Addr}{o:HO}(x:ObjOk P w H h a o):∃u,h.get? a=some u:=by
 cases o with
 |lst xs=>obtain⟨_,_,_,_,e⟩:=x;exact⟨_,e⟩
 |tup xs=>obtain⟨_,_,_,p⟩:=x;obtain⟨_,e,_⟩:=p;exact⟨_,e⟩
 |dK kvs=>obtain⟨_,_,_,_,o,_,_,e,_⟩:=x;exact⟨_,e⟩
 |dT kvs=>obtain⟨_,_,_,_,o,_,_,e,_⟩:=x;exact⟨_,e⟩
 |set S n=>obtain⟨o,_,_,_,e,_⟩:=x;exact⟨_,e⟩
 |ins C dx fs=>obtain⟨_,_,_,e,_⟩:=x;exact⟨_,e⟩
 |own y=>exact x
 |xd fs=>obtain⟨_,⟨_,_,_,e,_⟩,_⟩:=x;exact⟨_,e⟩
 |rng lo hi=>obtain⟨_,_,_,e⟩:=x;exact⟨_,e⟩
 |frz ob u=>exact⟨_,x.1⟩
 |tbl ps=>exact⟨_,x⟩
 |met f y=>exact⟨_,x⟩
 |ext φ=>exact x.2.1
def Fly(P:QB)(w:Jl)(outer:List Env)(H:Hp)(s:Shared)(C:Addr)(H':Hp)(e:Value)(s':Shared):Prop:=
 ∃(a t:Addr)(B:Za),e=.ref a/\s'.os=s.os/\QdX s'.gens/\Qxz B outer a (.ref C) (.ref t) s'.heap/\s.heap.get? a=none/\H' a=none /\
  ∀h2:Za,B.StaysIn h2->s'.heap.UpToSlots h2->Un (frs outer) [] H H' s.heap h2/\HOk P w H' h2
def CXE(P:QB)(w:Jl):CXT:=λouter H s E e s'=>∃C H',Fly P w outer H s C H' e s'/\E (.ref C) none H'
def Qra(E:XK)(C:Addr)(te:TE):TS:=λ_ σ H=>te σ H λ_ H1=>E (.ref C) none H1
section
variable{X:Cx}{E:XK}{C:Addr}{x:Str}{e0:Q2}{te:TE}{np cpos pos:Pos}
theorem Qwb{pins:List (Addr×Obj)}{σ:L2.St}{H:Hp}{s:Shared}{h1:Za}{a:Addr}{vs:List Value}{M:Qj2}{EE:Value->Shared->Prop}(I:Inv X pins σ H s)(hstk:X.stack=X.env::X.outer)(hfr:X.env.frame=some X.env.locals)(hex:X.ex=[])
  (hx:Heap.MadeExcOf s.heap h1 a (.ref C) vs) :
  wpAny M X.A (leaving X.env (.ref a)) (λ_ s2=>Fly X.prog X.w X.outer X.H₀ X.s₀ C H (.ref a) s2) EE { s with heap:=h1 }:=by
 have fr:X.A.frames=some (X.env::X.outer):=by rw[<- hstk];exact I.ok.frames
 have ff:s.heap.FunFrames X.base (X.env::X.outer):=by rw[<- hstk];exact I.stack
 have hin:∀env∈X.env::X.outer,∀b,env.frame=some b->b∈frs (X.env::X.outer):=λenv he b hb=>YD.mpr ⟨env,he,hb⟩
 refine wpAny_leaves_madeW (base:=PySem.W.hideAll s.heap (frs (X.env::X.outer))) (h:=s.heap) (L:=X.env.locals) fr hfr (λb o q=>PySem.W.of_hideAll _ q) (PySem.W.funFrames_hide ff hin) hx λh' t x1 x2 x3 x4=>?_
 have nex:∀b:Addr,b∉X.ex:=λb=>by rw[hex];simp
 have free0:X.s₀.heap.get? a=none:=by
  cases q:X.s₀.heap.get? a with
  |none=>rfl
  |some o=>
   obtain⟨o',e⟩:=I.base.there a o q (nex a);rw[hx.new] at e;cases e
 have freeH:H a=none:=by
  cases q:H a with
  |none=>rfl
  |some o=>
   obtain⟨u,e⟩:=obj_there (I.hok a o q);rw[hx.new] at e;cases e
 have stf:∀b∈frs (X.env::X.outer),H b=none:=λb hb=>I.stkFree b (by rw[hstk];exact hb)
 refine⟨a,t,_,rfl,I.os,I.bare,x1,free0,freeH,λh2 st up=>?_⟩;have up2:s.heap.UpToSlots h2:=((QwW hx.keeps).trans x4).trans up;have kp:∀b o,s.heap.get? b=some o->b∉frs (X.env::X.outer)->h2.get? b=some o:=λb o e n=>st b o (PySem.W.hideAll_get _ e n)
 have own:∀b o,X.s₀.heap.get? b=some o->b≠X.env.locals:=λb o e z=>by
  have h1:=Qs e;have h2:=I.ok.above;rw[z] at h1;exact absurd (QL h1 h2) (Yq _)
 have nfr:∀b o,X.s₀.heap.get? b=some o->b∉frs X.outer->b∉frs (X.env::X.outer):=λb o e n hb=>by
  unfold frs at hb n;rw[Ym,hfr] at hb;rcases QN.mp hb with z | z
  ·exact own b o e z
  ·exact n z
 have hdat:∀b∈frs X.outer,∀o,s.heap.get? b=some o->∀vs,o.data≠.fields vs:=λb hb o e=>by
  obtain⟨_,o',ho',hd⟩:=I.funs.mem hb;rw[e] at ho';cases ho';exact hd
 refine⟨⟨λb o e n hb _=>kp b o (I.base.keep b o e n hb (nex b)) (nfr b o e hb),λb o e n hb _=>?_,λb o e n _=>I.base.free b o e n (nex b),λb o e _=>?_,I.base.tups,I.base.frzs,I.base.tbls⟩,λb o e=>?_⟩
 ·obtain⟨sl,e1⟩:=I.base.slot b o e n hb (nex b);obtain⟨sl2,e2⟩:=up2 b _ e1 (hdat b hb _ e1);exact⟨sl2,e2⟩
 ·obtain⟨o',e1⟩:=I.base.there b o e (nex b);by_cases hb:b∈frs X.outer
  ·obtain⟨sl2,e2⟩:=up2 b _ e1 (hdat b hb _ e1);exact⟨_,e2⟩
  ·exact⟨o',kp b o' e1 (nfr b o e hb)⟩
 ·refine(I.hok b o e).stay (λc u hc q=>kp c u q λhm=>?_) (λ_ q=>q) λ_ _ q=>q
  have z:=stf c hm;rcases hc with r | r
  ·rw[r,e] at z;cases z
  ·rw[r] at z;cases z
theorem QoC(hxe:∀e s1,wpAny (model X.prog X.w) X.A (leaving X.env e) (λ_ s2=>CXE X.prog X.w X.outer X.H₀ X.s₀ E e s2) (λe' s2=>CXE X.prog X.w X.outer X.H₀ X.s₀ E e' s2) s1->X.xe e s1)
  (hstk:X.stack=X.env::X.outer)(hfr:X.env.frame=some X.env.locals)(hex:X.ex=[])(hc:X.calm=true)(hg:Gl X x)(hm:X.mg x=some (.ref C))(q:PySem.W.excIn X.K C mroV "ValueError.__new__" = true)
  (ha:PE X e0 te)(he:starEach [e0] X.env=[(false,eval e0 X.env)]:=by rfl)(hd:(x == ("__debug__" : Str))=false:=by decide) :
  PS X (.Raise (some (.Call (.Name x np) [e0] [] cpos)) none pos) (Qra E C te):=by
 intro pins s σ H D I h;obtain⟨bm,N,nm,qn,bs,hdct,sn,sub,ab,col,dd,k0,k1,k2,k3,k5,mN,hC,hN,hni,T⟩:=Qlz I.ok.mod.kin q;refine wpAny_Raise_call_subT (k5:=k5) (k3:=k3) (k2:=k2) (k1:=k1) (k0:=k0) (dd:=dd) (col:=col) (ab:=ab) (sub:=sub) (sn:=sn) (hdct:=hdct) (bs:=bs) (N:=N) (q:=qn) (nm:=nm) (C:=C) PySem.F.excBase_ValueError (T.hasType PySem.F.excBase_ValueError.hasBase) (I.ok.hd hc) (by rw[he];rfl) hni (Qdv I hg hm ?_ hd);refine⟨rfl,?_⟩;rw[he];refine QkV (QnX (thn (ha pins s σ H _ I h) λu s1 ⟨v,H1,I1,r1,q1⟩=>Qob ⟨rfl,by show 1<=sizeLine;decide,I1.bk _ _ hC,hN.keeps I1.bk,T.keeps I1.bk,λh' e hx=>?_⟩));exact hxe _ _ (thn (Qwb I1 hstk hfr hex hx) λ_ s2 z=>⟨C,H1,z,q1⟩)
end
def exO(a C:Addr):HO:=.ext (ExAt a C)
structure ByC (K:PySem.W.Frag) (C R:Addr):Prop where
 ty:PySem.W.typeIn K (.ref R)=some (.type "type")
 cls:(PySem.W.clsIn K R).isSome=true
 base:PySem.W.mroIn K R (.type "BaseException")=some true
 sub:PySem.W.mroIn K C (.ref R)=some true
theorem Qkf{K:PySem.W.Frag}{M:Qj2}{h:Za}{R:Addr}(X:K.In h)(c:(PySem.W.clsIn K R).isSome=true):PySem.W.Looks M h (isType (.ref R)) true:=by
 unfold PySem.W.clsIn at c;split at c
 ·rename_i ho
  intro A' Q' E' s' k z;unfold isType loadHead;exact wpAny_bind (wpAny_loadPart (k _ _ (X _ _ ho)) (Qg z))
 ·cases c
theorem Qkp{M:Qj2}{A:Q9}{E:Value->Shared->Prop}{K:PySem.W.Frag}{a C R:Addr}{s:Shared}{Q:Bool->Shared->Prop}(X:K.In s.heap)(I:ExAt a C s.heap)(c:ByC K C R)(h:Q true s) :
  wpAny M A (excMatches (.ref a) (.ref R)) Q E s:=by
 obtain⟨h0,g0,d0,t0,o0⟩:=s;have l1:=PySem.W.looks_typeIn (M:=M) X c.ty;have l2:=Qkf (M:=M) X c.cls;have l3:=PySem.W.looks_mroIn (M:=M) X c.base;have l4:=PySem.W.looks_mroIn (M:=M) X c.sub;have l5:=I.ty (M:=M);have l6:PySem.W.Looks M h0 (isSubtype (.type "type") (.type "tuple")) false:=PySem.W.Looks.of_pure tc_notTuple;unfold excMatches isExcClass isInstance
 repeat (first | lk | exact h)
abbrev mkd (X:Cx) (e:Value):Cx:={ X with A:=X.A.mark (some e),calm:=false,xe:=λ_ _=>False }
section
variable{X:Cx}{pins:List (Addr×Obj)}{σ:L2.St}{H:Hp}{s:Shared}
theorem QmS(I:Inv X pins σ H s)(e:Value):Inv (mkd X e) pins σ H s:=
 ⟨⟨I.ok.mod,I.ok.kind,I.ok.glob,I.ok.blt,I.ok.above,I.ok.inj,I.ok.has,I.ok.cab,(λh=>nomatch h),I.ok.frames,I.ok.stk,I.ok.exf,I.ok.bs,I.ok.bsz,I.ok.noex,I.ok.exfs,I.ok.funs,I.ok.frf⟩,I.os,I.bare,I.base,I.loc,I.cell,I.free,I.freeC,I.pin,I.hok,I.len⟩
theorem QpC{e:Value}(ok:X.Ok)(I:Inv (mkd X e) pins σ H s):Inv X pins σ H s:=⟨ok,I.os,I.bare,I.base,I.loc,I.cell,I.free,I.freeC,I.pin,I.hok,I.len⟩
theorem QmR{a C:Addr}(I:Inv X pins σ H s)(hf:H a=none)(h0:X.s₀.heap.get? a=none)(hp:∀p∈X.pn++pins,p.1≠a)(x:ExAt a C s.heap):Inv X pins σ (upd H a (exO a C)) s:=by
 obtain⟨o,vs,ho,hcl,hd⟩:=id x;have ne:∀b u,H b=some u->b≠a:=λb u e z=>by rw[z,hf] at e;cases e
 refine⟨I.ok,I.os,I.bare,⟨I.base.keep,I.base.slot,λb u e n hx=>?_,I.base.there,λb xs e=>?_,λb u xs e=>?_,λb ps e=>?_⟩,I.loc,I.cell,?_,λy c e=>?_,λp hp'=>?_,λb u e=>?_,I.len⟩
 ·rw[JX (λz=>by rw[z,h0] at e;cases e)];exact I.base.free b u e n hx
 ·have q:=I.base.tups b xs e;rw[JX (ne b _ q)];exact q
 ·have q:=I.base.frzs b u xs e;rw[JX (ne b _ q)];exact q
 ·obtain⟨m,q⟩:=I.base.tbls b ps e;exact⟨m,by rw[JX (ne b _ q)];exact q⟩
 ·obtain⟨m,⟨oL,es,ep,hoL,hdL,_⟩,_⟩:=I.loc;rw[JX (λz=>by rw[z,ho] at hoL;cases hoL;rw[hd] at hdL;cases hdL)];exact I.free
 ·obtain⟨v,oc,hoc,hdc⟩:=I.cell y c e;rw[JX (λz=>by rw[z,ho] at hoc;cases hoc;rw[hd] at hdc;cases hdc)];exact I.freeC y c e
 ·obtain⟨e,n,r⟩:=I.pin p hp';exact⟨e,by rw[JX (hp p hp')];exact n,r⟩
 ·by_cases hb:b=a
  ·subst hb;rw[Jm] at e;cases e;exact⟨x,⟨o,ho⟩,λh1 h2 y k=>by
    obtain⟨o',vs',e',c',d'⟩:=y;exact⟨o',vs',k _ e',c',d'⟩⟩
  ·rw[JX hb] at e;exact(I.hok b u e).stay (λ_ _ _ q=>q) (λc q=>by rw[JX (ne c _ q)];exact q) λc xs q=>by rw[JX (ne c _ q)];exact q
theorem QpD{i:Nat}{n:Str}{m:Str->Option Value}{v:Option Value}{h':Za}{tk:Nat}(I:Inv X pins σ H s)(hN:X.N.Nodup)(hi:X.N[i]? = some n)
  (hm:∀(j:Nat)(x:Str)(u:V),X.N[j]? = some x->σ[j]? = some (some u)->Vis X.env.scope x->∃y,RelV u y/\Look X.env s.heap m x y)
  (hn:h'.Ns X.env.locals (λx=>if x=n then v else m x))(hs:QaI X.env.locals s.heap h'):Inv X pins (σ.set i none) H { s with heap:=h',toks:=tk }:=by
 have neL:∀b o,X.s₀.heap.get? b=some o->b≠X.env.locals:=λb o e=>QJ (QL (Qs e) I.ok.above)
 have cne:=I.cne;refine⟨I.ok,I.os,I.bare,⟨λb o e z hb hx=>(hs.2 b (neL b o e)).trans (I.base.keep b o e z hb hx),λb o e z hb hx=>?_,I.base.free,λb o e hx=>?_,I.base.tups,I.base.frzs,I.base.tbls⟩,⟨_,hn,λj y u e1 e2 e3=>?_⟩,λy c e=>?_,I.free,I.freeC,λp hp=>?_,λb o e=>?_,?_⟩
 ·obtain⟨sl,e1⟩:=I.base.slot b o e z hb hx;exact⟨sl,(hs.2 b (neL b o e)).trans e1⟩
 ·obtain⟨o',e1⟩:=I.base.there b o e hx;exact⟨o',(hs.2 b (neL b o e)).trans e1⟩
 ·by_cases hj:j=i
  ·subst hj;rw[Qp4] at e2;split at e2
   ·split at e2<;>cases e2
   ·exact absurd rfl ‹¬_›
  ·rw[Qa2 (Qdc hj)] at e2;obtain⟨u',r',q⟩:=hm j y u e1 e2 e3;refine⟨u',r',?_⟩;rcases q with⟨k,e⟩ | ⟨k,c,e,z⟩
   ·have:y≠n:=λe=>hj (Qgl hN e1 (e ▸ hi))
    exact .inl ⟨k,by simp[this,e]⟩
   ·exact .inr ⟨k,c,e,z.sameBut hs (cne y c e)⟩
 ·obtain⟨w',z⟩:=I.cell y c e;exact⟨w',z.sameBut hs (cne y c e)⟩
 ·obtain⟨e,z,ne,nf,d⟩:=I.pin p hp;exact⟨(hs.2 p.1 ne).trans e,z,ne,nf,d⟩
 ·refine(I.hok b o e).stay (λc u hc q=>(hs.2 c ?_).trans q) (λ_ q=>q) λ_ _ q=>q
  rintro rfl;have z:=I.free;rcases hc with r | r
  ·rw[r,e] at z;cases z
  ·rw[r] at z;cases z
 ·rw[ZG];exact I.len
end
def XP(X:Cx)(pins:List (Addr×Obj))(Ex:L2.St->Addr->Hp->Prop)(e:Value)(s1:Shared):Prop:=
 ∃(σ:L2.St)(C:Addr)(H':Hp)(a t:Addr)(B:Za),e=.ref a/\Qxz B X.stack a (.ref C) (.ref t) s1.heap/\H' a=none/\X.s₀.heap.get? a=none/\(∀p∈X.pn++pins,p.1≠a) /\
  (∀(h2:Za)(tk:Nat),B.StaysIn h2->s1.heap.UpToSlots h2->Inv X pins σ H' { s1 with heap:=h2,toks:=tk })/\Ex σ C H'
abbrev TX:=L2.St->Hp->VK->(Addr->Hp->Prop)->Prop
def PEX(X:Cx)(e:Q2)(t:TX):Prop:=∀(pins:List (Addr×Obj))(s:Shared)(σ:L2.St)(H:Hp)(Q:VK)(Ex:Addr->Hp->Prop),Inv X pins σ H s->t σ H Q Ex ->
 wpAny (model X.prog X.w) X.A (eval e X.env) (EP X pins σ Q) (XP X pins λσ1 C H1=>σ1=σ/\Ex C H1) s
def QuH(sp:Sp)(t:TA):TX:=λσ H Q Ex=>t σ H λvs H1=>sp vs H1 Q λcv _ H2=>∃C,cv=.ref C/\Ex C H2
section
variable{X:Cx}{k:Nat}{f:Addr}{fd:QQ}{ps:List Str}{sp:Sp}{x:Str}{p pos:Pos}{e:Q2}{es:List Q2}{t:TA}
theorem QoF(F:FnOk X.prog X.w X.K X.mg X.base (CXE X.prog X.w) k f fd ps sp)(hr:Room k X.A)(hg:Gl X x)(hm:X.mg x=some (.ref f))(hk:PySem.W.keepIn X.K (.ref f)=true)(hb:Binds X.K fd ps [])(hex:X.ex=[])
  (ha:PA X.nox (e::es) t)(hdb:(x == ("__debug__" : Str))=false:=by decide)(he:starEach (e::es) X.env=(false,eval e X.env)::starEach es X.env:=by rfl)(hpl:(backTo pos (starEach es X.env)).any (·.1)=false:=by rfl) :
  PEX X (.Call (.Name x p) (e::es) [] pos) (QuH sp t):=by
 intro pins s σ H Q Ex I h;refine YS (Qdv I hg hm ?_ hdb);refine PySem.W.callWith_K (h₀:=X.base) I.ok.mod.kin hk (wpAny_mono (ha pos pins s σ H _ (I.wish _) h) (λus s1 ⟨vs,H1,J1,r,q⟩=>?_) λ_ _ z=>Jx z) he hpl;have I1:Inv X pins σ H1 s1:=J1.unwish;refine⟨I1.kIn,?_⟩;have hl:us.length=ps.length:=by rw[<- r.length];exact F.len _ _ _ _ q
 have hbb:QdW s1 fd ⟨us,[]⟩ (ps.zip us):=by
  have z:=hb s1 us I1.kIn (by rw[Ji];exact hl);rw[Ji] at z;exact z
 refine Qd3 (Qbe (F.run X.A X.stack s1 H1 ⟨us,[]⟩ us vs Q _ hr I1.env0 hbb r q) λr s2 hq=>?_);cases r with
 |error e=>
  obtain⟨C0,H2,⟨a,t',B,rfl,os,bare,fl,fa,fH,land⟩,C,eC,ex⟩:=hq;cases eC;refine⟨σ,C0,H2,a,t',B,rfl,fl,fH,?_,λp hp z=>?_,λh2 tk st up=>?_,rfl,ex⟩
  ·cases z:X.s₀.heap.get? a with
   |none=>rfl
   |some o=>
    obtain⟨o',e'⟩:=I1.base.there a o z (by rw[hex];simp);rw[fa] at e';cases e'
  ·have e':=(I1.pin p hp).1;rw[z,fa] at e';cases e'
  ·obtain⟨un,hok⟩:=land h2 st up;exact I1.call' (s':={ s2 with heap:=h2,toks:=tk }) (ch:=[]) os un hok bare (λb z=>absurd z (by simp))
 |ok fl=>
  cases fl with
  |ret u=>exact I1.after hq
  |next=>exact Jx hq
  |brk=>exact Jx hq
  |cont=>exact Jx hq
end
section
variable{X:Cx}{R:Addr}{i:Nat}{n r:Str}{call hx:Q2}{tc:TX}{th:TE}{rp np hp hpos pos:Pos}
end
structure QnO (k:Nat) (A:Q9):Prop where
 dp:A.depth+3*k+5<recursionLimit
 un:A.units+16*k+200<cLine
theorem Room.m{k:Nat}{A:Q9}(r:Room k A)(e:Value):QnO k (A.mark (some e)):=⟨r.dp,r.un⟩
structure FnM (P:QB) (w:Jl) (K:PySem.W.Frag) (mg:Str->Option Value) (base:Za) (k:Nat) (f:Addr) (fd:QQ) (ps:List Str) (sp:Sp):Prop where
 len:∀vs H Q E,sp vs H Q E->vs.length=ps.length
 run:∀(A:Q9)(outer:List Env)(s:Shared)(H:Hp)(args:Args)(us:List Value)(vs:List V)(Q:VK)(E:XK),QnO k A->Env0 P w K mg base A outer s H->QdW s fd args (ps.zip us)->Vals vs us->sp vs H Q E ->
  codeAny (model P w) A (.call (.ref f) args) (CR CX0 outer P w H s Q E) s
def cxM(P:QB)(w:Jl)(K:PySem.W.Frag)(mg:Str->Option Value)(base:Za)(N:List Str)(qual:Str)(scope:Yp)(f:Addr)(cd:Value)(A:Q9)(outer:List Env)(s:Shared)(H:Hp)(E:XK):Cx:=
 { cxOf CX0 P w K mg base N qual scope f cd A outer s H E with calm:=false,xe:=λ_ _=>False }
section
variable{P:QB}{w:Jl}{K:PySem.W.Frag}{mg:Str->Option Value}{base:Za}
theorem QkB{N ps:List Str}{qual:Str}{scope:Yp}{f:Addr}{cd:Value}{A:Q9}{outer:List Env}{s s1:Shared}{H:Hp}{E:XK}{us:List Value}{vs:List V}
  (S:Jy N ps scope)(e0:Env0 P w K mg base A outer s H)(hl:vs.length=ps.length)(r:Vals vs us)
  (x:InCallC s s.heap.objs.size (bindL (envOfC qual scope s.heap.objs.size f cd).kindOf (ps.zip us) λ_=>none) (cellsFrom (s.heap.objs.size+1) scope.names []) (bindC (envOfC qual scope s.heap.objs.size f cd).kindOf (ps.zip us) λ_=>none) s1) :
  L2.Inv (cxM P w K mg base N qual scope f cd A outer s H E) [] (start N vs) H s1:=by
 have e1:Env0 P w K mg base { A with handled:=none } outer s H:=⟨e0.frames,e0.mod,e0.bs,e0.bsz,e0.funs,e0.frf,e0.hok,e0.bare⟩;have I:=Qhy (CX:=CX0) (E:=E) (A:={ A with handled:=none }) S rfl e1 hl r x;exact⟨⟨I.ok.mod,I.ok.kind,I.ok.glob,I.ok.blt,I.ok.above,I.ok.inj,I.ok.has,I.ok.cab,(λh=>nomatch h),I.ok.frames,I.ok.stk,I.ok.exf,I.ok.bs,I.ok.bsz,I.ok.noex,I.ok.exfs,I.ok.funs,I.ok.frf⟩,I.os,I.bare,I.base,I.loc,I.cell,I.free,I.freeC,I.pin,I.hok,I.len⟩
theorem okM{x qual:Str}{st:Z4}{f:Addr}{fd:QQ}{N ps:List Str}{k:Nat}{sp:Sp}(F:Fun K x qual st f fd)(S:Jy N ps (Qt st))(len:∀vs H Q E,sp vs H Q E->vs.length=ps.length)
  (hbody:∀(cdv:Value)(A:Q9)(outer:List Env)(s:Shared)(H:Hp)(vs:List V)(Q:VK)(E:XK),QnO k (A.deeper (envOfC qual (Qt st) s.heap.objs.size f cdv))->sp vs H Q E ->
   ∃t,PSs (cxM P w K mg base N qual (Qt st) f cdv A outer s H E) (Js st) t/\t { nx:=λ_ H'=>Q .non H',rt:=Q } (start N vs) H):FnM P w K mg base (k+1) f fd ps sp:=by
 obtain⟨oc,od,kV,doc,pm,an,cdv,ct,osl,rfl,lk,hcd⟩:=F.ex;refine⟨len,λA outer s H args us vs Q E hr e0 hb r hsp=>?_⟩;have hl:=len _ _ _ _ hsp;have KX:K.In s.heap:=e0.mod.kin.keeps λb o e=>(e0.bs b o e).1
 have lim:s.heap.NoLimit:=e0.mod.nolimit.keeps λb o e=>(e0.bs b o e).1
 have hkind:∀y∈ps.zip us,(Qt st).names.lookup y.1=some .local∨((Qt st).names.lookup y.1=some .cell/\((cellsFrom (s.heap.objs.size+1) (Qt st).names []).lookup y.1).isSome=true):=λ⟨n,v⟩ hy=>by
  rcases S.par n (QcG hy).1 with q | q
  ·exact .inl q
  ·exact .inr ⟨q,PySem.W.cellsFrom_some _ _ _ (.inl q)⟩
 have hdp:A.depth<recursionLimit:=by have:=hr.dp;omega
 refine Qr4 hdp (KX _ _ lk) rfl S.co S.gen rfl (PySem.W.codeRec_of KX hcd) (hb _ _ _ _ ?_);refine QkN S.kind hkind λenv he s1 x=>?_
 subst he;refine⟨lim.keeps x.toInCall.keep,codeAny_func ?_⟩;have hr2:QnO k (A.deeper (envOfC qual (Qt st) s.heap.objs.size f cdv)):=⟨by have:=hr.dp;show A.depth+1+3*k+5<_;omega,by have:=hr.un;show A.units+3+16*k+200<_;omega⟩;obtain⟨t,ht,hq⟩:=hbody cdv A outer s H vs Q E hr2 hsp;have I:=QkB (E:=E) S e0 hl r x;refine wpAny_mono (ht [] s1 (start N vs) H _ I hq) (λfl s' hs=>?_) λe s' hs=>Jx hs
 have fin:∀{σ':L2.St}{H':Hp}{v:V}{u:Value},L2.Inv (cxM P w K mg base N qual (Qt st) f cdv A outer s H E) [] σ' H' s'->RelV v u->Q v H'->CE outer P w H s Q u s':=
  λ{σ' H' v u} J rv q=>⟨v,H',J.os,J.bare,J.base,J.hok,rv,q⟩
 cases fl with
 |ret u=>
  obtain⟨v,σ',H',J,rv,q⟩:=hs;exact fin J rv q
 |next=>
  obtain⟨σ',H',J,q⟩:=hs;exact fin (v:=V.non) (u:=ZH) J rfl q
 |brk=>
  obtain⟨_,_,_,q⟩:=hs;exact Jx q
 |cont=>
  obtain⟨_,_,_,q⟩:=hs;exact Jx q
end
section
variable{X:Cx}{k:Nat}{f:Addr}{fd:QQ}{ps:List Str}{sp:Sp}{x:Str}{p pos:Pos}{e:Q2}{es:List Q2}{t:TA}
theorem QoL(F:FnM X.prog X.w X.K X.mg X.base k f fd ps sp)(hr:QnO k X.A)(hg:Gl X x)(hm:X.mg x=some (.ref f))(hk:PySem.W.keepIn X.K (.ref f)=true)(hb:Binds X.K fd ps [])
  (ha:PA X (e::es) t)(hdb:(x == ("__debug__" : Str))=false:=by decide)(he:starEach (e::es) X.env=(false,eval e X.env)::starEach es X.env:=by rfl)(hpl:(backTo pos (starEach es X.env)).any (·.1)=false:=by rfl) :
  PE X (.Call (.Name x p) (e::es) [] pos) (λσ H Q=>t σ H λvs H1=>sp vs H1 Q E0):=by
 intro pins s σ H Q I h;refine YS (Qdv I hg hm ?_ hdb);refine PySem.W.callWith_K (h₀:=X.base) I.ok.mod.kin hk (thn (ha pos pins s σ H _ I h) λus s1 ⟨vs,H1,I1,r,q⟩=>⟨I1.kIn,?_⟩) he hpl;have hl:us.length=ps.length:=by rw[<- r.length];exact F.len _ _ _ _ q
 have hbb:QdW s1 fd ⟨us,[]⟩ (ps.zip us):=by
  have z:=hb s1 us I1.kIn (by rw[Ji];exact hl);rw[Ji] at z;exact z
 refine Qd3 (Qbe (F.run X.A X.stack s1 H1 ⟨us,[]⟩ us vs Q _ hr I1.env0 hbb r q) λr s2 hq=>?_);cases r with
 |error e=>exact Jx hq
 |ok fl=>
  cases fl with
  |ret u=>exact I1.after hq
  |next=>exact Jx hq
  |brk=>exact Jx hq
  |cont=>exact Jx hq
end
section
variable{X:Cx}
theorem QhI:CallR X (.builtin "isinstance") (λxs H Q=>∃a C y c b,xs=[.ref a,y]/\H a=some (exO a C)/\ExC X.K C/\(∀u,RelV y u->u=c)/\PySem.W.kitOne X.K (.ref C) c=some b/\Q (.bl b) H):=by
 intro pins s σ H xs us Q I r h;obtain⟨a,C,y,c,b,rfl,ha,hc,hy,e,q⟩:=h;obtain⟨u,v,rfl,ru,rv⟩:=vals2 r;cases(show u=JP a from ru);cases hy v rv;exact PySem.W.kia_one (QtD hc) I.kIn (I.hok a _ ha).1 e (λz=>nomatch z) λtk=>⟨.bl b,H,I.tok tk,rfl,q⟩
theorem bools_eq{bs:List Bool}{us:List Value}(r:Vals (bs.map V.bl) us):us=bs.map ZP:=by
 induction bs generalizing us with
 |nil=>cases r;rfl
 |cons b bs ih=>
  cases r with
  |cons r t=>
   cases(show _=ZP b from r);rw[ih t];rfl
def Qdy:Value->Bool
 |.bool b=>b
 |_=>false
theorem QkH(bs:List Bool):(bs.map ZP).countP Qdy=bs.countP id:=by
 rw[List.countP_map];exact List.countP_congr λb _=>Iff.rfl
def Qsv:V->List V->Hp->VK->Prop:=λx vs H Q=>∃(l:Addr)(bs:List Bool),x=.ref l/\vs=[.bl true]/\H l=some (.lst (bs.map V.bl))/\Q (.int (bs.countP id:Nat)) H
theorem Qpu:MtR X "list.count" Qsv:=by
 intro pins s σ H x vs v us Q I rx rv h;obtain⟨l,bs,rfl,rfl,hH,q⟩:=h;cases rx;obtain⟨u,rfl,ru⟩:=rv.one;cases(show u=ZP true from ru);obtain⟨z,its,n,r,hl,e⟩:=I.lstM hH;have hi:=bools_eq r;subst hi;refine QbO F.slot_list_count ⟨_,e,rfl⟩ F.entry_list_count (F.args_list_count_2 _ _) (SeqAt.list_countAt l (bs.map ZP).toArray n none #[] (.bool true) Qdy) ⟨e,λy hy=>?_,?_⟩
 ·obtain⟨b,_,rfl⟩:=Qw.mp (Y9.mp hy);have:=QgW (A:=X.A.in1) (s:=s) b true;rw[show(b == true)=b by cases b<;>rfl] at this;exact this
 ·have e2:((bs.map ZP).toArray.toList.countP Qdy:Nat)=bs.countP id:=QkH bs;rw[e2];exact⟨.int (bs.countP id:Nat),H,I.tok _,⟨_,rfl⟩,q⟩
def Qst:V->List V->Hp->VK->Prop:=λx vs H Q=>∃(l:Addr)(bs:List Bool)(j:Nat),x=.ref l/\vs=[.bl true]/\H l=some (.lst (bs.map V.bl))/\bs[j]? = some true/\(∀m,m<j->bs[m]? = some false)/\Q (.int (j:Nat)) H
theorem Qpt:MtR X "list.index" Qst:=by
 intro pins s σ H x vs v us Q I rx rv h;obtain⟨l,bs,j,rfl,rfl,hH,hj,hm,q⟩:=h;cases rx;obtain⟨u,rfl,ru⟩:=rv.one;cases(show u=ZP true from ru);obtain⟨z,its,n,r,hl,e⟩:=I.lstM hH;have hi:=bools_eq r;subst hi;have hlt:=(QU.mp hj).1;have hsz:(bs.map ZP).toArray.size=bs.length:=by simp
 rw[Qe] at z;have hbig:bs.length<2^60:=YH z (by decide);refine QbO F.slot_list_index ⟨_,e,rfl⟩ F.entry_list_index (F.args_list_index_2 _ _) (SeqAt.list_indexAt l (bs.map ZP).toArray n none #[] (.bool true) Qdy j (by rw[hsz];exact hlt) (by omega) ?_ ?_) ⟨e,λy hy=>?_,?_⟩
 ·have:=(QU.mp hj).2;simp[Qdy,this]
 ·intro m hm1 hm2;have:=(QU.mp (hm m hm2)).2;simp[Qdy,this]
 ·obtain⟨b,_,rfl⟩:=Qw.mp (Y9.mp hy);have:=QgW (A:=X.A.in1) (s:=s) b true;rw[show(b == true)=b by cases b<;>rfl] at this;exact this
 ·exact⟨.int (j:Nat),H,I.tok _,⟨_,rfl⟩,q⟩
end
end Rx
namespace Rd
open L2
mutual
inductive Dat (H:Hp):V->Qa->Prop
 |non:Dat H .non .none
 |bl (b:Bool):Dat H (.bl b) (.bool b)
 |int (i:Int):Dat H (.int i) (.int i)
 |str (x:Str):YY (.str x)=true->Dat H (.str x) (.str x)
 |tup {a:Addr} {xs:List V} {ds:List Qa}:H a=some (.tup xs)->Dats H xs ds->Dat H (.ref a) (.tuple ds)
 |lst {a:Addr} {xs:List V} {ds:List Qa}:H a=some (.lst xs)->Dats H xs ds->Dat H (.ref a) (.list ds)
inductive Dats (H:Hp):List V->List Qa->Prop
 |nil:Dats H [] []
 |cons {x:V} {xs:List V} {d:Qa} {ds:List Qa}:Dat H x d->Dats H xs ds->Dats H (x::xs) (d::ds)
end
mutual
theorem Yi{P:QB}{w:Jl}{H:Hp}{h:Za}(ok:HOk P w H h):∀(d:Qa)(x:V)(v:Value),Dat H x d->RelV x v->(∃as,Qbs h v d as)/\d.canLay0=true
 |.none,_,v,.non,r=>by cases r;exact⟨⟨_,.none⟩,rfl⟩
 |.bool b,_,v,.bl _,r=>by cases r;exact⟨⟨_,.bool b⟩,rfl⟩
 |.int i,_,v,.int _,r=>by obtain⟨t,rfl⟩:=r;exact⟨⟨_,.int i t⟩,rfl⟩
 |.str z,_,v,.str _ c,r=>by obtain⟨t,rfl⟩:=r;exact⟨⟨_,.str z t⟩,c⟩
 |.tuple ds,_,v,.tup (a:=a) (xs:=xs) e q,r=>by
  cases r;obtain⟨_,its,rv,o,ho,hc,n,hd⟩:=ok a _ e;obtain⟨⟨as,ra⟩,cl⟩:=Y4 ok ds xs its q rv;exact⟨⟨as,.tuple ho hc hd ra⟩,cl⟩
 |.list ds,_,v,.lst (a:=a) (xs:=xs) e q,r=>by
  cases r;obtain⟨_,its,n,rv,ho⟩:=ok a _ e;obtain⟨⟨as,ra⟩,cl⟩:=Y4 ok ds xs its q rv;exact⟨⟨a::as,.list ho rfl rfl ra⟩,cl⟩
 |.dict _,_,_,q,_=>nomatch q
theorem Y4{P:QB}{w:Jl}{H:Hp}{h:Za}(ok:HOk P w H h):∀(ds:List Qa)(xs:List V)(vs:List Value),Dats H xs ds->Vals xs vs->(∃as,YT h vs ds as)/\Jd ds=true
 |[],_,vs,.nil,r=>by cases r;exact⟨⟨_,.nil⟩,rfl⟩
 |d::ds,_,vs,.cons (x:=x) (xs:=xs) q qs,r=>by
  cases r with
  |cons r rs=>
   obtain⟨⟨a1,r1⟩,c1⟩:=Yi ok d x _ q r;obtain⟨⟨a2,r2⟩,c2⟩:=Y4 ok ds xs _ qs rs;exact⟨⟨_,.cons r1 r2⟩,by simp[Jd,c1,c2]⟩
end
mutual
theorem QjM{H H':Hp}(s:Same H H'):∀(d:Qa)(x:V),Dat H x d->Dat H' x d
 |.none,_,.non=>.non
 |.bool _,_,.bl _=>.bl _
 |.int _,_,.int _=>.int _
 |.str _,_,.str _ c=>.str _ c
 |.tuple ds,_,.tup (xs:=xs) e q=>.tup (s _ _ e) (Qc4 s ds xs q)
 |.list ds,_,.lst (xs:=xs) e q=>.lst (s _ _ e) (Qc4 s ds xs q)
 |.dict _,_,q=>nomatch q
theorem Qc4{H H':Hp}(s:Same H H'):∀(ds:List Qa)(xs:List V),Dats H xs ds->Dats H' xs ds
 |[],_,.nil=>.nil
 |d::ds,_,.cons (x:=x) (xs:=xs) q qs=>.cons (QjM s d x q) (Qc4 s ds xs qs)
end
theorem Dat.same{H H':Hp}{x:V}{d:Qa}(q:Dat H x d)(s:Same H H'):Dat H' x d:=QjM s d x q
theorem Dats.same{H H':Hp}{xs:List V}{ds:List Qa}(q:Dats H xs ds)(s:Same H H'):Dats H' xs ds:=Qc4 s ds xs q
theorem Dats.length{H:Hp}:∀{xs:List V}{ds:List Qa},Dats H xs ds->xs.length=ds.length
 |_,_,.nil=>rfl
 |_,_,.cons _ q=>by rw[QC,QC,q.length]
theorem Dats.get{H:Hp}:∀{xs:List V}{ds:List Qa},Dats H xs ds->∀(i:Nat)(x:V),xs[i]? = some x->∃d,ds[i]? = some d/\Dat H x d
 |_,_,.nil,i,x,e=>by simp at e
 |_,_,.cons q qs,0,x,e=>by simp at e;subst e;exact⟨_,rfl,q⟩
 |_,_,.cons q qs,i+1,x,e=>qs.get i x (by simpa using e)
section
variable{X:Cx}
def QzF(X:Cx):R2:=λx y H Q=>∃dx dy,Dat H x dx/\Dat H y dy/\X.A.units+min dx.depth dy.depth<cLine/\Q (.bl (Ja dx dy)) H
theorem Qmg:OpR X (compareOp .Eq) (QzF X):=by
 intro pins s σ H x y v u Q I rx ry h;obtain⟨dx,dy,qx,qy,hu,q⟩:=h;obtain⟨⟨as,ra⟩,ca⟩:=Yi I.hok dx x v qx rx;obtain⟨⟨bs,rb⟩,cb⟩:=Yi I.hok dy y u qy ry;exact SeqAt.compareEq_reads ra rb ca cb hu ⟨.bl _,H,I,rfl,q⟩
open Classical in
noncomputable def eqH (h:Za) (d:Qa) (y:Value):Bool:=decide (∃e as,Qbs h y e as/\e.canLay0=true/\Ja e d=true)
open Classical in
theorem Qyu{h:Za}{d:Qa}{y:Value}(q:∃e as,Qbs h y e as/\e.canLay0=true/\Ja e d=true):eqH h d y=true:=by
 unfold eqH;exact decide_eq_true q
open Classical in
theorem Qyv{h:Za}{d:Qa}{y:Value}(q:¬ ∃e as,Qbs h y e as/\e.canLay0=true/\Ja e d=true):eqH h d y=false:=by
 unfold eqH;exact decide_eq_false q
theorem QrP{h:Za}{d e:Qa}{y:Value}{as:List Addr}(r:Qbs h y e as)(c:e.canLay0=true):eqH h d y=Ja e d:=by
 cases q:Ja e d with
 |true=>exact Qyu ⟨e,as,r,c,q⟩
 |false=>
  refine Qyv λ⟨e',as',r',c',q'⟩=>?_
  rw[<- QaY e e' y as as' c r r',q] at q';cases q'
theorem QeY{h:Za}{d:Qa}:∀{vs:List Value}{ds:List Qa}{as:List Addr},YT h vs ds as->Jd ds=true->vs.any (eqH h d)=ds.any λe=>Ja e d
 |_,_,_,.nil,_=>rfl
 |_,_,_,.cons r rs,c=>by
  simp only[Jd,JJ] at c;rw[Qce,Qce,QrP r c.1,QeY rs c.2]
theorem QeM{A:Q9}{s:Shared}{d:Qa}{v:Value}{bs:List Addr}(rv:Qbs s.heap v d bs)(cv:d.canLay0=true):∀{vs:List Value}{ds:List Qa}{as:List Addr},YT s.heap vs ds as->Jd ds=true->A.units+d.depth<cLine ->
  ∀u∈vs,SeqAt.EqAt A s u v (eqH s.heap d u)
 |_,_,_,.nil,_,_=>λu hu=>nomatch hu
 |_,_,_,.cons (d:=e) r rs,c,hu=>λu hm=>by
  simp only[Jd,JJ] at c;rcases QN.mp hm with z | z
  ·subst z;rw[QrP r c.1];exact Qe5 e d A s _ v _ bs r rv c.1 cv (YH (Nat.add_le_add_left (QfR _ _) _) hu)
  ·exact QeM rv cv rs c.2 hu u z
def QyW(X:Cx)(neg:Bool):R2:=λx y H Q=>∃c ps ds d,y=.ref c/\H c=some (.tup ps)/\Dats H ps ds/\Dat H x d/\X.A.in1.units+d.depth<cLine/\Q (.bl (if neg then !(ds.any λe=>Ja e d) else ds.any λe=>Ja e d)) H
theorem QvD:OpR X (compareOp .In) (QyW X false):=by
 intro pins s σ H x y v u Q I rx ry h;obtain⟨c,ps,ds,d,rfl,hc,qs,qx,hu,q⟩:=h;cases ry;obtain⟨⟨as,ra⟩,ca⟩:=Yi I.hok d x v qx rx;obtain⟨_,its,rv,tp⟩:=I.hok c _ hc;obtain⟨⟨bs,rb⟩,cb⟩:=Y4 I.hok ds ps its qs rv;refine SeqAt.in_tupleAt (eqH s.heap d) tp (λw hw=>QeM ra ca rb cb hu w (Y9.mp hw)) ⟨.bl _,H,I,rfl,?_⟩;rw[show its.toArray.any (eqH s.heap d)=its.any (eqH s.heap d) by simp,QeY rb cb];exact q
theorem Qma:OpR X (compareOp .NotIn) (QyW X true):=by
 intro pins s σ H x y v u Q I rx ry h;obtain⟨c,ps,ds,d,rfl,hc,qs,qx,hu,q⟩:=h;cases ry;obtain⟨⟨as,ra⟩,ca⟩:=Yi I.hok d x v qx rx;obtain⟨_,its,rv,tp⟩:=I.hok c _ hc;obtain⟨⟨bs,rb⟩,cb⟩:=Y4 I.hok ds ps its qs rv;refine SeqAt.notIn_tupleAt (eqH s.heap d) tp (λw hw=>QeM ra ca rb cb hu w (Y9.mp hw)) ⟨.bl _,H,I,rfl,?_⟩;rw[show its.toArray.any (eqH s.heap d)=its.any (eqH s.heap d) by simp,QeY rb cb];exact q
end
theorem Qi4:∀{ts:List String}{us:List Value},Vals (ts.map V.ty) us->us=ts.map YN
 |[],_,.nil=>rfl
 |t::ts,_,.cons r q=>by
  cases(show _=YN t from r);rw[Qi4 q];rfl
section
variable{X:Cx}
theorem QkK:CallR X (.builtin "isinstance") (λxs H Q=>∃(x:V)(t:Value)(tp:Addr)(ts:List String)(b:Bool)(d:Qa),xs=[x,.ref tp]/\H tp=some (.tup (ts.map V.ty))/\Rd.Dat H x d/\TyOf X.K H x t/\PySem.W.kitAny X.K t (ts.map YN)=some b/\Q (.bl b) H):=by
 intro pins s σ H xs us Q I r h;obtain⟨x,t,tp,ts,b,d,rfl,htp,dat,ty,e,q⟩:=h;obtain⟨u,v,rfl,ru,rv⟩:=vals2 r;cases(show v=JP tp from rv);obtain⟨_,its,rt,⟨oc,od,oda,osl⟩,ho,hc,n,hd⟩:=I.hok tp _ htp;cases Qi4 rt
 dsimp only at hc hd
 subst hc hd;have fin:∀tk,EP X pins σ Q (.bool b) { s with toks:=tk }:=λtk=>⟨.bl b,H,I.tok tk,rfl,q⟩
 cases dat with
 |non=>cases(show u=ZH from ru);cases ty;exact PySem.W.kia_tup PySem.W.kitx_none I.kIn Ys ho e (λz=>nomatch z) fin
 |bl y=>cases(show u=ZP y from ru);cases ty;exact PySem.W.kia_tup PySem.W.kitx_bool I.kIn Ys ho e (λz=>nomatch z) fin
 |int i=>obtain⟨t,z⟩:=(show ∃t,u=Qcw i t from ru);cases z;cases ty;exact PySem.W.kia_tup PySem.W.kitx_int I.kIn Ys ho e (λz=>nomatch z) fin
 |str y _=>obtain⟨t,z⟩:=(show ∃t,u=QfP y t from ru);cases z;cases ty;exact PySem.W.kia_tup PySem.W.kitx_str I.kIn Ys ho e (λz=>nomatch z) fin
 |@tup a xs ds ea _=>
  cases(show u=JP a from ru);obtain⟨_,_,_,p⟩:=(show ObjOk X.prog X.w H s.heap a (.tup xs) from I.hok a _ ea);obtain⟨o,h1,h2,_⟩:=p;have et:t=.type "tuple" := by
   cases ty<;>first | rfl | (rename_i e';rw[ea] at e';cases e') | skip
  subst et;exact PySem.W.kia_tup PySem.W.kitx_tuple I.kIn ⟨o,h1,h2⟩ ho e (λz=>nomatch z) fin
 |@lst a xs ds ea _=>
  cases(show u=JP a from ru);obtain⟨_,_,n',_,h1⟩:=(show ObjOk X.prog X.w H s.heap a (.lst xs) from I.hok a _ ea);have et:t=.type "list" := by
   cases ty<;>first | rfl | (rename_i e';rw[ea] at e';cases e') | skip
  subst et;exact PySem.W.kia_tup PySem.W.kitx_list I.kIn ⟨_,h1,rfl⟩ ho e (λz=>nomatch z) fin
end
end Rd
namespace L2
section
variable{X:Cx}
end
section
variable{prog:QB}{w:Jl}{A:Q9}{R:Qr5->Shared->Prop}{s:Shared}
theorem Qg8{elt tg iter:Q2}{ifs:List Q2}{g0:QcP}{scope:Yp}{pos:Pos}{it acc:Value}{env:Env}
  (h0:codeAny (model prog w) A (.compLoop (.ListComp elt [g0,⟨tg,iter,ifs,0⟩] scope pos) 1 it acc env) R s)
  (h:wpAny (model prog w) A (pyIter it) (λit' s'=>codeAny (model prog w) A (.compLoop (.ListComp elt [g0,⟨tg,iter,ifs,0⟩] scope pos) 1 it' acc env) R s') (notedBy (model prog w) A env λx s'=>R (.error x) s') s) :
  codeAny (model prog w) A (.compStart (.ListComp elt [g0,⟨tg,iter,ifs,0⟩] scope pos) 1 it acc env) R s:=by
 refine codeAny_of_tree ?_
 show wpAny _ _ ((compStart (.ListComp elt [g0,⟨tg,iter,ifs,0⟩] scope pos) 1 it acc env).onRaise (λx=>do noteFrame x env;standAt theWindowsPlace)) _ _ s;refine wpAny_notedAt ?_
 unfold compStart;show wpAny _ _ (ask >>= _) _ _ s;refine wpAny_bind (wpAny_askSetting (wpAny_ite ?_));split
 ·first
   |exact wpAny_bind (Qg (Qg ⟨rfl,h0⟩))
   |exact Qg ⟨rfl,h0⟩
 ·first
   |exact wpAny_bind (wpAny_rule (wpAny_bind (wpAny_standAt (wpAny_bind (wpAny_mono h (λit' s' h'=>Qg ⟨rfl,h'⟩) λ_ _ x=>x)))))
   |exact wpAny_bind (wpAny_rule (wpAny_bind (wpAny_standAt (wpAny_bind (wpAny_mono h (λit' s' h'=>Qg (Qg ⟨rfl,h'⟩)) λ_ _ x=>x)))))
end
theorem Qla{Y:Cx}{elt tg iter:Q2}{ifs:List Q2}{g0:QcP}{scope:Yp}{cpos:Pos}{it D:Addr}(Q:PySem.Fin->Shared->Prop)(E:Value->Shared->Prop)(s:Shared)
  (h:wpAny (model Y.prog Y.w) Y.A (pyNext (.ref it)) (λr s1=>match r with
   |none=>Q (.done .next) s1
   |some v=>wpAny (model Y.prog Y.w) Y.A (letOwnedTupleGo tg (.ref it) v) (λ_ s2=>QnJ Y tg ifs (QnM Y elt D) v (λs3=>Q (.again (.compLoop (.ListComp elt [g0,⟨tg,iter,ifs,0⟩] scope cpos) 1 (.ref it) (.ref D) Y.env)) s3) s2) E s1) E s) :
  wpAny (model Y.prog Y.w) Y.A (compTurn (.ListComp elt [g0,⟨tg,iter,ifs,0⟩] scope cpos) 1 (.ref it) (.ref D) Y.env) Q E s:=by
 have e:compTurn (.ListComp elt [g0,⟨tg,iter,ifs,0⟩] scope cpos) 1 (.ref it) (.ref D) Y.env=(do
   standAt iter.pos
   match <- pyNext (.ref it) with
   |none=>pure (.done .next)
   |some v=>
    letOwnedTupleGo tg (.ref it) v
    assign tg Y.env v
    let mut ok:=true
    for c in ifs do
     if ok then ok <- isTrue c Y.env (eval c Y.env)
    if ok then
     (do let _ <- call (.builtin "list.append") [.ref D,<- eval elt Y.env])
    again (.compLoop (.ListComp elt [g0,⟨tg,iter,ifs,0⟩] scope cpos) 1 (.ref it) (.ref D) Y.env)):=by rfl
 rw[e];refine wpAny_bind (wpAny_standAt (wpAny_bind (thn h λr s1 h1=>?_)));cases r with
 |none=>exact Qg h1
 |some v=>
  refine wpAny_bind (thn h1 λ_ s2 h2=>?_);refine wpAny_bind (wpAny_mono h2 (λ_ s4 h4=>wpAny_bind (wpAny_mono h4 (λok s5 h5=>?_) λ_ _ f=>f.elim)) λ_ _ f=>f.elim);cases ok with
  |false=>exact Qg h5
  |true=>exact wpAny_bind (wpAny_bind (wpAny_mono h5 (λx s6 h6=>wpAny_bind (wpAny_mono h6 (λ_ s7 h7=>Qg (Qg h7)) λ_ _ f=>f.elim)) λ_ _ f=>f.elim))
def QnK(Y:Cx)(e:Q2)(iter:Q2)(D:Addr):Act:=λQ s=>wpAny (model Y.prog Y.w) Y.A (eval iter Y.env) (λx s1=>wpAny (model Y.prog Y.w) Y.A (pyIter x)
 (λitv s2=>codeAny (model Y.prog Y.w) Y.A (.compStart e 1 itv (.ref D) Y.env) (λr s3=>match r with | .ok _=>Q s3 | .error _=>False) s2) (λ_ _=>False) s1) (λ_ _=>False) s
def QwF(wi:TI)(g:TG)(tc:TT)(p:Addr)(te:TE):St->Hp->(Hp->Prop)->Prop:=λσ H k=>wi σ H λJ H1=>Qg5 J (bOf σ g tc (Qui p te)) k H1
theorem QhK{Y:Cx}{σ:St}{elt tg iter:Q2}{ifs:List Q2}{g0:QcP}{scope:Yp}{cpos:Pos}{D:Addr}{wi:TI}{g:TG}{tc:TT}{te:TE}(hx:Y.xe=λ_ _=>False)(hc:Y.calm=true)
  (hi:PI Y tg iter wi)(hg:PG Y tg g)(ht:PTs Y ifs tc)(he:PE Y elt te):BodyOk Y σ (QnK Y (.ListComp elt [g0,⟨tg,iter,ifs,0⟩] scope cpos) iter D) (QwF wi g tc D te σ):=by
 intro pins s H k Q I h hQ;have hx':∀(v:Value)(s':Shared),Y.xe v s'->False:=λv s' z=>by rw[hx] at z;exact z
 refine wpAny_mono (hi pins s σ H _ I h) (λv s1 h1=>wpAny_mono h1 (λitv s2 h2=>?_) hx') hx';obtain⟨it,fp,tn,J,H2,e,I2,T,st2,f2,hW⟩:=h2;subst e;have loop:codeAny (model Y.prog Y.w) Y.A (.compLoop (.ListComp elt [g0,⟨tg,iter,ifs,0⟩] scope cpos) 1 (.ref it) (.ref D) Y.env) (λr s3=>match r with | .ok _=>Q s3 | .error _=>False) s2:=
  Qb4 (Y:=Y) (gens:=[g0,⟨tg,iter,ifs,0⟩]) (d:=1) hc T st2 f2 (λQ E s h=>Qla Q E s h) (λx u r=>QdH hx hg ht (λσ4=>QgG hx he) x u r) I2 hW λs' H' I' q=>hQ s' H' I' q
 exact Qg8 loop (T.self _ 0 _ _ _ st2 loop)
theorem Qfm{Y:Cx}{elt tg iter tg2 iter2:Q2}{ifs ifs2:List Q2}{scope:Yp}{cpos:Pos}{it D:Addr}(hs:∀x,foldedSetIterable iter2 Y.env x=pure x)(Q:PySem.Fin->Shared->Prop)(E:Value->Shared->Prop)(s:Shared)
  (h:wpAny (model Y.prog Y.w) Y.A (pyNext (.ref it)) (λr s1=>match r with
   |none=>Q (.done .next) s1
   |some v=>wpAny (model Y.prog Y.w) Y.A (letOwnedTupleGo tg (.ref it) v) (λ_ s2=>QnJ Y tg ifs (QnK Y (.ListComp elt [⟨tg,iter,ifs,0⟩,⟨tg2,iter2,ifs2,0⟩] scope cpos) iter2 D) v (λs3=>Q (.again (.compLoop (.ListComp elt [⟨tg,iter,ifs,0⟩,⟨tg2,iter2,ifs2,0⟩] scope cpos) 0 (.ref it) (.ref D) Y.env)) s3) s2) E s1) E s) :
  wpAny (model Y.prog Y.w) Y.A (compTurn (.ListComp elt [⟨tg,iter,ifs,0⟩,⟨tg2,iter2,ifs2,0⟩] scope cpos) 0 (.ref it) (.ref D) Y.env) Q E s:=by
 have e:compTurn (.ListComp elt [⟨tg,iter,ifs,0⟩,⟨tg2,iter2,ifs2,0⟩] scope cpos) 0 (.ref it) (.ref D) Y.env=(do
   standAt iter.pos
   match <- pyNext (.ref it) with
   |none=>pure (.done .next)
   |some v=>
    letOwnedTupleGo tg (.ref it) v
    assign tg Y.env v
    let mut ok:=true
    for c in ifs do
     if ok then ok <- isTrue c Y.env (eval c Y.env)
    if ok then
     let x <- eval iter2 Y.env
     standAt iter2.pos
     let x <- foldedSetIterable iter2 Y.env x
     let _ <- runOwn (.compStart (.ListComp elt [⟨tg,iter,ifs,0⟩,⟨tg2,iter2,ifs2,0⟩] scope cpos) 1 (<- holding [x] (pyIter x)) (.ref D) Y.env) Y.env
    again (.compLoop (.ListComp elt [⟨tg,iter,ifs,0⟩,⟨tg2,iter2,ifs2,0⟩] scope cpos) 0 (.ref it) (.ref D) Y.env)):=by rfl
 rw[e];refine wpAny_bind (wpAny_standAt (wpAny_bind (thn h λr s1 h1=>?_)));cases r with
 |none=>exact Qg h1
 |some v=>
  refine wpAny_bind (thn h1 λ_ s2 h2=>?_);refine wpAny_bind (wpAny_mono h2 (λ_ s4 h4=>wpAny_bind (wpAny_mono h4 (λok s5 h5=>?_) λ_ _ f=>f.elim)) λ_ _ f=>f.elim);cases ok with
  |false=>exact Qg h5
  |true=>
   refine wpAny_bind (wpAny_mono h5 (λx s6 h6=>wpAny_bind (wpAny_standAt ?_)) λ_ _ f=>f.elim);rw[hs x];refine wpAny_bind (Qg (wpAny_bind (J7 (wpAny_mono h6 (λitv s7 h7=>?_) λ_ _ f=>f.elim))));refine wpAny_bind (wpAny_runOwn (h:=none) (Qbe h7 λr s8 h8=>?_));cases r with
   |error z=>exact h8.elim
   |ok fl=>exact Qg h8
def Qlc(cap:List (Option Nat))(wi:TI)(g:TG)(tc:TT)(wi2:TI)(g2:TG)(tc2:TT)(te:TE):TE:=λσ H Q=>wi σ H λJ H1=>∀p,H1 p=none->Qg5 J (bOf (Qde cap σ) g tc (QwF wi2 g2 tc2 p te)) (Q (.ref p)) (upd H1 p (.lst []))
theorem QlZ{X:Cx}{M:List Str}{cap:List (Option Nat)}{elt tg iter tg2 iter2:Q2}{ifs ifs2:List Q2}{scope:Yp}{pos:Pos}{wi wi2:TI}{g g2:TG}{tc tc2:TT}{te:TE}(hc:X.calm=true)(ok:QcC X.N X.env.scope M scope cap=true)
  (hi:PI X tg iter wi)(hb:∀cl ex s3 H3 C,PG (blk X M scope cl ex s3 H3 C) tg g/\PTs (blk X M scope cl ex s3 H3 C) ifs tc/\PI (blk X M scope cl ex s3 H3 C) tg2 iter2 wi2/\PG (blk X M scope cl ex s3 H3 C) tg2 g2/\PTs (blk X M scope cl ex s3 H3 C) ifs2 tc2/\PE (blk X M scope cl ex s3 H3 C) elt te)
  (hs:∀x,foldedSetIterable iter X.env x=pure x:=by intro _;rfl)(hs2:∀env x,foldedSetIterable iter2 env x=pure x:=by intro _ _;rfl):PE X (.ListComp elt [⟨tg,iter,ifs,0⟩,⟨tg2,iter2,ifs2,0⟩] scope pos) (Qlc cap wi g tc wi2 g2 tc2 te):=by
 intro pins s σ H Q I h;have c:=CapOk.of ok;rw[eval_ListComp];refine Yo (use:=none) rfl hs (QeW (I.ok.cells c)) c.kind c.loc ?_
 refine thn (hi pins s σ H _ I h) λv s1 h1=>thn h1 λitv s2 h2=>?_
 obtain⟨it,fp,tn,J,H2,e,I2,T,st2,f2,hW⟩:=h2;subst e;refine JC (Qae c.cell (by intro y hy;simp at hy) (λh₁ hns₁ hsb₁=>?_) c.kind);have I3:Inv X pins σ (upd H2 s2.heap.objs.size (.lst [])) { s2 with heap:=s2.heap.push { cls:=.type "list",data:=.seq ([]:List Value).toArray } }:=I2.lnew (t':=s2.toks) (ys:=[]) .nil (Qv _);have lt2:∀b∈fp,b<s2.heap.objs.size:=λb hb=>by obtain⟨o,e,_⟩:=T.obj _ _ st2 b hb;exact Qs e
 have f3:∀b∈fp,FpOk X pins (upd H2 s2.heap.objs.size (.lst [])) b:=λb hb=>(f2 b hb).upd (QJ (lt2 b hb))
 generalize hs3:({ s2 with heap:=s2.heap.push { cls:=.type "list",data:=.seq ([]:List Value).toArray } }:Shared)=s3 at I3;have e3:s3.heap=s2.heap.push { cls:=.type "list",data:=.seq ([]:List Value).toArray }:=by rw[<- hs3]
 have z3:s3.heap.objs.size=s2.heap.objs.size+1:=by rw[e3,Z8]
 have hk:∀b o,s3.heap.get? b=some o->h₁.get? b=some o:=λb o e=>hsb₁.extBut b o (by
  have:=Qs e;rw[e3] at this;exact QJ this) (Qf _ (e3 ▸ e))
 have hn₁:h₁.Ns s3.heap.objs.size λ_=>none:=by rw[e3];exact hns₁
 have B:=Qb7 (t4:=s3.toks+([]:List (Str×Value)).length) (fp:=fp) I3 c f3 (λb hb=>by rw[z3];exact QaB (lt2 b hb)) hn₁ hk;have st4:tn 0 h₁:=T.keep _ _ _ st2 λb hb o e=>hk b o (by rw[e3];exact Qf _ e)
 have fp4:∀b∈fp,FpOk (blk X M scope (Qbq X.env scope.names []) fp s3 (upd H2 s2.heap.objs.size (.lst [])) s3.heap.objs.size) [] (upd H2 s2.heap.objs.size (.lst [])) b:=λb hb=>by
  refine⟨(f3 b hb).1,(B.ok.exf b hb).1,B.ok.exfs b hb,.inl hb,(B.ok.exf b hb).2,λp hp=>(nomatch hp)⟩
 obtain⟨hg,ht,hi2,hg2,ht2,he⟩:=hb (Qbq X.env scope.names []) fp s3 (upd H2 s2.heap.objs.size (.lst [])) s3.heap.objs.size;have loop:codeAny (model X.prog X.w) X.A (.compLoop (.ListComp elt [⟨tg,iter,ifs,0⟩,⟨tg2,iter2,ifs2,0⟩] scope pos) 0 (.ref it) (.ref s2.heap.objs.size) (compEnvC scope (Qbq X.env scope.names []) s3.heap.objs.size X.env))
   (compPost (model X.prog X.w) X.A X.xe none (EP X pins σ Q) (.ref s2.heap.objs.size) s3.heap.objs.size) { s3 with heap:=h₁,toks:=s3.toks+([]:List (Str×Value)).length }:=by
  refine Qb4 (Y:=blk X M scope (Qbq X.env scope.names []) fp s3 (upd H2 s2.heap.objs.size (.lst [])) s3.heap.objs.size) (gens:=[⟨tg,iter,ifs,0⟩,⟨tg2,iter2,ifs2,0⟩]) (d:=0) hc T st4 fp4
   (λQ E s h=>Qfm (hs2 _) Q E s h) (λx u r=>QdH rfl hg ht (λσ4=>QhK rfl hc hi2 hg2 ht2 he) x u r) B (hW _ (I2.hok.fresh (Qk _))) λs' H' I' q=>?_
  obtain⟨m,hn,_⟩:=I'.loc;exact⟨m,hn,λh' hs'=>⟨.ref s2.heap.objs.size,H',QgH I3 f3 I' hs',rfl,q⟩⟩
 exact QaX loop (T.self _ 0 _ _ _ st4 loop)
end L2
namespace Rk
open L2 Rd
def pairD(ij:Int×Int):Qa:=.tuple [.int ij.1,.int ij.2]
theorem QfK(b:Int×Int):Jt (pairD b)=1:=by
 unfold pairD;simp[Jt,QV]
end Rk
namespace Rr
section
variable{prog:QB}{w:Jl}{A:Q9}{E:Value->Shared->Prop}{s:Shared}
end
end Rr
namespace L2
def QuF(ta:TA):TE:=λσ H Q=>ta σ H λvs H1=>∃j,vs=[.int j]/\∀r H2,Same H1 H2->H1 r=none->H2 r=some (.rng 0 j)->Q (.ref r) H2
section
variable{X:Cx}
theorem QoH{a:Q2}{ta:TA}{p pos:Pos}(hg:Gl X "range")(hm:X.mg "range" = none)(ha:PA X [a] ta)(hs:starEach [a] X.env=[(false,eval a X.env)]:=by rfl):PE X (.Call (.Name "range" p) [a] [] pos) (QuF ta):=by
 intro pins s σ H Q I h;refine YS (QeO I hg hm boot_range ?_);refine ZJ (thn (ha pos pins s σ H _ I h) λus s1 ⟨vs,H1,I1,r1,q1⟩=>?_) hs rfl;obtain⟨j,e,q⟩:=q1;subst e;obtain⟨u,rfl,ru⟩:=vals1 r1;obtain⟨t,rfl⟩:=ru;refine call_range_1 ?_
 have hf:H1 s1.heap.objs.size=none:=I1.hok.fresh (Qk _);refine⟨.ref s1.heap.objs.size,upd H1 s1.heap.objs.size (.rng 0 j),I1.laid (t':=s1.toks+1+1) (λb u e=>Qf _ e) (Qk _) ⟨_,_,_,QP _ rfl⟩,rfl,q _ _ (Jk hf) hf Jm⟩
theorem QkA{acc:Array Value}{n:Nat}(h:ItemsOf (λi v=>∃t,v=Qcw ((0:Int)+i*1) t) acc n):Vals ((Jr n).map λi=>V.int (i:Nat)) acc.toList:=by
 obtain⟨hs,hi⟩:=h;have key:∀(m:Nat)(l:List Value)(o:Nat),l.length=m->(∀i v,l[i]? = some v->∃t,v=Qcw ((0:Int)+((o+i:Nat):Int)*1) t)->Vals ((List.range' o m).map λi=>V.int (i:Nat)) l:=by
  intro m;induction m with
  |zero=>intro l o hl _;cases l with
   |nil=>exact .nil
   |cons a b=>cases hl
  |succ m ih=>
   intro l o hl hv;cases l with
   |nil=>cases hl
   |cons a b=>
    rw[List.range'_succ,Jh];refine .cons ?_ (ih b (o+1) (by simpa using hl) λi v e=>?_)
    ·obtain⟨t,rfl⟩:=hv 0 a rfl;exact⟨t,by simp⟩
    ·obtain⟨t,rfl⟩:=hv (i+1) v (by simpa using e);exact⟨t,by congr 3;omega⟩
 rw[List.range_eq_range'];refine key n acc.toList 0 (by simpa using hs) λi v e=>?_
 have:=hi i v (by simpa using e)
 simpa using this
end
end L2
namespace Rs
open PySem.W
def sp{α:Type}(n:Nat)(c:Nat->Nat->Bool):KasT α->(α->Prop)->Prop
 |.ret a,Q=>Q a
 |.ask i j f,Q=>i<n/\j<n/\sp n c (f (c i j)) Q
section
variable{n:Nat}{K:Nat->Int}
structure Good (n:Nat) (p:Array Nat):Prop where
 perm:p.toList.Perm (Jr n)
theorem Good.size{p:Array Nat}(g:Good n p):p.size=n:=by
 have:=g.perm.length_eq;rw[Yd,Qq] at this;exact this
def at_(p:Array Nat)(i:Nat):Nat:=p.getD i 0
theorem QnC{p:Array Nat}{i:Nat}(h:i<p.size):p[i]? = some (at_ p i):=by
 unfold at_;rw[QfW,QbD h];rfl
theorem Good.lt{p:Array Nat}(g:Good n p)(h0:0<n)(i:Nat):at_ p i<n:=by
 by_cases h:i<p.size
 ·have e:=QnC h;have m:at_ p i∈p.toList:=by
   have:=Qj7 e;exact QcS.mpr this
  exact QhS.mp (g.perm.mem_iff.mp m)
 ·unfold at_;rw[QfW,Array.getElem?_eq_none (by omega)];exact h0
theorem Good.inj{p:Array Nat}(g:Good n p){i j:Nat}(hi:i<n)(hj:j<n)(e:at_ p i=at_ p j):i=j:=by
 have nd:p.toList.Nodup:=g.perm.nodup_iff.mpr List.nodup_range;have hs:=g.size;have hi':i<p.toList.length:=by rw[Qq];omega
 have hj':j<p.toList.length:=by rw[Qq];omega
 have ei:p.toList[i]=at_ p i:=by
  have:=QnC (p:=p) (i:=i) (by omega);rw[QbD (by omega)] at this;rw[QkW];exact Qy this
 have ej:p.toList[j]=at_ p j:=by
  have:=QnC (p:=p) (i:=j) (by omega);rw[QbD (by omega)] at this;rw[QkW];exact Qy this
 have pw:=Z7.mp nd;rcases Nat.lt_trichotomy i j with h | h | h
 ·exact absurd (ei.trans (e.trans ej.symm)) (pw i j hi' hj' h)
 ·exact h
 ·exact absurd (ej.trans (e.symm.trans ei.symm)) (pw j i hj' hi' h)
def kk(K:Nat->Int)(p:Array Nat)(i:Nat):Int:=K (at_ p i)
end
end Rs
namespace Rs
open PySem.W PySem.Calls
section
variable{prog:QB}{w:Jl}{A:Q9}{E:Value->Shared->Prop}{s:Shared}
def Kept(a:Addr)(h h':Za):Prop:=∀b x,b≠a->h.get? b=some x->h'.get? b=some x
theorem Qf2{h:Za}{a:Addr}(f:Obj->Obj):Kept a h (h.update a f):=λb x hb e=>(Heap.get?_update_ne _ _ _ _ hb).trans e
theorem Qhg{h:Za}{a:Addr}(o:Obj):Kept a h (h.push o):=λb x _ e=>Qf _ e
theorem Kept.trans{a:Addr}{h h1 h2:Za}(k:Kept a h h1)(k':Kept a h1 h2):Kept a h h2:=λb x hb e=>k' b x hb (k b x hb e)
theorem QdL{Q:Value->Shared->Prop}{l:Addr}{T:String}{o:Obj}{vs:List Value}{n:Nat}(hT:T = "list" ∨ T = "tuple")(ho:s.heap.get? l=some o)(hc:o.cls=.type T)(hd:o.data=.seq vs.toArray n)(h64:vs.length<64)
  (h:∀h':Za,(∀b x,s.heap.get? b=some x->h'.get? b=some x)->∀(P:PySem.Fin->Shared->Prop)(E':Value->Shared->Prop),(∀s2,Q (.ref h'.objs.size) s2->P (.done (.ret .none)) s2) ->
   wpAny (model prog w) A.in1.in1 (QcQ.«list.sort» ⟨[.ref h'.objs.size],[]⟩) P E' { s with heap:=h'.push (seqObj "list" vs.toArray 0) }) :
  wpAny (model prog w) A (call (.builtin "sorted") [.ref l]) Q E s:=by
 refine QgZ kind_sorted plain_sorted entry_sorted (args_sorted1 _) ?_
 unfold QcQ.«sorted»;refine wpAny_bind (m:=checkCount "sorted" 1 1 _) (Qg ?_);refine wpAny_bind (Qxa (items:=vs.toArray) l hT ho hc hd (λh' kp=>?_) (by rw[Qu,Qul];omega));refine wpAny_bind (QnZ ?_ (by rw[QnU,Qul];omega));have hoL:(h'.push (seqObj "list" vs.toArray 0)).get? h'.objs.size=some (seqObj "list" vs.toArray 0):=QP _ rfl;show wpAny _ _ _ _ _ { s with heap:=h'.push (seqObj "list" vs.toArray 0) };refine wpAny_bind (J7 (ZO slot_list_sort ⟨_,hoL,rfl⟩ entry_list_sort ?body (args_list_sort _)));exact h h' kp _ _ λs2 hq=>⟨_,rfl,Qg ⟨_,rfl,hq⟩⟩
end
structure QwK (h:Za) (v:Value) (ij:Int×Int):Prop where
 it:∃(a:Addr)(o:Obj)(n:Nat)(t u:Tok),v=.ref a/\h.get? a=some o/\o.cls=.type "tuple" /\ o.data=.seq #[.int ij.1 t,.int ij.2 u] n
inductive PairsV (h:Za):List Value->List (Int×Int)->Prop
 |nil:PairsV h [] []
 |cons {v:Value} {vs:List Value} {ij:Int×Int} {L:List (Int×Int)}:QwK h v ij->PairsV h vs L->PairsV h (v::vs) (ij::L)
theorem PairsV.at_{h:Za}:∀{vs:List Value}{L:List (Int×Int)},PairsV h vs L->∀i,i<vs.length->QwK h (vs.getD i ZH) (L.getD i (0,0))
 |_,_,.nil,i,hi=>by simp at hi
 |_,_,.cons q r,0,hi=>q
 |_,_,.cons q r,i+1,hi=>by
  have:=r.at_ i (by simpa using hi)
  simpa using this
def code(ij:Int×Int):Int:=64*ij.1+ij.2
section
variable{prog:QB}{w:Jl}{A:Q9}{E:Value->Shared->Prop}{s:Shared}
end
end Rs
namespace L2
open _root_.Rd _root_.Rk _root_.Rs
section
variable{X:Cx}
theorem Qgv:∀{ns:List Int}{vs:List Value},Vals (ns.map V.int) vs->IntsAre vs ns
 |[],_,.nil=>.nil
 |i::ns,_,.cons ⟨t,e⟩ r=>by subst e;exact .cons _ _ (Qgv r)
theorem QgI:∀{ns:List Int}{vs:List Value},IntsAre vs ns->Vals (ns.map V.int) vs
 |_,_,.nil=>.nil
 |_,_,.cons n t r=>.cons ⟨t,rfl⟩ (QgI r)
def Qrm(K:PySem.W.Frag):List V->Hp->VK->Prop:=λxs H Q=>∃l ns,xs=[.ref l]/\SqT K H l ((ns:List Int).map V.int)/\ns.length<64 /\
 ∀t ms H2,Same H H2->H t=none->H2 t=some (.lst ((ms:List Int).map V.int))->ms.Perm ns->ms.Pairwise (·<=·)->Q (.ref t) H2
theorem QkJ:CallR X (.builtin "sorted") (Qrm X.K):=by
 intro pins s σ H xs us Q I r h;obtain⟨l,ns,rfl,hl,h64,q⟩:=h;obtain⟨u,rfl,ru⟩:=vals1 r;cases ru;obtain⟨its,rv,tp,hz⟩:=I.tuple hl;obtain⟨o,ho,hc,n,hd⟩:=tp;have li:=rv.length;rw[Qe] at li;refine QdL (.inr rfl) ho hc hd (by omega) λh' kp P E' hP=>?_
 have hn:(h'.push (seqObj "list" its.toArray 0)).get? h'.objs.size=some (seqObj "list" its.toArray 0):=QP _ rfl;refine list_sort_tree (s:={ s with heap:=h'.push (seqObj "list" its.toArray 0) }) hn (Qgv rv) (by omega) λout ns' ia pm pw=>hP _ ?_
 have I1:Inv X pins σ H { s with heap:=h' }:=I.kept (t':=s.toks) kp;have hf:H h'.objs.size=none:=I1.hok.fresh (Qk _);obtain⟨e,he⟩:∃e,(sortedHeap (h'.push (seqObj "list" its.toArray 0)) h'.objs.size its out).get? h'.objs.size=some (seqObj "list" out e):=sortedHeap_at hn
 have rv':=QgI ia;have lp:=pm.length_eq;have I2:Inv X pins σ (upd H h'.objs.size (.lst (ns'.map V.int))) { s with heap:=sortedHeap (h'.push (seqObj "list" its.toArray 0)) h'.objs.size its out }:=
  I1.laid (t':=s.toks) (λb x e'=>(sortedHeap_old (QJ (Qs e')) (QL (Qs e') (by rw[size_push'];exact Nat.le_succ _))).trans (Qf _ e')) (Qk _) (show ObjOk X.prog X.w _ _ _ (.lst _) from⟨by rw[Qe];exact Z5 (Rk.Qbk (by omega)),out.toList,e,rv',by rw[he]⟩)
 exact⟨.ref h'.objs.size,_,I2,rfl,q _ ns' _ (Jk hf) hf Jm pm pw⟩
end
end L2
namespace Re
open AutoSeq1 (wpAny_loadPart')
end Re
namespace L2
section
variable{X:Cx}
def Qsr:List V->Hp->VK->Prop:=λxs H Q=>∃r j,xs=[.ref r]/\H r=some (.rng 0 j) /\ -1000<=j/\j<=1000/\∀t H2,Same H H2->H t=none->H2 t=some (.lst ((Jr j.toNat).map λi=>V.int (i:Nat)))->Q (.ref t) H2
theorem QiS(hc:X.calm=true):CallR X (.type "list") Qsr:=by
 intro pins s σ H xs us Q I r h;obtain⟨a,j,rfl,ha,h1,h2,q⟩:=h;obtain⟨u,rfl,ru⟩:=vals1 r;cases(show u=JP a from ru);obtain⟨t1,t2,t3,e⟩:=I.hok a _ ha;have hn:Qeo 0 j 1=((j.toNat:Nat):Int):=by rw[rangeSize_one];split<;>omega
 refine call_list_range (n:=j.toNat) (I.ok.hd hc) (show IsRange s.heap a 0 j 1 t1 t2 t3 from e) (small_one (by omega) (by omega) (by omega) (by omega)) hn (Jc (show j.toNat<=1000 by omega) (by decide)) λh' tk acc c' kp hS hacc=>?_
 have hz:acc.size=j.toNat:=hacc.1;have rv:=QkA hacc;have hf:H s.heap.objs.size=none:=I.hok.fresh (Qk _);refine⟨.ref s.heap.objs.size,upd H s.heap.objs.size (.lst ((Jr j.toNat).map λi=>V.int (i:Nat))),I.laid (t':=tk) kp (Qk _) ⟨?_,acc.toList,c',rv,by rw[hS]⟩,rfl,q _ _ (Jk hf) hf Jm⟩;rw[Qe,Yd];exact Z5 (Rk.Qbk (by omega))
end
end L2
namespace Rk
open L2
theorem Qke{L:List (Int×Int)}(h:L.Pairwise λa b=>Rs.code a<Rs.code b):L.Nodup:=Qxx (λ{a b} q z=>by subst z;omega) h
theorem QiU{h w:Int}{L:List (Int×Int)}(g:Good h w L)(hw:w<=64):L.Pairwise λa b=>Rs.code a<Rs.code b:=by
 refine Qxw (λ{a b} ha hb q=>?_) g.asc;have:=g.ins a ha;have:=g.ins b hb;unfold Rs.code;rcases q with z | z<;>omega
end Rk
namespace L2
section
variable{X:Cx}{pins:List (Addr×Obj)}{σ:St}{H:Hp}
theorem Qcq{M:List Str}{scope:Yp}{fp:List Addr}{σ':St}{H3:Hp}{s3 s':Shared}{D:Addr}{i:Nat}{y:Str}{py:Pos}{Mo:Qj2}{A:Q9}{E:Value->Shared->Prop}{Q:Value->Shared->Prop}
  (I3:Inv X pins σ H3 s3)(f3:∀b∈fp,FpOk X pins H3 b)(J:Inv (blk X M scope (Qbq X.env scope.names []) fp s3 H3 s3.heap.objs.size) [] σ' H s')
  (hN:X.N.Nodup)(hi:X.N[i]? = some y)(hl:X.env.scope.names.lookup y=some .local)(hq:∀s2,Inv X pins (σ.set i (some (.ref D))) H s2->Q .none s2) :
  wpAny Mo A (assign (.Name y py) X.env (.ref D)) (λ_ s2=>∃m,s2.heap.Ns s3.heap.objs.size m/\∀h',QaI s3.heap.objs.size s2.heap h'->Q .none { s2 with heap:=h' }) E s':=by
 have J0:Inv X pins σ H s':=QgH I3 f3 J (Heap.SameBut.refl ..);obtain⟨m,hn,_⟩:=J.loc;have hC:H s3.heap.objs.size=none:=J.free;have lt:X.env.locals<s3.heap.objs.size:=I3.lt;refine Qxb (Qg7 J0 hN hi (QZ hl) (show RelV (.ref D) (.ref D) from rfl) (λs2 J2 ⟨a,sb,ha⟩=>?_) (.inr hl));have ea:a=X.env.locals∨X.env.cells.lookup y=some a:=ha;have na:s3.heap.objs.size≠a:=by
  rcases ea with z | z
  ·rw[z];exact QcN lt
  ·obtain⟨v,o,ho,_⟩:=I3.cell y a z;exact QcN (Qs ho)
 refine⟨m,hn.sameBut sb na,λh' hs=>hq _ ?_⟩;refine J2.turned (t':=s2.toks) (it:=s3.heap.objs.size) (λb o hb e=>hs.extBut b o hb e) hC (QcN lt) (.inr I3.sz) (λx c e z=>?_) λp hp z=>?_
 ·obtain⟨v,o,ho,_⟩:=I3.cell x c e;exact absurd (z ▸ Qs ho) (Yq _)
 ·have e:=(I3.pin p hp).1;exact absurd (z ▸ Qs e) (Yq _)
end
theorem Qjp{X:Cx}{M:List Str}{cap:List (Option Nat)}{elt tg iter:Q2}{ifs:List Q2}{scope:Yp}{pos:Pos}{wi:TI}{g:TG}{tc:TT}{te:TE}{i:Nat}{y:Str}{py spos:Pos}(hN:X.N.Nodup)(hiy:X.N[i]? = some y)(hly:X.env.scope.names.lookup y=some .local)(hc:X.calm=true)(ok:QcC X.N X.env.scope M scope cap=true)
  (hi:PI X tg iter wi)(hb:∀cl ex s3 H3 C,PG (blk X M scope cl ex s3 H3 C) tg g/\PTs (blk X M scope cl ex s3 H3 C) ifs tc/\PE (blk X M scope cl ex s3 H3 C) elt te)
  (hs:∀x,foldedSetIterable iter X.env x=pure x:=by intro _;rfl)(hsw:swapsWith (.ListComp elt [⟨tg,iter,ifs,0⟩] scope pos) (some (.Name y py)) spos.line X.env=pure true:=by rfl):PS X (.Assign [.Name y py] (.ListComp elt [⟨tg,iter,ifs,0⟩] scope pos) spos) (Qof (tComp cap wi g tc te) (QeR i)):=by
 intro pins s σ H D I h;have c:=CapOk.of ok;rw[Qr2 _ _ _ _ hsw];refine wpAny_bind (wpAny_standAt (wpAny_bind ?_));show wpAny _ X.A (do let _ <- comprehension (.ListComp elt [⟨tg,iter,ifs,0⟩] scope pos) scope X.env _ (newList []) false (eval iter X.env) (some (assign (.Name y py) X.env))) _ _ s;refine wpAny_bind (wpAny_mono (Yo (use:=some (assign (.Name y py) X.env)) (Q:=λ_ s'=>SP X pins D .next s') rfl hs (QeW (I.ok.cells c)) c.kind c.loc ?_) (λ_ s' hq=>Qg (Qg hq)) λ_ _ e=>e);refine thn (hi pins s σ H _ I h) λv s1 h1=>thn h1 λitv s2 h2=>?_
 obtain⟨it,fp,tn,J,H2,e,I2,T,st2,f2,hW⟩:=h2;subst e;refine JC (Qae c.cell (by intro y hy;simp at hy) (λh₁ hns₁ hsb₁=>?_) c.kind);have I3:Inv X pins σ (upd H2 s2.heap.objs.size (.lst [])) { s2 with heap:=s2.heap.push { cls:=.type "list",data:=.seq ([]:List Value).toArray } }:=I2.lnew (t':=s2.toks) (ys:=[]) .nil (Qv _);have lt2:∀b∈fp,b<s2.heap.objs.size:=λb hb=>by obtain⟨o,e,_⟩:=T.obj _ _ st2 b hb;exact Qs e
 have f3:∀b∈fp,FpOk X pins (upd H2 s2.heap.objs.size (.lst [])) b:=λb hb=>(f2 b hb).upd (QJ (lt2 b hb))
 generalize hs3:({ s2 with heap:=s2.heap.push { cls:=.type "list",data:=.seq ([]:List Value).toArray } }:Shared)=s3 at I3;have e3:s3.heap=s2.heap.push { cls:=.type "list",data:=.seq ([]:List Value).toArray }:=by rw[<- hs3]
 have z3:s3.heap.objs.size=s2.heap.objs.size+1:=by rw[e3,Z8]
 have hk:∀b o,s3.heap.get? b=some o->h₁.get? b=some o:=λb o e=>hsb₁.extBut b o (by
  have:=Qs e;rw[e3] at this;exact QJ this) (Qf _ (e3 ▸ e))
 have hn₁:h₁.Ns s3.heap.objs.size λ_=>none:=by rw[e3];exact hns₁
 have B:=Qb7 (t4:=s3.toks+([]:List (Str×Value)).length) (fp:=fp) I3 c f3 (λb hb=>by rw[z3];exact QaB (lt2 b hb)) hn₁ hk;have st4:tn 0 h₁:=T.keep _ _ _ st2 λb hb o e=>hk b o (by rw[e3];exact Qf _ e)
 have fp4:∀b∈fp,FpOk (blk X M scope (Qbq X.env scope.names []) fp s3 (upd H2 s2.heap.objs.size (.lst [])) s3.heap.objs.size) [] (upd H2 s2.heap.objs.size (.lst [])) b:=λb hb=>by
  refine⟨(f3 b hb).1,(B.ok.exf b hb).1,B.ok.exfs b hb,.inl hb,(B.ok.exf b hb).2,λp hp=>(nomatch hp)⟩
 obtain⟨hg,ht,he⟩:=hb (Qbq X.env scope.names []) fp s3 (upd H2 s2.heap.objs.size (.lst [])) s3.heap.objs.size;have loop:codeAny (model X.prog X.w) X.A (.compLoop (.ListComp elt [⟨tg,iter,ifs,0⟩] scope pos) 0 (.ref it) (.ref s2.heap.objs.size) (compEnvC scope (Qbq X.env scope.names []) s3.heap.objs.size X.env))
   (compPost (model X.prog X.w) X.A X.xe (some (assign (.Name y py) X.env)) (λ_ s'=>SP X pins D .next s') (.ref s2.heap.objs.size) s3.heap.objs.size) { s3 with heap:=h₁,toks:=s3.toks+([]:List (Str×Value)).length }:=by
  refine Qb4 (Y:=blk X M scope (Qbq X.env scope.names []) fp s3 (upd H2 s2.heap.objs.size (.lst [])) s3.heap.objs.size) (gens:=[⟨tg,iter,ifs,0⟩]) (d:=0) hc T st4 fp4
   (λQ E s h=>Qi5 Q E s h) (λx u r=>QdH rfl hg ht (λσ4=>QgG rfl he) x u r) B (hW _ (I2.hok.fresh (Qk _))) λs' H' I' q=>?_
  exact Qcq (Q:=λ_ s'=>SP X pins D .next s') I3 f3 I' hN hiy hly λs2' J2=>⟨_,H',J2,q⟩
 exact QaX loop (T.self _ 0 _ _ _ st4 loop)
theorem QlP{X:Cx}{M:List Str}{cap:List (Option Nat)}{elt tg iter tg2 iter2:Q2}{ifs ifs2:List Q2}{scope:Yp}{pos:Pos}{wi wi2:TI}{g g2:TG}{tc tc2:TT}{te:TE}{i:Nat}{y:Str}{py spos:Pos}(hN:X.N.Nodup)(hiy:X.N[i]? = some y)(hly:X.env.scope.names.lookup y=some .local)(hc:X.calm=true)(ok:QcC X.N X.env.scope M scope cap=true)
  (hi:PI X tg iter wi)(hb:∀cl ex s3 H3 C,PG (blk X M scope cl ex s3 H3 C) tg g/\PTs (blk X M scope cl ex s3 H3 C) ifs tc/\PI (blk X M scope cl ex s3 H3 C) tg2 iter2 wi2/\PG (blk X M scope cl ex s3 H3 C) tg2 g2/\PTs (blk X M scope cl ex s3 H3 C) ifs2 tc2/\PE (blk X M scope cl ex s3 H3 C) elt te)
  (hs:∀x,foldedSetIterable iter X.env x=pure x:=by intro _;rfl)(hs2:∀env x,foldedSetIterable iter2 env x=pure x:=by intro _ _;rfl)(hsw:swapsWith (.ListComp elt [⟨tg,iter,ifs,0⟩,⟨tg2,iter2,ifs2,0⟩] scope pos) (some (.Name y py)) spos.line X.env=pure true:=by rfl):PS X (.Assign [.Name y py] (.ListComp elt [⟨tg,iter,ifs,0⟩,⟨tg2,iter2,ifs2,0⟩] scope pos) spos) (Qof (Qlc cap wi g tc wi2 g2 tc2 te) (QeR i)):=by
 intro pins s σ H D I h;have c:=CapOk.of ok;rw[Qr2 _ _ _ _ hsw];refine wpAny_bind (wpAny_standAt (wpAny_bind ?_));show wpAny _ X.A (do let _ <- comprehension (.ListComp elt [⟨tg,iter,ifs,0⟩,⟨tg2,iter2,ifs2,0⟩] scope pos) scope X.env _ (newList []) false (eval iter X.env) (some (assign (.Name y py) X.env))) _ _ s;refine wpAny_bind (wpAny_mono (Yo (use:=some (assign (.Name y py) X.env)) (Q:=λ_ s'=>SP X pins D .next s') rfl hs (QeW (I.ok.cells c)) c.kind c.loc ?_) (λ_ s' hq=>Qg (Qg hq)) λ_ _ e=>e);refine thn (hi pins s σ H _ I h) λv s1 h1=>thn h1 λitv s2 h2=>?_
 obtain⟨it,fp,tn,J,H2,e,I2,T,st2,f2,hW⟩:=h2;subst e;refine JC (Qae c.cell (by intro y hy;simp at hy) (λh₁ hns₁ hsb₁=>?_) c.kind);have I3:Inv X pins σ (upd H2 s2.heap.objs.size (.lst [])) { s2 with heap:=s2.heap.push { cls:=.type "list",data:=.seq ([]:List Value).toArray } }:=I2.lnew (t':=s2.toks) (ys:=[]) .nil (Qv _);have lt2:∀b∈fp,b<s2.heap.objs.size:=λb hb=>by obtain⟨o,e,_⟩:=T.obj _ _ st2 b hb;exact Qs e
 have f3:∀b∈fp,FpOk X pins (upd H2 s2.heap.objs.size (.lst [])) b:=λb hb=>(f2 b hb).upd (QJ (lt2 b hb))
 generalize hs3:({ s2 with heap:=s2.heap.push { cls:=.type "list",data:=.seq ([]:List Value).toArray } }:Shared)=s3 at I3;have e3:s3.heap=s2.heap.push { cls:=.type "list",data:=.seq ([]:List Value).toArray }:=by rw[<- hs3]
 have z3:s3.heap.objs.size=s2.heap.objs.size+1:=by rw[e3,Z8]
 have hk:∀b o,s3.heap.get? b=some o->h₁.get? b=some o:=λb o e=>hsb₁.extBut b o (by
  have:=Qs e;rw[e3] at this;exact QJ this) (Qf _ (e3 ▸ e))
 have hn₁:h₁.Ns s3.heap.objs.size λ_=>none:=by rw[e3];exact hns₁
 have B:=Qb7 (t4:=s3.toks+([]:List (Str×Value)).length) (fp:=fp) I3 c f3 (λb hb=>by rw[z3];exact QaB (lt2 b hb)) hn₁ hk;have st4:tn 0 h₁:=T.keep _ _ _ st2 λb hb o e=>hk b o (by rw[e3];exact Qf _ e)
 have fp4:∀b∈fp,FpOk (blk X M scope (Qbq X.env scope.names []) fp s3 (upd H2 s2.heap.objs.size (.lst [])) s3.heap.objs.size) [] (upd H2 s2.heap.objs.size (.lst [])) b:=λb hb=>by
  refine⟨(f3 b hb).1,(B.ok.exf b hb).1,B.ok.exfs b hb,.inl hb,(B.ok.exf b hb).2,λp hp=>(nomatch hp)⟩
 obtain⟨hg,ht,hi2,hg2,ht2,he⟩:=hb (Qbq X.env scope.names []) fp s3 (upd H2 s2.heap.objs.size (.lst [])) s3.heap.objs.size;have loop:codeAny (model X.prog X.w) X.A (.compLoop (.ListComp elt [⟨tg,iter,ifs,0⟩,⟨tg2,iter2,ifs2,0⟩] scope pos) 0 (.ref it) (.ref s2.heap.objs.size) (compEnvC scope (Qbq X.env scope.names []) s3.heap.objs.size X.env))
   (compPost (model X.prog X.w) X.A X.xe (some (assign (.Name y py) X.env)) (λ_ s'=>SP X pins D .next s') (.ref s2.heap.objs.size) s3.heap.objs.size) { s3 with heap:=h₁,toks:=s3.toks+([]:List (Str×Value)).length }:=by
  refine Qb4 (Y:=blk X M scope (Qbq X.env scope.names []) fp s3 (upd H2 s2.heap.objs.size (.lst [])) s3.heap.objs.size) (gens:=[⟨tg,iter,ifs,0⟩,⟨tg2,iter2,ifs2,0⟩]) (d:=0) hc T st4 fp4
   (λQ E s h=>Qfm (hs2 _) Q E s h) (λx u r=>QdH rfl hg ht (λσ4=>QhK rfl hc hi2 hg2 ht2 he) x u r) B (hW _ (I2.hok.fresh (Qk _))) λs' H' I' q=>?_
  exact Qcq (Q:=λ_ s'=>SP X pins D .next s') I3 f3 I' hN hiy hly λs2' J2=>⟨_,H',J2,q⟩
 exact QaX loop (T.self _ 0 _ _ _ st4 loop)
end L2
namespace Rk
open L2 _root_.Rd
theorem Good.nodup{h w:Int}{L:List (Int×Int)}(g:Good h w L)(hw:w<=64):L.Nodup:=Qke (QiU g hw)
section
variable{X:Cx}
def QzE(X:Cx):R2:=λx y H Q=>∃dx dy,Dat H x dx/\Dat H y dy/\X.A.units+min dx.depth dy.depth<cLine/\Q (.bl (!Ja dx dy)) H
theorem Qvz:OpR X (compareOp .NotEq) (QzE X):=by
 intro pins s σ H x y v u Q I rx ry h;obtain⟨dx,dy,qx,qy,hu,q⟩:=h;obtain⟨⟨as,ra⟩,ca⟩:=Yi I.hok dx x v qx rx;obtain⟨⟨bs,rb⟩,cb⟩:=Yi I.hok dy y u qy ry;exact SeqAt.compareNe_reads ra rb ca cb hu ⟨.bl _,H,I,rfl,q⟩
end
end Rk
namespace Rk
open L2
theorem QyD:bootBuiltins "ValueError" = some (.type "ValueError"):=by decide +kernel
def Qle:List Q2->Option (List Str)
 |[]=>some []
 |.Constant (.str x) _ _::es=>(Qle es).map (x::·)
 |_::_=>none
theorem Qio{X:Cx}:∀{es:List Q2}{ws:List Str},Qle es=some ws->PA X es (λ_ H Q=>Q (ws.map V.str) H)
 |[],ws,h=>by cases h;exact J4
 |e::es,ws,h=>by
  unfold Qle at h;split at h
  ·rename_i e2;cases e2
  ·rename_i e2
   cases e2;obtain⟨vs,hv,rfl⟩:=JU.mp h;exact Qip (Qdt QlY (Qio hv)) λσ H Q q=>q
  ·cases h
def QtF(x:Str):List Q2->Option (List Str)
 |[]=>some []
 |.Call (.Name f _) [.Name y _,.Name n _] [] _::es=>if f = "isinstance" /\ y=x then(QtF x es).map (n::·) else none
 |_::_=>none
def Qzx(K:PySem.W.Frag)(cs:List Addr):TA:=λσ H Q=>∃(a C:Addr)(bs:List Bool),σ[0]? = some (some (.ref a))/\H a=some (Rx.exO a C)/\Rx.ExC K C/\YK (λc b=>PySem.W.kitOne K (.ref C) (.ref c)=some b) cs bs/\Q (bs.map V.bl) H
theorem Qfy{X:Cx}{x:Str}(hN:X.N[0]? = some x)(hv:Vis X.env.scope x)(hd:(x == ("__debug__" : Str))=false)(hcd:(x == ("__classdict__" : Str))=false)(hg:Gl X "isinstance")(hm:X.mg "isinstance" = none) :
  ∀{es:List Q2}{ns:List Str}{cs:List Addr},QtF x es=some ns->(ns.all λn=>(X.env.kindOf n == some .globalImplicit) && !(n == ("__debug__" : Str)))=true->YK (λn c=>X.mg n=some (.ref c)) ns cs->PA X es (Qzx X.K cs)
 |[],ns,cs,h,_,p=>by
  cases h;cases p;exact Qip J4 λσ H Q ⟨a,C,bs,_,_,_,pb,q⟩=>by cases pb;exact q
 |e::es,ns,cs,h,g,p=>by
  unfold QtF at h;split at h
  ·rename_i e2;cases e2
  ·rename_i f pf y py n pn pc es' e2
   cases e2;split at h
   ·rename_i hc
    obtain⟨rfl,rfl⟩:=hc;obtain⟨ns',hns,rfl⟩:=JU.mp h;cases p with
    |@cons _ c _ cs' p1 p2=>
    rw[Qa7,JJ,JJ] at g;have g1:Gl X n:=beq_iff_eq.mp g.1.1;have g2:(n == ("__debug__" : Str))=false:=by
     have:=g.1.2;cases q:(n == ("__debug__" : Str)) with
     |false=>rfl
     |true=>rw[q] at this;cases this
    have one:PE X (.Call (.Name "isinstance" pf) [.Name y py,.Name n pn] [] pc) _:=Zu Rx.QhI hg hm JT (Qdt (Qrw hN hv hd hcd) (Qdt (Qil (v:=.ref c) g1 p1 rfl g2) J4 rfl) rfl);refine Qip (Qdt one (Qfy hN hv hd hcd hg hm hns g.2 p2) rfl) λσ H Q ⟨a,C,bs,h0,ha,hc,pb,q⟩=>?_
    cases pb with
    |@cons _ b _ bs' q1 q2=>exact⟨_,h0,a,C,.ref c,.ref c,b,rfl,ha,hc,(λu r=>r),q1,a,C,bs',h0,ha,hc,q2,q⟩
   ·cases h
  ·cases h
def Qg1:List Str:=["text", "order", "lines", "few", "size", "many", "number", "stand", "cell", "square", "hits", "counts", "stairs", "alike", "parting", "place", "double", "deed", "row"]
def Qjb(K:PySem.W.Frag)(cs:List Addr):Sp:=λvs H Q _=>∃(a C:Addr)(bs:List Bool)(j:Nat)(wd:Str),vs=[.ref a]/\H a=some (Rx.exO a C)/\Rx.ExC K C/\YK (λc b=>PySem.W.kitOne K (.ref C) (.ref c)=some b) cs bs/\PySem.W.kitOne K (.ref C) (.type "ValueError")=some true /\
 bs.countP id=1/\bs[j]? = some true/\(∀m,m<j->bs[m]? = some false)/\Qg1[j]? = some wd/\∀H',Same H H'->Q (.str wd) H'
theorem JM{α β:Type}{F:α->β->Prop}{a:α}{l:List α}{bs:List β}(h:YK F (a::l) bs):∃b bs',bs=b::bs'/\F a b/\YK F l bs':=by
 cases h with
 |cons r t=>exact⟨_,_,rfl,r,t⟩
theorem Qki{α β:Type}{F:α->β->Prop}{bs:List β}(h:YK F [] bs):bs=[]:=by
 cases h;rfl
end Rk
namespace Rx
open PySem.Calls L2
section
variable{X:Cx}{E:XK}
theorem Qo6(hxe:∀e s1,wpAny (model X.prog X.w) X.A (leaving X.env e) (λ_ s2=>CXE X.prog X.w X.outer X.H₀ X.s₀ E e s2) (λe' s2=>CXE X.prog X.w X.outer X.H₀ X.s₀ E e' s2) s1->X.xe e s1)
  (hstk:X.stack=X.env::X.outer)(hfr:X.env.frame=some X.env.locals)(hex:X.ex=[]):Qc8 (CXE X.prog X.w) X E:=by
 intro pins σ H s e s' I h;obtain⟨C,H',⟨a,t,B,rfl,os,bare,fl,fa,fH,land⟩,q⟩:=h;refine hxe _ _ ?_
 have fl2:=fl;rw[hstk] at fl2;have fr:X.A.frames=some (X.env::X.outer):=by rw[<- hstk];exact I.ok.frames
 refine wpAny_leaves_onW fr hfr fl2 λh' fl' up=>⟨C,H',⟨a,t,B,rfl,os.trans I.os,bare,fl',?_,fH,λh2 st up2=>?_⟩,q⟩
 ·cases z:X.s₀.heap.get? a with
  |none=>rfl
  |some o=>
   obtain⟨o',e'⟩:=I.base.there a o z (by rw[hex];simp);rw[fa] at e';cases e'
 ·obtain⟨un,hok⟩:=land h2 st (up.trans up2);have J:=I.call' (s':={ s' with heap:=h2 }) (ch:=[]) os un hok bare (λb z=>absurd z (by simp));have hb:=J.base;rw[hex] at hb;exact⟨hb,hok⟩
end
def Qzo(X:Cx)(f:Addr)(sp:Sp):Prop:=∃k fd ps,FnOk X.prog X.w X.K X.mg X.base (CXE X.prog X.w) k f fd ps sp/\Room k X.A/\PySem.W.keepIn X.K (.ref f)=true/\Binds X.K fd ps []
def Qsi(M:Addr->Sp->Prop)(tf:TE)(t:TA):TX:=λσ H Q Ex=>tf σ H λv H0=>∃f sp,v=.ref f/\M f sp/\t σ H0 λvs H1=>sp vs H1 Q λcv _ H2=>∃C,cv=.ref C/\Ex C H2
section
variable{X:Cx}{tf:TE}{fe:Q2}{pos:Pos}{e:Q2}{es:List Q2}{t:TA}{M:Addr->Sp->Prop}
theorem QlW(hM:∀f sp,M f sp->Qzo X f sp)(hf:PE X.nox fe tf)(hex:X.ex=[])
  (ha:PA X.nox (e::es) t)(hfe:eval (.Call fe (e::es) [] pos) X.env=(do callWith pos (<- eval fe X.env) [] (backTo pos (starEach (e::es) X.env)) (backToKw pos (keywordEach [] X.env))):=by rfl)
  (he:starEach (e::es) X.env=(false,eval e X.env)::starEach es X.env:=by rfl)(hpl:(backTo pos (starEach es X.env)).any (·.1)=false:=by rfl) :
  PEX X (.Call fe (e::es) [] pos) (Qsi M tf t):=by
 intro pins s σ H Q Ex I h;rw[hfe];refine wpAny_bind (wpAny_mono (hf pins s σ H _ (I.wish _) h) (λv s0 ⟨x,H0,J0,r0,q0⟩=>?_) λ_ _ z=>Jx z);obtain⟨f,sp,rfl,mf,q0⟩:=q0;obtain⟨k,fd,ps,F,hr,hk,hb⟩:=hM f sp mf;cases(show v=JP f from r0);have I0:Inv X pins σ H0 s0:=J0.unwish;refine PySem.W.callWith_K (h₀:=X.base) I.ok.mod.kin hk (wpAny_mono (ha pos pins s0 σ H0 _ (I0.wish _) q0) (λus s1 ⟨vs,H1,J1,r,q⟩=>?_) λ_ _ z=>Jx z) he hpl;have I1:Inv X pins σ H1 s1:=J1.unwish;refine⟨I1.kIn,?_⟩;have hl:us.length=ps.length:=by rw[<- r.length];exact F.len _ _ _ _ q
 have hbb:QdW s1 fd ⟨us,[]⟩ (ps.zip us):=by
  have z:=hb s1 us I1.kIn (by rw[Ji];exact hl);rw[Ji] at z;exact z
 refine Qd3 (Qbe (F.run X.A X.stack s1 H1 ⟨us,[]⟩ us vs Q _ hr I1.env0 hbb r q) λr s2 hq=>?_);cases r with
 |error e=>
  obtain⟨C0,H2,⟨a,t',B,rfl,os,bare,fl,fa,fH,land⟩,C,eC,ex⟩:=hq;cases eC;refine⟨σ,C0,H2,a,t',B,rfl,fl,fH,?_,λp hp z=>?_,λh2 tk st up=>?_,rfl,ex⟩
  ·cases z:X.s₀.heap.get? a with
   |none=>rfl
   |some o=>
    obtain⟨o',e'⟩:=I1.base.there a o z (by rw[hex];simp);rw[fa] at e';cases e'
  ·have e':=(I1.pin p hp).1;rw[z,fa] at e';cases e'
  ·obtain⟨un,hok⟩:=land h2 st up;exact I1.call' (s':={ s2 with heap:=h2,toks:=tk }) (ch:=[]) os un hok bare (λb z=>absurd z (by simp))
 |ok fl=>
  cases fl with
  |ret u=>exact I1.after hq
  |next=>exact Jx hq
  |brk=>exact Jx hq
  |cont=>exact Jx hq
end
end Rx
namespace Rk
open L2 _root_.Rd
structure GlbA (mg:Str->Option Value):Prop where
 isinstance:mg "isinstance" = none
 int:mg "int" = none
 bool:mg "bool" = none
 str:mg "str" = none
 tuple:mg "tuple" = none
 list:mg "list" = none
 all:mg "all" = none
 len:mg "len" = none
 zip:mg "zip" = none
 enumerate:mg "enumerate" = none
 range:mg "range" = none
 max:mg "max" = none
 min:mg "min" = none
 sorted:mg "sorted" = none
 sum:mg "sum" = none
 set:mg "set" = none
 any:mg "any" = none
 reversed:mg "reversed" = none
 divmod:mg "divmod" = none
structure KOk (K:PySem.W.Frag) (cs:List Addr) (R C:Addr) (wd:Str):Prop where
 by_:Rx.ByC K C R
 ex:∃(bs:List Bool)(j:Nat),Rx.ExC K C/\YK (λc b=>PySem.W.kitOne K (.ref C) (.ref c)=some b) cs bs/\PySem.W.kitOne K (.ref C) (.type "ValueError")=some true/\bs.countP id=1/\bs[j]? = some true/\(∀m,m<j->bs[m]? = some false)/\Qg1[j]? = some wd
def QxV(u:Nat)(neg:Bool):R2:=λx y H Q=>∃c ps ds d,y=.ref c/\H c=some (.tup ps)/\Dats H ps ds/\Dat H x d/\u+d.depth<cLine/\Q (.bl (if neg then !(ds.any λe=>Ja e d) else ds.any λe=>Ja e d)) H
theorem QvB{X:Cx}:OpR X (compareOp .In) (QxV X.A.in1.units false):=QvD
end Rk
namespace Rx
open PySem.Calls L2
section
variable{P:QB}{w:Jl}{K:PySem.W.Frag}{mg:Str->Option Value}{base:Za}
theorem okE{x qual:Str}{st:Z4}{f:Addr}{fd:QQ}{N ps:List Str}{k:Nat}{sp:Sp}(F:Fun K x qual st f fd)(S:Jy N ps (Qt st))(len:∀vs H Q E,sp vs H Q E->vs.length=ps.length)
  (hbody:∀(cdv:Value)(A:Q9)(outer:List Env)(s:Shared)(H:Hp)(vs:List V)(Q:VK)(E:XK),Room k (A.deeper (envOfC qual (Qt st) s.heap.objs.size f cdv))->sp vs H Q E ->
   ∃t,PSs (cxOf (CXE P w) P w K mg base N qual (Qt st) f cdv A outer s H E) (Js st) t/\t { nx:=λ_ H'=>Q .non H',rt:=Q } (start N vs) H):FnOk P w K mg base (CXE P w) (k+1) f fd ps sp:=by
 obtain⟨oc,od,kV,doc,pm,an,cdv,ct,osl,rfl,lk,hcd⟩:=F.ex;exact Qv9 lk hcd S len λA outer s H vs Q E hr hsp=>hbody cdv A outer s H vs Q E hr hsp
end
end Rx
namespace Rk
open L2 _root_.Rd
section
variable{X:Cx}{is js:List Nat}
end
theorem handled{K:PySem.W.Frag}{cs:List Addr}{R C:Addr}{wd:Str}(o:KOk K cs R C wd){H1:Hp}{Q:VK}{σ:L2.St}{i:Nat}(hi:i < σ.length)(k:∀H',Same H1 H'->Q (.str wd) H') :
  Rx.ByC K C R/\∀a,H1 a=none->(Qew (QhW i) Qrb) (σ.set i (some (.ref a))) (upd H1 a (Rx.exO a C)) λvs H2=>Qjb K cs vs H2 Q E0:=by
 refine⟨o.by_,λa ha=>?_⟩;obtain⟨bs,j,hx,pb,eV,hc,hj,hm,hw⟩:=o.ex;exact⟨_,Qav hi,a,C,bs,j,wd,rfl,Jm,hx,pb,eV,hc,hj,hm,hw,λH2 s2=>k H2 ((Jk ha).trans s2)⟩
end Rk
namespace L2
theorem Y2{h:Za}{a:Addr}{its:Array Value}(p:PlainL h a its):h.IsList a its:=by
 obtain⟨o,n,h1,h2,_,h3⟩:=p;exact⟨o,h1,h2,n,h3⟩
structure QhP (h:Za) (z TI TO i1 i2 t1 t2:Addr) (f:Value) (k:Nat):Prop where
 zp:Qsa h z TI TO f
 ti:IsPair h TI (.ref i1) (.ref i2)
 to:∃a b,IsPair h TO a b
 i1:h.IsListIter i1 t1 k
 i2:h.IsListIter i2 t2 k
section
variable{prog:QB}{w:Jl}{A:Q9}{E:Value->Shared->Prop}{s:Shared}
theorem Qk5{z TI TO i1 i2 t1 t2:Addr}{k:Nat}{xs ys:Array Value}{x y:Value}{Q:Option Value->Shared->Prop}(D:QwP z TI TO i1 i2 t1 t2)(Z:QhP s.heap z TI TO i1 i2 t1 t2 .none k)
  (hl1:s.heap.IsList t1 xs)(hl2:s.heap.IsList t2 ys)(hx:xs[k]? = some x)(hy:ys[k]? = some y)
  (hQ:∀h',QhP h' z TI TO i1 i2 t1 t2 (rawInt s.heap.objs.size) (k+1)->IsPair h' s.heap.objs.size x y->(∀c o,c≠z->c≠TO->c≠i1->c≠i2->s.heap.get? c=some o->h'.get? c=some o)->Q (some (.ref s.heap.objs.size)) { s with heap:=h' }) :
  wpAny (model prog w) A (pyNext (.ref z)) Q E s:=by
 obtain⟨hz,hTI,⟨a,b,hTO⟩,h1,h2⟩:=Z;exact wpAny_pyNext_zip_item D hz hTI hTO h1 h2 hl1 hl2 hx hy λh' a1 a2 a3 a4 a5 a6 a7=>hQ h' ⟨a1,a7 _ _ D.TIz D.TITO D.TIi1 D.TIi2 hTI,⟨x,y,a2⟩,a3,a4⟩ a5 a7
theorem Qoc{z TI TO i1 i2 t1 t2:Addr}{k:Nat}{xs ys:Array Value}{Q:Option Value->Shared->Prop}(hh:A.handled=none)(D:QwP z TI TO i1 i2 t1 t2)(Z:QhP s.heap z TI TO i1 i2 t1 t2 .none k)
  (hl1:s.heap.IsList t1 xs)(hl2:s.heap.IsList t2 ys)(hend:xs[k]? = none∨ys[k]? = none)
  (hQ:∀h',(∀c o,c≠z->c≠TO->c≠i1->c≠i2->s.heap.get? c=some o->h'.get? c=some o)->Q none { s with heap:=h' }):wpAny (model prog w) A (pyNext (.ref z)) Q E s:=by
 obtain⟨hz,hTI,⟨a,b,hTO⟩,h1,h2⟩:=Z;exact wpAny_pyNext_zip_end hh D hz hTI hTO h1 h2 hl1 hl2 hend hQ
theorem Qk6{t1 t2:Addr}{xs ys:Array Value}{Q:Value->Shared->Prop}(hl1:s.heap.IsList t1 xs)(hl2:s.heap.IsList t2 ys)
  (h:∀h',QhP h' (s.heap.objs.size+4) (s.heap.objs.size+2) (s.heap.objs.size+3) s.heap.objs.size (s.heap.objs.size+1) t1 t2 .none 0->(∀c o,s.heap.get? c=some o->h'.get? c=some o)->Q (.ref (s.heap.objs.size+4)) { s with heap:=h' }) :
  wpAny (model prog w) A (call (.type "zip") [.ref t1,.ref t2]) Q E s:=
 call_zip_2 hl1 hl2 λh' a1 a2 a3 a4 a5 a6 a7=>h h' ⟨a1,a2,⟨_,_,a3⟩,a4,a5⟩ a7
end
def Qzp(t1 t2:Addr):It:=
 ⟨λi H=>∃xs ys x y,H t1=some (.lst xs)/\H t2=some (.lst ys)/\xs[i]? = some x/\ys[i]? = some y,
  λi H v H'=>∃p x y,H p=none/\(∀xs,H t1=some (.lst xs)->xs[i]? = some x)/\(∀ys,H t2=some (.lst ys)->ys[i]? = some y)/\v=.ref p/\H'=upd H p (.tup [x,y]),
  λi H=>∃xs ys,H t1=some (.lst xs)/\H t2=some (.lst ys)/\(xs.length<=i∨ys.length<=i)⟩
theorem Qk8{P:QB}{w:Jl}{K:PySem.W.Frag}{elts:List Q2}{x1}{tpos:Pos}{z TI TO i1 i2 t1 t2:Addr}(D:QwP z TI TO i1 i2 t1 t2) :
  Turn P w K (.Tuple elts x1 tpos) (Qzp t1 t2) [z,TI,TO,i1,i2] z (λi h=>QhP h z TI TO i1 i2 t1 t2 .none i) where
 mem:=by simp
 obj:=λi h st b hb=>by
  obtain⟨a1,a2,⟨_,_,a3⟩,⟨o4,a4,_,d4⟩,⟨o5,a5,_,d5⟩⟩:=st;simp only[QN,Zm,or_false] at hb;rcases hb with rfl | rfl | rfl | rfl | rfl
  ·exact⟨_,a1,λv q=>nomatch q⟩
  ·exact⟨_,a2,λv q=>nomatch q⟩
  ·exact⟨_,a3,λv q=>nomatch q⟩
  ·exact⟨_,a4,λv q=>by rw[d4] at q;cases q⟩
  ·exact⟨_,a5,λv q=>by rw[d5] at q;cases q⟩
 keep:=λi h h' st k=>by
  obtain⟨a1,a2,⟨a,b,a3⟩,a4,a5⟩:=st;exact⟨k z (by simp) _ a1,k TI (by simp) _ a2,⟨a,b,k TO (by simp) _ a3⟩,a4.at λo e=>k i1 (by simp) o e,a5.at λo e=>k i2 (by simp) o e⟩
 item:=by
  intro X hP hw hK hc i pins s σ H E I hf st hg;subst hP hw hK;obtain⟨xs,ys,x,y,h1,h2,hx,hy⟩:=hg;obtain⟨its1,r1,p1,_⟩:=I.list (SqL.of h1);obtain⟨its2,r2,p2,_⟩:=I.list (SqL.of h2);obtain⟨u1,hu1,ru1⟩:=r1.get hx;obtain⟨u2,hu2,ru2⟩:=r2.get hy;refine Qk5 D st (Y2 p1) (Y2 p2) (by simpa using hu1) (by simpa using hu2) λh' st' tp kp=>?_
  have hlt:∀b∈[z,TI,TO,i1,i2],b≠s.heap.objs.size:=λb hb=>by
   obtain⟨a1,a2,⟨_,_,a3⟩,⟨o4,a4,_,d4⟩,⟨o5,a5,_,d5⟩⟩:=st;simp only[QN,Zm,or_false] at hb;rcases hb with rfl | rfl | rfl | rfl | rfl
   ·exact QJ (Qs a1)
   ·exact QJ (Qs a2)
   ·exact QJ (Qs a3)
   ·exact QJ (Qs a4)
   ·exact QJ (Qs a5)
  have fr:H s.heap.objs.size=none:=I.hok.fresh (Qk _);refine⟨_,rfl,QkY st'.zp λh2' z2 s2=>?_⟩;have I1:Inv X pins σ (upd H s.heap.objs.size (.tup [x,y])) { s with heap:=h2',toks:=s.toks }:=by
   refine I.turnedNew (ch:=[z,TI,TO,i1,i2]) hf (λb u hb e=>?_) (Qk _) ⟨by show 2<=sizeLine;decide,[u1,u2],.cons ru1 (.cons ru2 .nil),?_⟩
   ·simp only[QN,Zm,or_false,not_or] at hb;exact s2.extBut _ _ hb.1 (kp b u hb.1 hb.2.2.1 hb.2.2.2.1 hb.2.2.2.2 e)
   ·exact⟨_,s2.extBut _ _ (hlt z (by simp)).symm tp,rfl,0,rfl⟩
  refine⟨.ref s.heap.objs.size,_,I1,rfl,⟨_,x,y,fr,λxs' e=>?_,λys' e=>?_,rfl,rfl⟩,?_,λb hb=>?_⟩
  ·rw[h1] at e;cases e;exact hx
  ·rw[h2] at e;cases e;exact hy
  ·obtain⟨a1,a2,⟨a,b,a3⟩,a4,a5⟩:=st';exact⟨z2,s2.extBut _ _ D.TIz a2,⟨a,b,s2.extBut _ _ D.TOz a3⟩,a4.extBut s2.extBut D.i1z,a5.extBut s2.extBut D.i2z⟩
  ·rw[JX (hlt b hb)];exact(hf b hb).1
 done:=by
  intro X hP hw hK hc i pins s σ H E I hf st hg;subst hP hw hK;obtain⟨xs,ys,h1,h2,he⟩:=hg;obtain⟨its1,r1,p1,_⟩:=I.list (SqL.of h1);obtain⟨its2,r2,p2,_⟩:=I.list (SqL.of h2);have l1:=r1.length;have l2:=r2.length;refine Qoc (I.ok.hd hc) D st (Y2 p1) (Y2 p2) ?_ λh' kp=>⟨rfl,I.turnedAll (t':=s.toks) (ch:=[z,TI,TO,i1,i2]) hf λb u hb e=>?_⟩
  ·rcases he with q | q
   ·exact .inl (by simp;omega)
   ·exact .inr (by simp;omega)
  ·simp only[QN,Zm,or_false,not_or] at hb;exact kp b u hb.1 hb.2.2.1 hb.2.2.2.1 hb.2.2.2.2 e
 self:=λ_ _ _ _ _ st h=>Qc9 st.zp h
section
variable{X:Cx}
theorem QkL(n t1 t2:Nat)(h1:t1<n)(h2:t2<n):QwP (n+4) (n+2) (n+3) n (n+1) t1 t2 where
 TIz:=by show ¬(n+2=n+4);omega
 TOz:=by show ¬(n+3=n+4);omega
 i1z:=by show ¬(n=n+4);omega
 i2z:=by show ¬(n+1=n+4);omega
 TITO:=by show ¬(n+2=n+3);omega
 TIi1:=by show ¬(n+2=n);omega
 TIi2:=by show ¬(n+2=n+1);omega
 TOi1:=by show ¬(n+3=n);omega
 TOi2:=by show ¬(n+3=n+1);omega
 i12:=by show ¬(n=n+1);omega
 l1z:=by show ¬(t1=n+4);omega
 l1TO:=by show ¬(t1=n+3);omega
 l1i1:=by show ¬(t1=n);omega
 l1i2:=by show ¬(t1=n+1);omega
 l2z:=by show ¬(t2=n+4);omega
 l2TO:=by show ¬(t2=n+3);omega
 l2i1:=by show ¬(t2=n);omega
 l2i2:=by show ¬(t2=n+1);omega
def Qyo(ta:TA):TI:=λσ H R=>ta σ H λvs H1=>∃t1 t2 xs ys,vs=[.ref t1,.ref t2]/\H1 t1=some (.lst xs)/\H1 t2=some (.lst ys)/\R (Qzp t1 t2) H1
theorem Qnx:bootBuiltins "zip" = some (.type "zip"):=by decide +kernel
theorem QlU{a b:Q2}{elts:List Q2}{x1}{tpos:Pos}{ta:TA}{p pos:Pos}(hg:Gl X "zip")(hm:X.mg "zip" = none)(ha:PA X [a,b] ta)(hs:starEach [a,b] X.env=[(false,eval a X.env),(false,eval b X.env)]:=by rfl)(hs2:starEach [b] X.env=[(false,eval b X.env)]:=by rfl) :
  PI X (.Tuple elts x1 tpos) (.Call (.Name "zip" p) [a,b] [] pos) (Qyo ta):=by
 intro pins s σ H R I h;refine Call_ (QeO I hg hm Qnx (ZJ (thn (ha pos pins s σ H _ I h) λus s1 ⟨vs,H1,I1,r1,q1⟩=>?_) (by rw[hs,hs2]) (by rw[hs2];rfl)));obtain⟨t1,t2,xs,ys,e,h1,h2,q⟩:=q1;subst e;obtain⟨u,v,rfl,ru,rv⟩:=vals2 r1;cases(show u=JP t1 from ru);cases(show v=JP t2 from rv);obtain⟨its1,w1,p1,_⟩:=I1.list (SqL.of h1);obtain⟨its2,w2,p2,_⟩:=I1.list (SqL.of h2);have n1:t1<s1.heap.objs.size:=I1.hok.lt h1;have n2:t2<s1.heap.objs.size:=I1.hok.lt h2;refine Qk6 (Y2 p1) (Y2 p2) λh' st kp=>?_
 refine Qc9 (s:={ s1 with heap:=h' }) st.zp ?_
 have D:=QkL s1.heap.objs.size t1 t2 n1 n2;refine⟨s1.heap.objs.size+4,_,_,_,H1,rfl,I1.kept (t':=s1.toks) kp,Qk8 D,st,λb hb=>?_,q⟩;have hb':s1.heap.objs.size<=b:=by
  simp only[QN,Zm,or_false] at hb;rcases hb with rfl | rfl | rfl | rfl | rfl<;>omega
 exact I1.fpOk hb' (I1.hok.fresh hb')
end
def QuZ(K:PySem.W.Frag):List V->Hp->VK->Prop:=λxs H Q=>∃p ys,xs=[.ref p]/\(SqL K H p ys∨SqT K H p ys)/\Q (.int ys.length) H
theorem bt_set:bootBuiltins "set" = some (.type "set"):=by decide +kernel
theorem QaU:bootBuiltins "sorted" = some (.builtin "sorted"):=by decide +kernel
def CMulB(i j:Int):Prop:=∃k:Nat,k<=1000000/\i.natAbs<2^k/\j.natAbs<2^k
theorem QnB{i:Int}{k:Nat}(h:i.natAbs<2^k):Zk i<=k:=by
 unfold Zk;split
 ·exact Qv _
 ·rename_i z
  have hz:i.natAbs≠0:=by
   intro q;apply z
   have:i=0:=by omega
   subst this;rfl
  have:=(Nat.log2_lt hz).mpr h;omega
theorem CMulB.ok{i j:Int}(h:CMulB i j):IntMulOk i j:=by
 obtain⟨k,hk,h1,h2⟩:=h;have a:=QnB h1;have b:=QnB h2;unfold IntMulOk;have c:QfV (Zk i+Zk j:Nat)=false:=by
  unfold QfV;rw[decide_eq_false];have:bitsLine=134217728:=by decide +kernel
  rw[this];omega
 intro z;rw[JJ] at z;have z2:=z.2;have e:((Zk i+Zk j:Nat):Int)=(Zk i:Int)+(Zk j:Int):=by omega
 rw[e] at c;rw[c] at z2;cases z2
section
variable{X:Cx}
theorem Qs6:OpR X (binaryOp .Mult) (rI CMulB λi j=>.int (i*j)):=opI λ_ _ _ _ _ _ _ hc q=>mul_int q hc.ok
def iOr(a b:TI):TI:=λσ H R=>a σ H R∨b σ H R
theorem Qx4{tg e:Q2}{a b:TI}(h1:PI X tg e a)(h2:PI X tg e b):PI X tg e (iOr a b):=by
 intro pins s σ H R I h;rcases h with h | h
 ·exact h1 pins s σ H R I h
 ·exact h2 pins s σ H R I h
end
end L2
namespace Rk
open L2 _root_.Rd
def QyO(u:Nat):R2:=λx y H Q=>∃dx dy,Dat H x dx/\Dat H y dy/\u+min dx.depth dy.depth<cLine/\Q (.bl (!Ja dx dy)) H
theorem Qvy{X:Cx}:OpR X (compareOp .NotEq) (QyO X.A.units):=Qvz
def QyX(u:Nat):R2:=λx y H Q=>∃dx dy,Dat H x dx/\Dat H y dy/\u+min dx.depth dy.depth<cLine/\Q (.bl (Ja dx dy)) H
theorem QvE{X:Cx}:OpR X (compareOp .Eq) (QyX X.A.units):=Qmg
theorem Ql9{X:Cx}:OpR X (compareOp .NotIn) (QxV X.A.in1.units true):=Qma
def Qb3:Nat->Qa->Bool
 |_,.none=>true
 |_,.bool _=>true
 |_,.int _=>true
 |_,.str _=>true
 |n+1,.tuple ds=>decide (ds.length<=1000)&&ds.all (Qb3 n)
 |n+1,.list ds=>decide (ds.length<=1000)&&ds.all (Qb3 n)
 |_,_=>false
def Qid:Nat->Sp
 |0=>λ_ _ _ _=>False
 |n+1=>λvs H Q _=>∃x y d,vs=[x,y]/\Dat H x d/\Dat H y d/\Qb3 n d=true/\∀H',Same H H'->Q (.bl true) H'
theorem Qva{X:Cx}{st:Z4}{t:TS}(h:PS X.nox st t):PS X st t:=λpins s σ H D I hw=>
 wpAny_mono (h pins s σ H D (I.wish _) hw) (λ_ _ q=>SP.unwish q) λ_ _ x=>x.elim
end Rk
namespace Rx
open PySem.Calls L2
end Rx
namespace Rk
open L2 _root_.Rd
theorem QtE{n k:Nat}(h:k<n):ixN n (k:Nat)=some k:=by
 unfold ixN;rw[if_pos (by omega),if_pos (by omega)];simp
end Rk
namespace HT
section
open PySem.SeqAt
open PySem.AutoSeq1 (wpAny_loadPart')
open PySem.MeetsSeq PySem.MeetsSeq2 PySem.MeetsSeq3
end
section
variable{prog:QB}{w:Jl}{A:Q9}{E:Value->Shared->Prop}{s:Shared}
end
end HT
namespace L2
def QuV(K:PySem.W.Frag):V->Option Int->Option Int->Hp->VK->Prop:=λx lo hi H Q=>∃a xs,x=.ref a/\SqL K H a xs/\∀p H',Same H H'->H p=none->H' p=some (.lst (QkX xs lo hi))->Q (.ref p) H'
theorem Qok{X:Cx}:SlR X (QuV X.K):=by
 intro pins s σ H x v vl vu lo hi sl Q I rx hs pl pu h;obtain⟨a,xs,e,hx,q⟩:=h;exact Qsl pins s σ H x v vl vu lo hi sl Q I rx hs pl pu ⟨a,xs,e,hx,λp hp=>q p _ (Jk hp) hp Jm⟩
end L2
namespace Rk
open L2 _root_.Rd
end Rk
namespace L2
section
variable{X:Cx}
def QlA(K:PySem.W.Frag):List V->Hp->VK->Prop:=λxs H Q=>∃p ys,xs=[.ref p]/\((SqL K H p ys/\∀l H',Same H H'->H l=none->H' l=some (.tup ys)->Q (.ref l) H')∨(SqT K H p ys/\Q (.ref p) H))
theorem Zv:CallR X (.type "tuple") (QlA X.K):=by
 intro pins s σ H xs us Q I r h;obtain⟨p,ys,e,h⟩:=h;refine QgF pins s σ H xs us Q I r ⟨p,ys,e,?_⟩;rcases h with⟨h1,h2⟩ | h
 ·exact .inl ⟨h1,λl hl=>h2 l _ (Jk hl) hl Jm⟩
 ·exact .inr h
def QlD(K:PySem.W.Frag):List V->Hp->VK->Prop:=λxs H Q=>∃p ys,xs=[.ref p]/\(SqL K H p ys∨SqT K H p ys)/\∀l H',Same H H'->H l=none->H' l=some (.lst ys)->Q (.ref l) H'
theorem QbM:CallR X (.type "list") (QlD X.K):=by
 intro pins s σ H xs us Q I r h;obtain⟨p,ys,e,h1,h2⟩:=h;exact QhH pins s σ H xs us Q I r ⟨p,ys,e,h1,λl hl=>h2 l _ (Jk hl) hl Jm⟩
end
end L2
namespace Rk
open L2 _root_.Rd
end Rk
namespace L2
section
variable{X:Cx}
end
section
variable{X:Cx}
end
end L2
namespace Rk
open L2 _root_.Rd
end Rk
namespace Rx
open PySem.Calls L2
abbrev TSX:=L2.Ends->L2.St->Hp->(Addr->Hp->Prop)->Prop
def PSX(X:Cx)(st:Z4)(t:TSX):Prop:=∀(pins:List (Addr×Obj))(s:Shared)(σ:L2.St)(H:Hp)(D:L2.Ends)(Ex:Addr->Hp->Prop),Inv X pins σ H s->t D σ H Ex ->
 wpAny (model X.prog X.w) X.A (exec st X.env) (SP X pins D) (XP X pins λσ1 C H1=>σ1=σ/\Ex C H1) s
def PSXs(X:Cx)(sts:List Z4)(t:TSX):Prop:=∀(pins:List (Addr×Obj))(s:Shared)(σ:L2.St)(H:Hp)(D:L2.Ends)(Ex:Addr->Hp->Prop),Inv X pins σ H s->t D σ H Ex ->
 wpAny (model X.prog X.w) X.A (execs sts X.env) (SP X pins D) (XP X pins λσ1 C H1=>σ1=σ/\Ex C H1) s
section
variable{X:Cx}{e:Q2}{st:Z4}{pos:Pos}{te:TX}{t u:TSX}{tc:TT}{c:Q2}{a b:List Z4}
theorem Qu9(hc:PT X.nox c tc)(ha:PSXs X a t)(hb:PSXs X b u):PSX X (.If c a b pos) (λD σ H Ex=>tc σ H λd H1=>if d=true then t D σ H1 Ex else u D σ H1 Ex):=by
 intro pins s σ H D Ex I h;refine wpAny_If (wpAny_mono (hc pins s σ H _ (I.wish _) h) (λd s1 ⟨H1,J1,q1⟩=>?_) λ_ _ z=>Jx z);have I1:Inv X pins σ H1 s1:=J1.unwish;cases d with
 |true=>exact ha pins s1 σ H1 D Ex I1 q1
 |false=>exact hb pins s1 σ H1 D Ex I1 q1
theorem QoA(h1:PSX X st t):PSXs X [st] t:=by
 intro pins s σ H D Ex I h;refine Qbr (thn (h1 pins s σ H D Ex I h) λf s1 q=>?_);cases f with
 |next=>exact QaA q
 |ret v=>exact q
 |brk=>exact q
 |cont=>exact q
end
def QxH(K:PySem.W.Frag)(R:Addr)(i:Nat)(tb:TSX)(th:TE):TS:=λD σ H=>tb D σ H λC H1=>ByC K C R/\∀a,H1 a=none->th (σ.set i (some (.ref a))) (upd H1 a (exO a C)) D.rt
section
variable{X:Cx}{R:Addr}{i:Nat}{n r:Str}{body:List Z4}{hx:Q2}{tb:TSX}{th:TE}{np hp hpos pos:Pos}
theorem QsE(hstk:X.stack=X.env::X.outer)(hfr:X.env.frame=some X.env.locals)(hc:PSXs X body tb)(hN:X.N.Nodup)(hi:X.N[i]? = some n)(hl:X.env.scope.names.lookup n=some .local)
  (hg:Gl X r)(hm:X.mg r=some (.ref R))(hh:∀e,PE (mkd X e) hx th)(hd:(r == ("__debug__" : Str))=false:=by decide) :
  PS X (.Try body [.ExceptHandler (some (.Name r np)) (some n) [.Return (some hx) hp] hpos] [] [] pos) (QxH X.K R i tb th):=by
 intro pins s σ H D I h;refine wpAny_Try_except (wpAny_mono (hc pins s σ H D _ I h) (λf s1 q=>?_) λe s1 z=>?_)
 ·cases f with
  |next=>exact QaA q
  |ret v=>exact q
  |brk=>exact q
  |cont=>exact q
 obtain⟨σ1,C,H1,a,t,B,rfl,fl,fH,f0,fp,land,eσ,bc,q⟩:=z;subst eσ;rw[hstk] at fl;have fr:X.A.frames=some (X.env::X.outer):=by rw[<- hstk];exact I.ok.frames
 refine wpAny_looks_onW fr hfr fl λh4 held4 up4=>?_
 refine wpAny_landsW held4 λh5 fl5 up5=>?_
 have I5:L2.Inv X pins σ1 H1 { s1 with heap:=h5 }:=land h5 s1.toks fl5.1 (up4.trans up5);have x5:ExAt a C h5:=by
  obtain⟨oe,vs,e1,e2,e3,_⟩:=fl5.first
  exact⟨oe,vs,e1,e2,e3⟩
 refine wpAny_handleBy_cons (codeAny_handlers_test (Qdv (X:=mkd X (.ref a)) (QmS I5 _) hg hm ?_ hd)) (by intro q;cases q);refine Qkp (s:={ s1 with heap:=h5 }) I5.kIn x5 bc ?_
 refine codeAny_handlers_suite_as ?_
 refine lands_againW fl5 λh6 fl6 up6=>?_
 have I6:L2.Inv X pins σ1 H1 { s1 with heap:=h6 }:=land h6 s1.toks fl6.1 ((up4.trans up5).trans up6);have x6:ExAt a C h6:=by
  obtain⟨oe,vs,e1,e2,e3,_⟩:=fl6.first
  exact⟨oe,vs,e1,e2,e3⟩
 have I7:=QmR I6 fH f0 fp x6;refine Qf4 I7 hN hi (QZ hl) (show RelV (.ref a) (.ref a) from rfl) (λs8 I8=>?_) (.inr hl);refine Qbr (QgU (wpAny_mono (hh (.ref a) pins s8 _ _ _ (QmS I8 _) (q a fH)) (λv s9 ⟨x,H9,I9,r9,q9⟩=>?_) λ_ _ z=>z.elim));have J9:L2.Inv X pins _ H9 s9:=QpC I.ok I9;obtain⟨m,hn,hmm⟩:=id J9.loc;refine wpAny_nameGoes_keeps hl hn (by rw[I.ok.kind];rfl) λh' v' hn' hs'=>?_
 exact⟨x,_,H9,QpD J9 hN hi hmm hn' hs',r9,q9⟩
end
end Rx
namespace L2
section
variable{X:Cx}
end
end L2
namespace Rk
open L2 _root_.Rd
end Rk
namespace Dl
open L2 _root_.Rd Rk
def dkV(kvs:List (Int×Int)):List (Key×V):=kvs.map λp=>(QbU p.1,V.int p.2)
def dkD(kvs:List (Int×Int)):List (Qa×Qa):=kvs.map λp=>(Qp p.1,Qp p.2)
mutual
inductive DA (A:Addr->Prop) (H:Hp):V->Qa->Prop
 |non:DA A H .non .none
 |bl (b:Bool):DA A H (.bl b) (.bool b)
 |int (i:Int):DA A H (.int i) (.int i)
 |str (x:Str):YY (.str x)=true->DA A H (.str x) (.str x)
 |tup {a:Addr} {xs:List V} {ds:List Qa}:¬A a->H a=some (.tup xs)->DAs A H xs ds->DA A H (.ref a) (.tuple ds)
 |lst {a:Addr} {xs:List V} {ds:List Qa}:¬A a->H a=some (.lst xs)->DAs A H xs ds->DA A H (.ref a) (.list ds)
 |dct {a:Addr} {kvs:List (Int×Int)} {ds:List (Qa×Qa)}:¬A a->H a=some (.dK (dkV kvs))->ds=dkD kvs->DA A H (.ref a) (.dict ds)
inductive DAs (A:Addr->Prop) (H:Hp):List V->List Qa->Prop
 |nil:DAs A H [] []
 |cons {x:V} {xs:List V} {d:Qa} {ds:List Qa}:DA A H x d->DAs A H xs ds->DAs A H (x::xs) (d::ds)
end
mutual
theorem Qwm{A A':Addr->Prop}{H H':Hp}(k:∀a o,¬A a->H a=some o->H' a=some o)(m:∀a,A' a->A a∨H a=none):∀(d:Qa)(x:V),DA A H x d->DA A' H' x d
 |.none,_,.non=>.non
 |.bool _,_,.bl _=>.bl _
 |.int _,_,.int _=>.int _
 |.str _,_,.str _ c=>.str _ c
 |.tuple ds,_,.tup (xs:=xs) n e q=>.tup (λz=>(m _ z).elim n λz=>by rw[z] at e;cases e) (k _ _ n e) (QjN k m ds xs q)
 |.list ds,_,.lst (xs:=xs) n e q=>.lst (λz=>(m _ z).elim n λz=>by rw[z] at e;cases e) (k _ _ n e) (QjN k m ds xs q)
 |.dict _,_,.dct n e q=>.dct (λz=>(m _ z).elim n λz=>by rw[z] at e;cases e) (k _ _ n e) q
theorem QjN{A A':Addr->Prop}{H H':Hp}(k:∀a o,¬A a->H a=some o->H' a=some o)(m:∀a,A' a->A a∨H a=none):∀(ds:List Qa)(xs:List V),DAs A H xs ds->DAs A' H' xs ds
 |[],_,.nil=>.nil
 |d::ds,_,.cons (x:=x) (xs:=xs) q qs=>.cons (Qwm k m d x q) (QjN k m ds xs qs)
end
theorem DA.mv{A A':Addr->Prop}{H H':Hp}{x:V}{d:Qa}(q:DA A H x d)(k:∀a o,¬A a->H a=some o->H' a=some o)(m:∀a,A' a->A a∨H a=none):DA A' H' x d:=Qwm k m d x q
theorem DAs.mv{A A':Addr->Prop}{H H':Hp}{x:List V}{d:List Qa}(q:DAs A H x d)(k:∀a o,¬A a->H a=some o->H' a=some o)(m:∀a,A' a->A a∨H a=none):DAs A' H' x d:=QjN k m d x q
theorem DA.same{A:Addr->Prop}{H H':Hp}{x:V}{d:Qa}(q:DA A H x d)(s:Same H H'):DA A H' x d:=q.mv (λa o _ e=>s a o e) λa z=>.inl z
theorem DAs.same{A:Addr->Prop}{H H':Hp}{x:List V}{d:List Qa}(q:DAs A H x d)(s:Same H H'):DAs A H' x d:=q.mv (λa o _ e=>s a o e) λa z=>.inl z
theorem DAs.length{A:Addr->Prop}{H:Hp}:∀{xs:List V}{ds:List Qa},DAs A H xs ds->xs.length=ds.length
 |_,_,.nil=>rfl
 |_,_,.cons _ q=>by rw[QC,QC,q.length]
theorem DAs.get{A:Addr->Prop}{H:Hp}:∀{xs:List V}{ds:List Qa},DAs A H xs ds->∀(i:Nat)(d:Qa),ds[i]? = some d->∃x,xs[i]? = some x/\DA A H x d
 |_,_,.nil,i,x,e=>by simp at e
 |_,_,.cons q qs,0,x,e=>by simp at e;subst e;exact⟨_,rfl,q⟩
 |_,_,.cons q qs,i+1,x,e=>qs.get i x (by simpa using e)
theorem DAs.getV{A:Addr->Prop}{H:Hp}:∀{xs:List V}{ds:List Qa},DAs A H xs ds->∀(i:Nat)(x:V),xs[i]? = some x->∃d,ds[i]? = some d/\DA A H x d
 |_,_,.nil,i,x,e=>by simp at e
 |_,_,.cons q qs,0,x,e=>by simp at e;subst e;exact⟨_,rfl,q⟩
 |_,_,.cons q qs,i+1,x,e=>qs.getV i x (by simpa using e)
theorem DAs.app{A:Addr->Prop}{H:Hp}:∀{xs ys:List V}{ds es:List Qa},DAs A H xs ds->DAs A H ys es->DAs A H (xs++ys) (ds++es)
 |_,_,_,_,.nil,q=>q
 |_,_,_,_,.cons a b,q=>.cons a (b.app q)
theorem DAs.take{A:Addr->Prop}{H:Hp}:∀{xs:List V}{ds:List Qa},DAs A H xs ds->∀n:Nat,DAs A H (xs.take n) (ds.take n)
 |_,_,.nil,n=>by rw[QiY,QiY];exact .nil
 |_,_,.cons a b,0=>.nil
 |_,_,.cons a b,n+1=>.cons a (b.take n)
theorem DAs.drop{A:Addr->Prop}{H:Hp}:∀{xs:List V}{ds:List Qa},DAs A H xs ds->∀n:Nat,DAs A H (xs.drop n) (ds.drop n)
 |_,_,.nil,n=>by rw[QwV,QwV];exact .nil
 |_,_,.cons a b,0=>.cons a b
 |_,_,.cons a b,n+1=>b.drop n
theorem DAs.set{A:Addr->Prop}{H:Hp}{x:V}{d:Qa}(q:DA A H x d):∀{xs:List V}{ds:List Qa},DAs A H xs ds->∀n:Nat,DAs A H (xs.set n x) (ds.set n d)
 |_,_,.nil,n=>.nil
 |_,_,.cons a b,0=>.cons q b
 |_,_,.cons a b,n+1=>.cons a (b.set q n)
theorem DAs.rev{A:Addr->Prop}{H:Hp}:∀{xs:List V}{ds:List Qa},DAs A H xs ds->DAs A H xs.reverse ds.reverse
 |_,_,.nil=>.nil
 |_,_,.cons a b=>by rw[QbX,QbX];exact b.rev.app (.cons a .nil)
mutual
def nd:Qa->Bool
 |.dict _=>false
 |.tuple ds=>nds ds
 |.list ds=>nds ds
 |_=>true
def nds:List Qa->Bool
 |[]=>true
 |d::ds=>nd d&&nds ds
end
mutual
theorem QhC{A:Addr->Prop}{H:Hp}:∀(d:Qa)(x:V),nd d=true->DA A H x d->Dat H x d
 |.none,_,_,.non=>.non
 |.bool _,_,_,.bl _=>.bl _
 |.int _,_,_,.int _=>.int _
 |.str _,_,_,.str _ c=>.str _ c
 |.tuple ds,_,n,.tup (xs:=xs) _ e q=>.tup e (QbK ds xs n q)
 |.list ds,_,n,.lst (xs:=xs) _ e q=>.lst e (QbK ds xs n q)
theorem QbK{A:Addr->Prop}{H:Hp}:∀(ds:List Qa)(xs:List V),nds ds=true->DAs A H xs ds->Dats H xs ds
 |[],_,_,.nil=>.nil
 |d::ds,_,n,.cons (x:=x) (xs:=xs) q qs=>by
  have n':=Qo.mp (show(nd d&&nds ds)=true from n);exact .cons (QhC d x n'.1 q) (QbK ds xs n'.2 qs)
end
theorem QbH{ds:List Qa}:nds ds=true↔∀d∈ds,nd d=true:=by
 induction ds with
 |nil=>exact⟨(λ_ _ h=>nomatch h),λ_=>rfl⟩
 |cons d ds ih=>
  rw[show nds (d::ds)=(nd d&&nds ds) from rfl,Qo,ih];constructor
  ·rintro⟨a,b⟩ e he;rcases QN.mp he with z | z
   ·rw[z];exact a
   ·exact b e z
  ·intro h;exact⟨h d (by simp),λe he=>h e (by simp[he])⟩
def DP(A P:Addr->Prop)(H:Hp)(v:V)(d:Qa):Prop:=DA A H v d∨∃l xs ds,v=.ref l/\d=.list ds/\¬P l/\H l=some (.lst xs)/\DAs A H xs ds
theorem DP.dat{A P:Addr->Prop}{H:Hp}{v:V}{d:Qa}(h:DP A P H v d)(n:nd d=true):Dat H v d:=by
 rcases h with h | ⟨l,xs,ds,rfl,rfl,_,e,q⟩
 ·exact QhC d v n h
 ·exact .lst e (QbK ds xs n q)
theorem DP.list{A P:Addr->Prop}{H:Hp}{v:V}{ds:List Qa}(h:DP A P H v (.list ds)):∃l xs,v=.ref l/\H l=some (.lst xs)/\DAs A H xs ds:=by
 rcases h with h | ⟨l,xs,ds',rfl,e,_,h2,q⟩
 ·cases h with | lst n e q=>exact⟨_,_,rfl,e,q⟩
 ·cases e;exact⟨l,xs,rfl,h2,q⟩
theorem DP.tuple{A P:Addr->Prop}{H:Hp}{v:V}{ds:List Qa}(h:DP A P H v (.tuple ds)):∃l xs,v=.ref l/\H l=some (.tup xs)/\DAs A H xs ds:=by
 rcases h with h | ⟨l,xs,ds',rfl,e,_⟩
 ·cases h with | tup n e q=>exact⟨_,_,rfl,e,q⟩
 ·cases e
theorem DP.int{A P:Addr->Prop}{H:Hp}{v:V}{i:Int}(h:DP A P H v (.int i)):v=.int i:=by
 rcases h with h | ⟨l,xs,ds',rfl,e,_⟩
 ·cases h;rfl
 ·cases e
theorem DP.bool{A P:Addr->Prop}{H:Hp}{v:V}{i:Bool}(h:DP A P H v (.bool i)):v=.bl i:=by
 rcases h with h | ⟨l,xs,ds',rfl,e,_⟩
 ·cases h;rfl
 ·cases e
theorem DP.none{A P:Addr->Prop}{H:Hp}{v:V}(h:DP A P H v .none):v=.non:=by
 rcases h with h | ⟨l,xs,ds',rfl,e,_⟩
 ·cases h;rfl
 ·cases e
theorem DP.str{A P:Addr->Prop}{H:Hp}{v:V}{x:Str}(h:DP A P H v (.str x)):v=.str x/\YY (.str x)=true:=by
 rcases h with h | ⟨l,xs,ds',rfl,e,_⟩
 ·cases h with | str _ c=>exact⟨rfl,c⟩
 ·cases e
inductive Sl where
 |no | pot | scr
 |v (d:Qa)
 |own (ds:List Qa)
 |pk (ds:List Qa)
abbrev Sts:=List Sl
structure Fm where
 H0:Hp
 A0:Addr->Prop
 pt:Addr->Prop
def Qzn(σ:L2.St)(δ:Sts)(i:Nat)(a:Addr):Prop:=σ[i]? = some (some (.ref a))/\(δ[i]? = some .pot∨∃ds,δ[i]? = some (.own ds))
def Av(F:Fm)(σ:L2.St)(δ:Sts)(a:Addr):Prop:=F.A0 a∨∃i,Qzn σ δ i a
def Z3(σ:L2.St)(δ:Sts)(a:Addr):Prop:=∃i:Nat,σ[i]? = some (some (.ref a))/\δ[i]? = some .pot
def Qzl(K:PySem.W.Frag)(F:Fm)(H:Hp)(A:Addr->Prop)(o:Option V):Sl->Prop
 |.no=>True
 |.v d=>∃v,o=some v/\DA A H v d
 |.own ds=>∃l xs,o=some (.ref l)/\H l=some (.lst xs)/\DAs A H xs ds/\F.H0 l=none
 |.pk ds=>∃l xs,o=some (.ref l)/\H l=some (.lst xs)/\DAs A H xs ds/\∃ys,F.H0 l=some (.lst ys)/\¬F.pt l
 |.pot=>∃p n,o=some (.ref p)/\H p=some (.lst [.int n])/\(F.pt p∨F.H0 p=none)
 |.scr=>∃a ns,o=some (.ref a)/\SqL K F.H0 a ((ns:List Int).map V.int)/\¬F.pt a/\ns.length<=63
structure Rel (K:PySem.W.Frag) (F:Fm) (σ:L2.St) (H:Hp) (δ:Sts):Prop where
 len:σ.length=δ.length
 dom:∀a,F.A0 a->∃xs,H a=some (.lst xs)
 dom0:∀a,F.A0 a->∃xs,F.H0 a=some (.lst xs)
 pt0:∀p,F.pt p->F.A0 p/\∃n,H p=some (.lst [.int n])
 kx:∀b o,¬F.pt b->F.H0 b=some o->H b=some o
 sl:∀(i:Nat) o x,σ[i]? = some o->δ[i]? = some x->Qzl K F H (Av F σ δ) o x
 inj:∀(i j:Nat) a ds,δ[i]? = some (.own ds)->σ[i]? = some (some (.ref a))->Qzn σ δ j a->i=j
def Kp(σ:L2.St)(δ:Sts)(H H':Hp):Prop:=(∀b o,¬Z3 σ δ b->H b=some o->H' b=some o)/\∀b,Z3 σ δ b->∃n,H' b=some (.lst [.int n])
def Stp(F:Fm)(σ:L2.St)(H:Hp)(δ:Sts)(σ':L2.St)(H':Hp)(δ':Sts):Prop:=(∀b o,¬Av F σ δ b->H b=some o->H' b=some o)/\∀b,Av F σ' δ' b->Av F σ δ b∨H b=none
def Ke(F:Fm)(H':Hp):Prop:=(∀b o,¬F.pt b->F.H0 b=some o->H' b=some o)/\∀p,F.pt p->∃n,H' p=some (.lst [.int n])
theorem Yy{F:Fm}{σ:L2.St}{δ:Sts}{a:Addr}(h:Z3 σ δ a):Av F σ δ a:=let ⟨i,h1,h2⟩:=h;.inr ⟨i,h1,.inl h2⟩
theorem Rel.ke{K:PySem.W.Frag}{F:Fm}{σ:L2.St}{H:Hp}{δ:Sts}(r:Rel K F σ H δ):Ke F H:=⟨r.kx,λp hp=>(r.pt0 p hp).2⟩
theorem Rel.isl{K:PySem.W.Frag}{F:Fm}{σ:L2.St}{H:Hp}{δ:Sts}(r:Rel K F σ H δ){a:Addr}(h:Av F σ δ a):∃xs,H a=some (.lst xs):=by
 rcases h with h | ⟨i,h1,h2⟩
 ·exact r.dom a h
 ·rcases h2 with h2 | ⟨ds,h2⟩
  ·obtain⟨p,n,e,h,_⟩:=r.sl i _ _ h1 h2;cases e;exact⟨_,h⟩
  ·obtain⟨l,xs,e,h,_⟩:=r.sl i _ _ h1 h2;cases e;exact⟨_,h⟩
theorem Kp.refl{K:PySem.W.Frag}{F:Fm}{σ:L2.St}{H:Hp}{δ:Sts}(r:Rel K F σ H δ):Kp σ δ H H:=⟨λ_ _ _ e=>e,λb ⟨i,h1,h2⟩=>by
 obtain⟨p,n,e,h,_⟩:=r.sl i _ _ h1 h2;cases e;exact⟨n,h⟩⟩
theorem Kp.trans{σ:L2.St}{δ:Sts}{H H1 H2:Hp}(a:Kp σ δ H H1)(b:Kp σ δ H1 H2):Kp σ δ H H2:=⟨λc o n e=>b.1 c o n (a.1 c o n e),b.2⟩
theorem Kp.same{K:PySem.W.Frag}{F:Fm}{σ:L2.St}{H H':Hp}{δ:Sts}(r:Rel K F σ H δ)(s:Same H H'):Kp σ δ H H':=⟨λb o _ e=>s b o e,λb hb=>let ⟨n,h⟩:=(Kp.refl r).2 b hb;⟨n,s _ _ h⟩⟩
theorem Kp.da{F:Fm}{σ:L2.St}{H H':Hp}{δ:Sts}{v:V}{d:Qa}(k:Kp σ δ H H')(h:DA (Av F σ δ) H v d):DA (Av F σ δ) H' v d:=h.mv (λa o n e=>k.1 a o (λz=>n (Yy z)) e) λa z=>.inl z
theorem Kp.das{F:Fm}{σ:L2.St}{H H':Hp}{δ:Sts}{v:List V}{d:List Qa}(k:Kp σ δ H H')(h:DAs (Av F σ δ) H v d):DAs (Av F σ δ) H' v d:=h.mv (λa o n e=>k.1 a o (λz=>n (Yy z)) e) λa z=>.inl z
theorem Kp.dp{F:Fm}{σ:L2.St}{H H':Hp}{δ:Sts}{v:V}{d:Qa}(k:Kp σ δ H H')(h:DP (Av F σ δ) (Z3 σ δ) H v d):DP (Av F σ δ) (Z3 σ δ) H' v d:=by
 rcases h with h | ⟨l,xs,ds,e1,e2,n,e,q⟩
 ·exact .inl (k.da h)
 ·exact .inr ⟨l,xs,ds,e1,e2,n,k.1 _ _ n e,k.das q⟩
theorem Rel.own_pot{K:PySem.W.Frag}{F:Fm}{σ:L2.St}{H:Hp}{δ:Sts}(r:Rel K F σ H δ){i:Nat}{ds:List Qa}{l:Addr}(h:δ[i]? = some (.own ds))(e:σ[i]? = some (some (.ref l))):¬Z3 σ δ l:=by
 rintro⟨j,h1,h2⟩;have:=r.inj i j l _ h e ⟨h1,.inl h2⟩;subst this;rw[h] at h2;cases h2
theorem Rel.pt_pot{K:PySem.W.Frag}{F:Fm}{σ:L2.St}{H H':Hp}{δ:Sts}(r:Rel K F σ H δ)(k:Kp σ δ H H'){p:Addr}(hp:F.pt p):∃n,H' p=some (.lst [.int n]):=by
 by_cases z:Z3 σ δ p
 ·exact k.2 p z
 ·obtain⟨n,e⟩:=(r.pt0 p hp).2;exact⟨n,k.1 _ _ z e⟩
theorem Rel.kp{K:PySem.W.Frag}{F:Fm}{σ:L2.St}{H H':Hp}{δ:Sts}(r:Rel K F σ H δ)(k:Kp σ δ H H'):Rel K F σ H' δ where
 len:=r.len
 dom:=λa ha=>by
  by_cases z:Z3 σ δ a
  ·exact⟨_,(k.2 a z).choose_spec⟩
  ·obtain⟨xs,e⟩:=r.dom a ha;exact⟨xs,k.1 _ _ z e⟩
 dom0:=r.dom0
 pt0:=λp hp=>⟨(r.pt0 p hp).1,r.pt_pot k hp⟩
 kx:=λb o n e=>by
  by_cases z:Z3 σ δ b
  ·obtain⟨i,h1,h2⟩:=z;obtain⟨p,m,e1,h,q⟩:=r.sl i _ _ h1 h2;cases e1;rcases q with q | q
   ·exact absurd q n
   ·rw[q] at e;cases e
  ·exact k.1 _ _ z (r.kx b o n e)
 sl:=λi o x h1 h2=>by
  have h:=r.sl i o x h1 h2;cases x with
  |no=>trivial
  |v d=>obtain⟨v,e,q⟩:=h;exact⟨v,e,k.da q⟩
  |own ds=>obtain⟨l,xs,rfl,e,q,f⟩:=h;exact⟨l,xs,rfl,k.1 _ _ (r.own_pot h2 h1) e,k.das q,f⟩
  |pk ds=>
   obtain⟨l,xs,rfl,e,q,ys,f,f2⟩:=h;refine⟨l,xs,rfl,k.1 _ _ ?_ e,k.das q,ys,f,f2⟩;rintro⟨j,j1,j2⟩;obtain⟨p,m,e1,_,w⟩:=r.sl j _ _ j1 j2;cases e1;rcases w with w | w
   ·exact f2 w
   ·rw[w] at f;cases f
  |pot=>
   obtain⟨p,n,rfl,e,q⟩:=h;obtain⟨m,e'⟩:=k.2 p ⟨i,h1,h2⟩;exact⟨p,m,rfl,e',q⟩
  |scr=>exact h
 inj:=r.inj
theorem Rel.same{K:PySem.W.Frag}{F:Fm}{σ:L2.St}{H H':Hp}{δ:Sts}(r:Rel K F σ H δ)(s:Same H H'):Rel K F σ H' δ:=r.kp (Kp.same r s)
theorem Stp.refl{F:Fm}{σ:L2.St}{H:Hp}{δ:Sts}:Stp F σ H δ σ H δ:=⟨λ_ _ _ e=>e,λ_ z=>.inl z⟩
theorem Stp.trans{F:Fm}{σ σ1 σ2:L2.St}{H H1 H2:Hp}{δ δ1 δ2:Sts}(a:Stp F σ H δ σ1 H1 δ1)(b:Stp F σ1 H1 δ1 σ2 H2 δ2):Stp F σ H δ σ2 H2 δ2:=by
 refine⟨λc o n e=>?_,λc z=>?_⟩
 ·refine b.1 c o (λz=>?_) (a.1 c o n e);rcases a.2 c z with q | q
  ·exact n q
  ·rw[q] at e;cases e
 ·rcases b.2 c z with q | q
  ·exact a.2 c q
  ·by_cases y:Av F σ δ c
   ·exact .inl y
   ·right
    cases e:H c with
    |none=>rfl
    |some o=>rw[a.1 c o y e] at q;cases q
theorem Stp.kp{F:Fm}{σ:L2.St}{H H':Hp}{δ:Sts}(k:Kp σ δ H H'):Stp F σ H δ σ H' δ:=⟨λb o n e=>k.1 b o (λz=>n (Yy z)) e,λ_ z=>.inl z⟩
theorem Stp.da{F:Fm}{σ σ':L2.St}{H H':Hp}{δ δ':Sts}{v:V}{d:Qa}(k:Stp F σ H δ σ' H' δ')(h:DA (Av F σ δ) H v d):DA (Av F σ' δ') H' v d:=h.mv k.1 k.2
abbrev XP:=Addr->Prop
abbrev DE:=Sts->(Qa->Prop)->XP->Prop
abbrev DT:=Sts->(Bool->Prop)->XP->Prop
abbrev DAr:=Sts->(List Qa->Prop)->XP->Prop
abbrev DSl:=Sts->(List Sl->Prop)->XP->Prop
inductive Md where | D | P | F
def FrV(H H':Hp)(v:V):Prop:=∀l,v=.ref l->(∃xs,H' l=some (.lst xs))->H l=none
def Vok(m:Md)(F:Fm)(σ:L2.St)(δ:Sts)(H H':Hp)(v:V)(d:Qa):Prop:=
 match m with
 |.D=>DA (Av F σ δ) H' v d
 |.P=>DP (Av F σ δ) (Z3 σ δ) H' v d
 |.F=>DA (Av F σ δ) H' v d/\FrV H H' v
def Out(F:Fm)(E:XK)(EX:XP):Prop:=∀C,EX C->∀H',Ke F H'->E (.ref C) none H'
def tX(m:Md)(K:PySem.W.Frag)(E:XK)(w:DE):TE:=λσ H Q=>∃(F:Fm)(δ:Sts)(R:Qa->Prop)(EX:XP),Rel K F σ H δ/\w δ R EX/\(∀d,R d->∀v H',Rel K F σ H' δ->Kp σ δ H H'->Vok m F σ δ H H' v d->Q v H')/\Out F E EX
def tT(K:PySem.W.Frag)(E:XK)(w:DT):TT:=λσ H Q=>∃(F:Fm)(δ:Sts)(R:Bool->Prop)(EX:XP),Rel K F σ H δ/\w δ R EX/\(∀b,R b->∀H',Rel K F σ H' δ->Kp σ δ H H'->Q b H')/\Out F E EX
def VD(m:Md)(A P:Addr->Prop)(H:Hp)(v:V)(d:Qa):Prop:=
 match m with
 |.P=>DP A P H v d
 |_=>DA A H v d
def tAr(n:Nat)(m:Md)(K:PySem.W.Frag)(E:XK)(w:DAr):TA:=λσ H Q=>∃(F:Fm)(δ:Sts)(R:List Qa->Prop)(EX:XP),Rel K F σ H δ/\w δ R EX/\(∀ds,R ds->ds.length=n->∀vs H',Rel K F σ H' δ->Kp σ δ H H'->YK (VD m (Av F σ δ) (Z3 σ δ) H') vs ds->Q vs H')/\Out F E EX
def QiX(A pt:Addr->Prop)(H:Hp)(v:V):Sl->Prop
 |.v d=>DA A H v d
 |.pot=>∃p,v=.ref p/\pt p
 |_=>False
def tAs(K:PySem.W.Frag)(E:XK)(w:DSl):TA:=λσ H Q=>∃(F:Fm)(δ:Sts)(R:List Sl->Prop)(EX:XP),Rel K F σ H δ/\w δ R EX/\(∀ds,R ds->∀vs H',Rel K F σ H' δ->Kp σ δ H H'->YK (QiX (Av F σ δ) (Z3 σ δ) H') vs ds->Q vs H')/\Out F E EX
theorem Kp.vd{m:Md}{F:Fm}{σ:L2.St}{H H':Hp}{δ:Sts}{v:V}{d:Qa}(k:Kp σ δ H H')(h:VD m (Av F σ δ) (Z3 σ δ) H v d):VD m (Av F σ δ) (Z3 σ δ) H' v d:=by
 cases m
 ·exact k.da h
 ·exact k.dp h
 ·exact k.da h
theorem Kp.arg{F:Fm}{σ:L2.St}{H H':Hp}{δ:Sts}{v:V}{d:Sl}(k:Kp σ δ H H')(h:QiX (Av F σ δ) (Z3 σ δ) H v d):QiX (Av F σ δ) (Z3 σ δ) H' v d:=by
 cases d with
 |v d=>exact k.da h
 |pot=>exact h
 |_=>exact h.elim
def Qd0(H:Hp):Prop:=∀a xs,H a=some (.lst xs)∨H a=some (.tup xs)->xs.length<=sizeLine
section
variable{X:Cx}{E:XK}
theorem Inv.lens{pins:List (Addr×Obj)}{σ:L2.St}{H:Hp}{s:Shared}(I:Inv X pins σ H s):Qd0 H:=λa xs h=>by
 rcases h with h | h
 ·exact(I.hok a _ h).1
 ·exact(I.hok a _ h).1
theorem PE.imp{e:Q2}{t t':TE}(h:PE X e t)(i:∀σ H Q,t' σ H Q->t σ H Q):PE X e t':=λpins s σ H Q I q=>h pins s σ H Q I (i σ H Q q)
theorem PT.imp{e:Q2}{t t':TT}(h:PT X e t)(i:∀σ H Q,t' σ H Q->t σ H Q):PT X e t':=λpins s σ H Q I q=>h pins s σ H Q I (i σ H Q q)
theorem PW.imp{e:Q2}{t t':TT}(h:PW X e t)(i:∀σ H Q,t' σ H Q->t σ H Q):PW X e t':=λwh pins s σ H Q I q=>h wh pins s σ H Q I (i σ H Q q)
theorem PA.imp{e:List Q2}{t t':TA}(h:PA X e t)(i:∀σ H Q,t' σ H Q->t σ H Q):PA X e t':=λpos pins s σ H Q I q=>h pos pins s σ H Q I (i σ H Q q)
theorem OpR.len{f:Value->Value->Sem Value}{r:R2}(h:OpR X f r):OpR X f (λx y H Q=>Qd0 H->r x y H Q):=λpins s σ H x y v u Q I rx ry q=>h pins s σ H x y v u Q I rx ry (q (Inv.lens I))
theorem CallR.len{f:Value}{r:List V->Hp->VK->Prop}(h:CallR X f r):CallR X f (λxs H Q=>Qd0 H->r xs H Q):=λpins s σ H xs us Q I rx q=>h pins s σ H xs us Q I rx (q (Inv.lens I))
theorem IxR.len{r:R2}(h:IxR X r):IxR X (λx y H Q=>Qd0 H->r x y H Q):=λa b pins s σ H x y v u Q I rx ry q hs=>h a b pins s σ H x y v u Q I rx ry (q (Inv.lens I)) hs
theorem OpR.or2{f:Value->Value->Sem Value}{r r':R2}(h:OpR X f r)(h':OpR X f r'):OpR X f (λx y H Q=>r x y H Q∨r' x y H Q):=OpR.or h h'
theorem IxR.or2{r r':R2}(h:IxR X r)(h':IxR X r'):IxR X (λx y H Q=>r x y H Q∨r' x y H Q):=λa b pins s σ H x y v u Q I rx ry q hs=>q.elim (λq=>h a b pins s σ H x y v u Q I rx ry q hs) λq=>h' a b pins s σ H x y v u Q I rx ry q hs
theorem SlR.or2{r r':V->Option Int->Option Int->Hp->VK->Prop}(h:SlR X r)(h':SlR X r'):SlR X (λx a b H Q=>r x a b H Q∨r' x a b H Q):=λpins s σ H x v vl vu lo hi sl Q I rx hs pl pu q=>q.elim (h pins s σ H x v vl vu lo hi sl Q I rx hs pl pu) (h' pins s σ H x v vl vu lo hi sl Q I rx hs pl pu)
theorem toD{e:Q2}{w:DE}(h:PE X e (tX .F X.K E w)):PE X e (tX .D X.K E w):=PE.imp h λσ H Q ⟨F,δ,R,EX,r,hw,k,o⟩=>⟨F,δ,R,EX,r,hw,λd hd v H' r' kp vk=>k d hd v H' r' kp vk.1,o⟩
theorem toP{e:Q2}{w:DE}(h:PE X e (tX .D X.K E w)):PE X e (tX .P X.K E w):=PE.imp h λσ H Q ⟨F,δ,R,EX,r,hw,k,o⟩=>⟨F,δ,R,EX,r,hw,λd hd v H' r' kp vk=>k d hd v H' r' kp (.inl vk),o⟩
theorem Qzr{e:Q2}{w:DE}(h:PE X e (tX .F X.K E w)):PE X e (tX .P X.K E w):=toP (toD h)
def Qyy(i:Nat):DE:=λδ Q _=>match δ[i]? with
 |some (.v d)=>Q d
 |_=>False
def dPk(i:Nat):DE:=λδ Q _=>match δ[i]? with
 |some (.v d)=>Q d
 |some (.own ds)=>Q (.list ds)
 |some (.pk ds)=>Q (.list ds)
 |_=>False
def dC(d:Qa):DE:=λ_ Q _=>Q d
theorem Rel.lt{K:PySem.W.Frag}{F:Fm}{σ:L2.St}{H:Hp}{δ:Sts}(r:Rel K F σ H δ){i:Nat}{x:Sl}(h:δ[i]? = some x):∃o,σ[i]? = some o:=by
 have:=(QU.mp h).1;exact⟨σ[i]'(by rw[r.len];exact this),Ql _⟩
theorem Qvg{e:Q2}{i:Nat}(h:PE X e (QhW i)):PE X e (tX .D X.K E (Qyy i)):=PE.imp h λσ H Q ⟨F,δ,R,EX,r,hw,k,o⟩=>by
 unfold Qyy at hw;split at hw
 ·rename_i d hd
  obtain⟨x,hx⟩:=r.lt hd;obtain⟨v,rfl,q⟩:=r.sl i _ _ hx hd;exact⟨v,hx,k d hw v H r (Kp.refl r) q⟩
 ·exact hw.elim
theorem Qx7{e:Q2}{i:Nat}(h:PE X e (QhW i)):PE X e (tX .P X.K E (dPk i)):=PE.imp h λσ H Q ⟨F,δ,R,EX,r,hw,k,o⟩=>by
 unfold dPk at hw;split at hw
 ·rename_i d hd
  obtain⟨x,hx⟩:=r.lt hd;obtain⟨v,rfl,q⟩:=r.sl i _ _ hx hd;exact⟨v,hx,k d hw v H r (Kp.refl r) (.inl q)⟩
 ·rename_i d hd
  obtain⟨x,hx⟩:=r.lt hd;obtain⟨l,xs,rfl,e,q,_⟩:=r.sl i _ _ hx hd;exact⟨_,hx,k _ hw _ H r (Kp.refl r) (.inr ⟨l,xs,d,rfl,rfl,r.own_pot hd hx,e,q⟩)⟩
 ·rename_i d hd
  obtain⟨x,hx⟩:=r.lt hd;obtain⟨l,xs,rfl,e,q,ys,f,f2⟩:=r.sl i _ _ hx hd;refine⟨_,hx,k _ hw _ H r (Kp.refl r) (.inr ⟨l,xs,d,rfl,rfl,?_,e,q⟩)⟩;rintro⟨j,j1,j2⟩;obtain⟨p,m,e1,_,w⟩:=r.sl j _ _ j1 j2;cases e1;rcases w with w | w
  ·exact f2 w
  ·rw[w] at f;cases f
 ·exact hw.elim
theorem Qvt{e:Q2}{v:V}{d:Qa}(h:PE X e (tC v))(q:∀(A:Addr->Prop)(H:Hp),DA A H v d):PE X e (tX .D X.K E (dC d)):=PE.imp h λσ H Q ⟨F,δ,R,EX,r,hw,k,o⟩=>k d hw v H r (Kp.refl r) (q _ _)
theorem Qvp{i:Int}{j pos}:PE X (.Constant (.int i) j pos) (tX .D X.K E (dC (.int i))):=Qvt YQ λ_ _=>.int i
theorem Qya{b:Bool}{j pos}:PE X (.Constant (.bool b) j pos) (tX .D X.K E (dC (.bool b))):=Qvt QoM λ_ _=>.bl b
theorem Qvm{j pos}:PE X (.Constant .none j pos) (tX .D X.K E (dC .none)):=Qvt Qry λ_ _=>.non
theorem Qvi{x:Str}{j pos}(h:YY (.str x)=true:=by decide +kernel):PE X (.Constant (.str x) j pos) (tX .D X.K E (dC (.str x))):=Qvt QlY λ_ _=>.str x h
def OpD(r:R2)(rD:Qa->Qa->(Qa->Prop)->Prop):Prop:=∀(A P:Addr->Prop)(H:Hp)(x y:V)(d1 d2:Qa)(R:Qa->Prop)(Q:VK),Qd0 H->(∀a,A a->∃xs,H a=some (.lst xs))->DP A P H x d1->DP A P H y d2->rD d1 d2 R ->
 (∀d,R d->∀v H',Same H H'->DA A H' v d->FrV H H' v->Q v H')->r x y H Q
def QwL(r:R2)(rD:Qa->Qa->(Qa->Prop)->Prop):Prop:=∀(A P:Addr->Prop)(H:Hp)(x y:V)(d1 d2:Qa)(R:Qa->Prop)(Q:VK),Qd0 H->(∀a,A a->∃xs,H a=some (.lst xs))->DP A P H x d1->DP A P H y d2->rD d1 d2 R ->
 (∀d,R d->∀v H',Same H H'->DA A H' v d->Q v H')->r x y H Q
def dOp(rD:Qa->Qa->(Qa->Prop)->Prop)(wa wb:DE):DE:=λδ Q EX=>wa δ (λd1=>wb δ (λd2=>rD d1 d2 Q) EX) EX
theorem Qiq{K:PySem.W.Frag}{r:R2}{rD:Qa->Qa->(Qa->Prop)->Prop}{wa wb:DE}(hd:OpD r rD)(σ:L2.St)(H:Hp)(Q:VK)(h:tX .F K E (dOp rD wa wb) σ H Q) :
  tOp (λx y H Q=>Qd0 H->r x y H Q) (tX .P K E wa) (tX .P K E wb) σ H Q:=by
 obtain⟨F,δ,R,EX,rel,hw,k,o⟩:=h;refine⟨F,δ,_,EX,rel,hw,λd1 h1 x H1 rel1 kp1 x1=>⟨F,δ,_,EX,rel1,h1,λd2 h2 y H2 rel2 kp2 y2=>λln=>?_,o⟩,o⟩;refine hd (Av F σ δ) (Z3 σ δ) H2 x y d1 d2 R Q ln (λa ha=>rel2.isl ha) (kp2.dp x1) y2 h2 λd hR v H' s q f=>?_
 refine k d hR v H' (rel2.same s) ((kp1.trans kp2).trans (Kp.same rel2 s)) ⟨q,λl e1 e2=>?_⟩;have f2:=f l e1 e2;cases e:H l with
 |none=>rfl
 |some ob=>
  by_cases z:Z3 σ δ l
  ·obtain⟨n,en⟩:=kp2.2 l z;rw[en] at f2;cases f2
  ·rw[(kp1.trans kp2).1 _ _ z e] at f2;cases f2
theorem Qo7{K:PySem.W.Frag}{r:R2}{rD:Qa->Qa->(Qa->Prop)->Prop}{wa wb:DE}(hd:QwL r rD)(σ:L2.St)(H:Hp)(Q:VK)(h:tX .D K E (dOp rD wa wb) σ H Q) :
  tOp (λx y H Q=>Qd0 H->r x y H Q) (tX .P K E wa) (tX .P K E wb) σ H Q:=by
 obtain⟨F,δ,R,EX,rel,hw,k,o⟩:=h;refine⟨F,δ,_,EX,rel,hw,λd1 h1 x H1 rel1 kp1 x1=>⟨F,δ,_,EX,rel1,h1,λd2 h2 y H2 rel2 kp2 y2=>λln=>?_,o⟩,o⟩;refine hd (Av F σ δ) (Z3 σ δ) H2 x y d1 d2 R Q ln (λa ha=>rel2.isl ha) (kp2.dp x1) y2 h2 λd hR v H' s q=>?_
 exact k d hR v H' (rel2.same s) ((kp1.trans kp2).trans (Kp.same rel2 s)) q
variable{a b:Q2}{wa wb:DE}{pos:Pos}{r:R2}{rD:Qa->Qa->(Qa->Prop)->Prop}
theorem Qvu{op:Operator}(ho:OpR X (binaryOp op) r)(hd:OpD r rD)(ha:PE X a (tX .P X.K E wa))(hb:PE X b (tX .P X.K E wb)):PE X (.BinOp a op b pos) (tX .F X.K E (dOp rD wa wb)):=PE.imp (QaF (OpR.len ho) ha hb) (Qiq hd)
theorem Qvs{op:Qsc}(ho:OpR X (compareOp op) r)(hd:OpD r rD)(ha:PE X a (tX .P X.K E wa))(hb:PE X b (tX .P X.K E wb))(hm:behindInMarks op b=false):PE X (.Compare a [op] [b] pos) (tX .F X.K E (dOp rD wa wb)):=PE.imp (QeE (OpR.len ho) ha hb hm) (Qiq hd)
theorem Qx8{r:R2}{rD:Qa->Qa->(Qa->Prop)->Prop}(ho:IxR X r)(hd:QwL r rD)(ha:PE X a (tX .P X.K E wa))(hb:PE X b (tX .P X.K E wb))(hs:QgJ b):PE X (.Subscript a b pos) (tX .D X.K E (dOp rD wa wb)):=PE.imp (Qkh (IxR.len ho) ha hb hs) (Qo7 hd)
def dTst(w:DE):DT:=λδ Q EX=>w δ (λd=>match d with
 |.bool k=>Q k
 |_=>False) EX
theorem QsM{op:Qsc}(ho:OpR X (compareOp op) r)(hd:OpD r rD)(ha:PE X a (tX .P X.K E wa))(hb:PE X b (tX .P X.K E wb))(hm:behindInMarks op b=false):PT X (.Compare a [op] [b] pos) (tT X.K E (dTst (dOp rD wa wb))):=by
 refine PT.imp (Qcx (OpR.len ho) ha hb hm) λσ H Q ⟨F,δ,R,EX,rel,hw,k,o⟩=>?_
 refine Qiq hd σ H (λx H'=>∃k,x=.bl k/\Q k H') ⟨F,δ,_,EX,rel,hw,λd hd2 v H' rel' kp vk=>?_,o⟩;split at hd2
 ·rename_i b
  have:v=.bl b:=by cases vk.1;rfl
  exact⟨b,this,k b hd2 H' rel' kp⟩
 ·exact hd2.elim
theorem QsK{e:Q2}{w:DE}(h:PE X e (tX .P X.K E w))(he:∀whole,isTrue e X.env whole=(do let v <- whole;standAt e.pos;holding [v] (truthy v)):=by intro _;rfl):PT X e (tT X.K E (dTst w)):=by
 refine PT.imp (Qhh h he) λσ H Q ⟨F,δ,R,EX,rel,hw,k,o⟩=>?_
 refine⟨F,δ,_,EX,rel,hw,λd hd v H' rel' kp vk=>?_,o⟩;split at hd
 ·exact⟨_,DP.bool vk,k _ hd H' rel' kp⟩
 ·exact hd.elim
def dOr(wa wb:DT):DT:=λδ Q EX=>wa δ (λc=>if c=true then Q true else wb δ Q EX) EX
def Qzc(wa:DT):DT:=λδ Q EX=>wa δ (λc=>Q (!c)) EX
theorem Qcs{c:Prop}[Decidable c]{p q p' q':Prop}(h:if c then p else q)(h1:p->p')(h2:q->q'):if c then p' else q':=by
 split at h
 ·rw[if_pos (by assumption)];exact h1 h
 ·rw[if_neg (by assumption)];exact h2 h
variable{rest:List Q2}{ta tb:DT}
theorem QsJ(ha:PT X a (tT X.K E ta)):PW X (.BoolOp .Or [a] pos) (tT X.K E ta):=Qjl ha
theorem Qve(ha:PT X a (tT X.K E ta))(hb:PW X (.BoolOp .Or (b::rest) pos) (tT X.K E tb)):PW X (.BoolOp .Or (a::b::rest) pos) (tT X.K E (dOr ta tb)):=by
 refine PW.imp (QlM ha hb) λσ H Q ⟨F,δ,R,EX,rel,hw,k,o⟩=>?_
 refine⟨F,δ,_,EX,rel,hw,λc hc H' rel' kp=>?_,o⟩;exact Qcs hc (λz=>k _ z H' rel' kp) (λz=>⟨F,δ,R,EX,rel',z,λc hc H2 rel2 kp2=>k c hc H2 rel2 (kp.trans kp2),o⟩)
theorem QsL(ha:PT X a (tT X.K E ta)):PT X (.UnaryOp .Not a pos) (tT X.K E (Qzc ta)):=by
 refine PT.imp (Qrq ha) λσ H Q ⟨F,δ,R,EX,rel,hw,k,o⟩=>?_
 exact⟨F,δ,_,EX,rel,hw,λc hc H' rel' kp=>k _ hc H' rel' kp,o⟩
def Qww(wa wb:DE):DE:=λδ Q EX=>wa δ (λd=>match d with
 |.bool c=>if c=true then wb δ Q EX else Q (.bool false)
 |_=>False) EX
def Qwq(wa:DE):DE:=λδ Q EX=>wa δ (λd=>match d with
 |.bool c=>Q (.bool (!c))
 |_=>False) EX
theorem Qvk{op}{w:DE}(h:PE X a (tX .D X.K E w)):PE X (.BoolOp op [a] pos) (tX .D X.K E w):=Qhj h
theorem Qvv(ha:PE X a (tX .P X.K E wa))(hb:PE X (.BoolOp .And (b::rest) pos) (tX .D X.K E wb)):PE X (.BoolOp .And (a::b::rest) pos) (tX .D X.K E (Qww wa wb)):=by
 refine PE.imp (Qhk ha hb) λσ H Q ⟨F,δ,R,EX,rel,hw,k,o⟩=>?_
 refine⟨F,δ,_,EX,rel,hw,λd hd v H' rel' kp vk=>?_,o⟩;split at hd
 ·exact⟨_,DP.bool vk,Qcs hd (λz=>⟨F,δ,R,EX,rel',z,λd hd v H2 rel2 kp2=>k d hd v H2 rel2 (kp.trans kp2),o⟩) λz=>k _ z _ H' rel' kp (.bl _)⟩
 ·exact hd.elim
theorem Qvl(ha:PE X a (tX .P X.K E wa)):PE X (.UnaryOp .Not a pos) (tX .D X.K E (Qwq wa)):=by
 refine PE.imp (Qrx ha) λσ H Q ⟨F,δ,R,EX,rel,hw,k,o⟩=>?_
 refine⟨F,δ,_,EX,rel,hw,λd hd v H' rel' kp vk=>?_,o⟩;split at hd
 ·exact⟨_,DP.bool vk,k _ hd _ H' rel' kp (.bl _)⟩
 ·exact hd.elim
def Qzh(t:DT)(wa wb:DE):DE:=λδ Q EX=>t δ (λc=>if c=true then wa δ Q EX else wb δ Q EX) EX
theorem Qvq{c:Q2}(hc:PT X c (tT X.K E ta))(ha:PE X a (tX .D X.K E wa))(hb:PE X b (tX .D X.K E wb)):PE X (.IfExp c a b pos) (tX .D X.K E (Qzh ta wa wb)):=by
 refine PE.imp (QoI hc ha hb) λσ H Q ⟨F,δ,R,EX,rel,hw,k,o⟩=>?_
 refine⟨F,δ,_,EX,rel,hw,λd hd H' rel' kp=>?_,o⟩;exact Qcs hd (λz=>⟨F,δ,R,EX,rel',z,λd hd v H2 rel2 kp2=>k d hd v H2 rel2 (kp.trans kp2),o⟩) (λz=>⟨F,δ,R,EX,rel',z,λd hd v H2 rel2 kp2=>k d hd v H2 rel2 (kp.trans kp2),o⟩)
end
theorem Qc1{A:Addr->Prop}{H H':Hp}{l:Addr}{xs:List V}{ds:List Qa}(dm:∀a,A a->∃xs,H a=some (.lst xs))(s:Same H H')(n:H l=none)(e:H' l=some (.lst xs))(q:DAs A H xs ds):DA A H' (.ref l) (.list ds):=
 .lst (λz=>by obtain⟨ys,e'⟩:=dm l z;rw[n] at e';cases e') e (q.same s)
theorem Qfn{A:Addr->Prop}{H H':Hp}{l:Addr}{xs:List V}{ds:List Qa}(dm:∀a,A a->∃xs,H a=some (.lst xs))(s:Same H H')(e:H' l=some (.tup xs))(q:DAs A H xs ds):DA A H' (.ref l) (.tuple ds):=
 .tup (λz=>by obtain⟨ys,e'⟩:=dm l z;rw[s _ _ e'] at e;cases e) e (q.same s)
theorem QaS{H H':Hp}{l:Addr}(n:H l=none):FrV H H' (.ref l):=λl' e _=>by cases e;exact n
theorem QdB{H H':Hp}{l:Addr}{xs:List V}(e:H' l=some (.tup xs)):FrV H H' (.ref l):=λl' e1 ⟨ys,e2⟩=>by cases e1;rw[e] at e2;cases e2
theorem Qad{H H':Hp}{i:Int}:FrV H H' (.int i):=λl' e _=>by cases e
theorem Qas{H H':Hp}{i:Bool}:FrV H H' (.bl i):=λl' e _=>by cases e
theorem QtL{H H':Hp}:FrV H H' .non:=λl' e _=>by cases e
theorem DAs.rep{A:Addr->Prop}{H:Hp}{xs:List V}{ds:List Qa}(q:DAs A H xs ds):∀k:Nat,DAs A H (JI k xs).flatten (JI k ds).flatten
 |0=>.nil
 |k+1=>by rw[ZT,ZT,JG,JG];exact q.app (DAs.rep q k)
def Qw8:Qa->Qa->(Qa->Prop)->Prop
 |.int i,.int j,Q=>Q (.int (i+j))
 |.tuple a,.tuple b,Q=>a.length+b.length<=1000000/\Q (.tuple (a++b))
 |.list a,.list b,Q=>a.length+b.length<=1000000/\Q (.list (a++b))
 |_,_,_=>False
def iiD(C:Int->Int->Prop)(f:Int->Int->Qa):Qa->Qa->(Qa->Prop)->Prop
 |.int i,.int j,Q=>C i j/\Q (f i j)
 |_,_,_=>False
def ii0(f:Int->Int->Qa):Qa->Qa->(Qa->Prop)->Prop
 |.int i,.int j,Q=>Q (f i j)
 |_,_,_=>False
def QzJ:Qa->Qa->(Qa->Prop)->Prop
 |.int i,.int j,Q=>(CMul i j∨CMulB i j)/\Q (.int (i*j))
 |.list a,.int k,Q=>(k<1000000 /\ -1000000<k/\a.length*k.toNat<=1000000)/\Q (.list (JI k.toNat a).flatten)
 |_,_,_=>False
theorem Qgq:1000000<=sizeLine:=by show 1000000<=2^24;decide
section
variable{X:Cx}{E:XK}
theorem Qtp{C:Int->Int->Prop}{g:Int->Int->Int}:OpD (rI C λi j=>.int (g i j)) (iiD C λi j=>.int (g i j)):=λA P H x y d1 d2 R Q ln dm hx hy h k=>by
 cases d1<;>cases d2<;>first | exact h.elim | skip
 rw[hx.int,hy.int];exact⟨_,_,rfl,rfl,h.1,k _ h.2 _ H (Same.refl H) (.int _) Qad⟩
theorem QdO{g:Int->Int->Int}:OpD (rI0 λi j=>.int (g i j)) (ii0 λi j=>.int (g i j)):=λA P H x y d1 d2 R Q ln dm hx hy h k=>by
 cases d1<;>cases d2<;>first | exact h.elim | skip
 rw[hx.int,hy.int];exact⟨_,_,rfl,rfl,k _ h _ H (Same.refl H) (.int _) Qad⟩
theorem QrH{g:Int->Int->Bool}:OpD (rI0 λi j=>.bl (g i j)) (ii0 λi j=>.bool (g i j)):=λA P H x y d1 d2 R Q ln dm hx hy h k=>by
 cases d1<;>cases d2<;>first | exact h.elim | skip
 rw[hx.int,hy.int];exact⟨_,_,rfl,rfl,k _ h _ H (Same.refl H) (.bl _) Qas⟩
def rAdd:R2:=λx y H Q=>(rI0 (λi j=>.int (i+j)) x y H Q∨Qu0 x y H Q)∨QyZ x y H Q
theorem JW:OpR X (binaryOp .Add) rAdd:=OpR.or2 (OpR.or2 QfA Qta) QrC
theorem Zq:OpD rAdd Qw8:=λA P H x y d1 d2 R Q ln dm hx hy h k=>by
 cases d1<;>cases d2<;>first | exact h.elim | skip
 ·rw[hx.int,hy.int];exact .inl (.inl ⟨_,_,rfl,rfl,k _ h _ H (Same.refl H) (.int _) Qad⟩)
 ·obtain⟨l1,xs,rfl,e1,q1⟩:=hx.list;obtain⟨l2,ys,rfl,e2,q2⟩:=hy.list;refine .inr ⟨l1,l2,xs,ys,rfl,rfl,e1,e2,Jc (by rw[q1.length,q2.length];exact h.1) Qgq,λp hp=>?_⟩;exact k _ h.2 _ _ (Jk hp) (Qc1 dm (Jk hp) hp Jm (q1.app q2)) (QaS hp)
 ·obtain⟨l1,xs,rfl,e1,q1⟩:=hx.tuple;obtain⟨l2,ys,rfl,e2,q2⟩:=hy.tuple;refine .inl (.inr ⟨l1,l2,xs,ys,rfl,rfl,e1,e2,Jc (by rw[q1.length,q2.length];exact h.1) Qgq,λp H' s e=>?_⟩);exact k _ h.2 _ _ s (Qfn dm s e (q1.app q2)) (QdB e)
def QuY:R2:=λx y H Q=>(rI CMul (λi j=>.int (i*j)) x y H Q∨rI CMulB (λi j=>.int (i*j)) x y H Q)∨QyN x y H Q
theorem Qmd:OpR X (binaryOp .Mult) QuY:=OpR.or2 (OpR.or2 Qfz Qs6) Qvx
theorem QrF:OpD QuY QzJ:=λA P H x y d1 d2 R Q ln dm hx hy h k=>by
 cases d1<;>cases d2<;>first | exact h.elim | skip
 ·rw[hx.int,hy.int];rcases h.1 with c | c
  ·exact .inl (.inl ⟨_,_,rfl,rfl,c,k _ h.2 _ H (Same.refl H) (.int _) Qad⟩)
  ·exact .inl (.inr ⟨_,_,rfl,rfl,c,k _ h.2 _ H (Same.refl H) (.int _) Qad⟩)
 ·obtain⟨l1,xs,rfl,e1,q1⟩:=hx.list;rw[hy.int];obtain⟨⟨h1,h2,h3⟩,h4⟩:=h;refine .inr ⟨l1,_,xs,rfl,rfl,e1,by omega,by omega,Jc (by rw[q1.length];exact h3) Qgq,λp hp=>?_⟩;exact k _ h4 _ _ (Jk hp) (Qc1 dm (Jk hp) hp Jm (q1.rep _)) (QaS hp)
def eqD:Qa->Qa->(Qa->Prop)->Prop
 |.int i,.int j,Q=>Q (.bool (decide (i=j)))
 |.bool i,.bool j,Q=>Q (.bool (decide (i=j)))
 |.str i,.str j,Q=>Q (.bool (decide (i=j)))
 |a,b,Q=>(nd a=true/\nd b=true/\(a.depth<=50∨b.depth<=50))/\Q (.bool (Ja a b))
def neD:Qa->Qa->(Qa->Prop)->Prop
 |.int i,.int j,Q=>Q (.bool (!decide (i=j)))
 |.bool i,.bool j,Q=>Q (.bool (!decide (i=j)))
 |.str i,.str j,Q=>Q (.bool (!decide (i=j)))
 |a,b,Q=>(nd a=true/\nd b=true/\(a.depth<=50∨b.depth<=50))/\Q (.bool (!Ja a b))
theorem QvS{a b:Qa}(h:a.depth<=50∨b.depth<=50):min a.depth b.depth<=50:=by rcases h with h | h<;>omega
def QyY(u:Nat):R2:=λx y H Q=>rEq x y H Q∨QyX u x y H Q
def QyP(u:Nat):R2:=λx y H Q=>rNe x y H Q∨QyO u x y H Q
theorem Qc0:OpR X (compareOp .Eq) (QyY X.A.units):=OpR.or2 Qs8 QvE
theorem Qmc:OpR X (compareOp .NotEq) (QyP X.A.units):=OpR.or2 Qo8 Qvy
theorem Qwi{i j:Int}:decide (V.int i=V.int j)=decide (i=j):=by
 by_cases h:i=j
 ·subst h;simp
 ·rw[decide_eq_false h,decide_eq_false (λz=>h (V.int.inj z))]
theorem Qwj{i j:Bool}:decide (V.bl i=V.bl j)=decide (i=j):=by
 by_cases h:i=j
 ·subst h;simp
 ·rw[decide_eq_false h,decide_eq_false (λz=>h (V.bl.inj z))]
theorem Qwh{i j:Str}:decide (V.str i=V.str j)=decide (i=j):=by
 by_cases h:i=j
 ·subst h;simp
 ·rw[decide_eq_false h,decide_eq_false (λz=>h (V.str.inj z))]
theorem Qgi{u:Nat}(hu:u+60<cLine):OpD (QyY u) eqD:=λA P H x y d1 d2 R Q ln dm hx hy h k=>by
 unfold eqD at h;split at h
 ·rw[hx.int,hy.int];exact .inl ⟨rfl,k (.bool (decide (V.int _=V.int _))) (by rw[Qwi];exact h) _ H (Same.refl H) (.bl _) Qas⟩
 ·rw[hx.bool,hy.bool];exact .inl ⟨rfl,k (.bool (decide (V.bl _=V.bl _))) (by rw[Qwj];exact h) _ H (Same.refl H) (.bl _) Qas⟩
 ·rw[hx.str.1,hy.str.1];exact .inl ⟨rfl,k (.bool (decide (V.str _=V.str _))) (by rw[Qwh];exact h) _ H (Same.refl H) (.bl _) Qas⟩
 ·obtain⟨⟨n1,n2,dp⟩,hR⟩:=h;have:=QvS dp;exact .inr ⟨_,_,hx.dat n1,hy.dat n2,by omega,k _ hR _ H (Same.refl H) (.bl _) Qas⟩
theorem Qto{u:Nat}(hu:u+60<cLine):OpD (QyP u) neD:=λA P H x y d1 d2 R Q ln dm hx hy h k=>by
 unfold neD at h;split at h
 ·rw[hx.int,hy.int];exact .inl ⟨rfl,k (.bool (!decide (V.int _=V.int _))) (by rw[Qwi];exact h) _ H (Same.refl H) (.bl _) Qas⟩
 ·rw[hx.bool,hy.bool];exact .inl ⟨rfl,k (.bool (!decide (V.bl _=V.bl _))) (by rw[Qwj];exact h) _ H (Same.refl H) (.bl _) Qas⟩
 ·rw[hx.str.1,hy.str.1];exact .inl ⟨rfl,k (.bool (!decide (V.str _=V.str _))) (by rw[Qwh];exact h) _ H (Same.refl H) (.bl _) Qas⟩
 ·obtain⟨⟨n1,n2,dp⟩,hR⟩:=h;have:=QvS dp;exact .inr ⟨_,_,hx.dat n1,hy.dat n2,by omega,k _ hR _ H (Same.refl H) (.bl _) Qas⟩
def Qsu(u:Nat)(neg:Bool):R2:=λx y H Q=>∃c ps ds d,y=.ref c/\H c=some (.lst ps)/\Dats H ps ds/\Dat H x d/\u+d.depth<cLine/\Q (.bl (if neg then !(ds.any λe=>Ja e d) else ds.any λe=>Ja e d)) H
theorem Qs7:OpR X (compareOp .In) (Qsu X.A.in1.units false):=by
 intro pins s σ H x y v u Q I rx ry h;obtain⟨c,ps,ds,d,rfl,hc,qs,qx,hu,q⟩:=h;cases ry;obtain⟨⟨as,ra⟩,ca⟩:=Yi I.hok d x v qx rx;obtain⟨its,rv,pl,hz⟩:=I.list (SqL.of hc);obtain⟨⟨bs,rb⟩,cb⟩:=Y4 I.hok ds ps its qs rv;refine SeqAt.in_listAt (eqH s.heap d) pl.isList (λw hw=>QeM ra ca rb cb hu w (Y9.mp hw)) ⟨.bl _,H,I,rfl,?_⟩;rw[show its.toArray.any (eqH s.heap d)=its.any (eqH s.heap d) by simp,QeY rb cb];exact q
theorem Qkj:OpR X (compareOp .NotIn) (Qsu X.A.in1.units true):=by
 intro pins s σ H x y v u Q I rx ry h;obtain⟨c,ps,ds,d,rfl,hc,qs,qx,hu,q⟩:=h;cases ry;obtain⟨⟨as,ra⟩,ca⟩:=Yi I.hok d x v qx rx;obtain⟨its,rv,pl,hz⟩:=I.list (SqL.of hc);obtain⟨⟨bs,rb⟩,cb⟩:=Y4 I.hok ds ps its qs rv;refine SeqAt.notIn_listAt (eqH s.heap d) pl.isList (λw hw=>QeM ra ca rb cb hu w (Y9.mp hw)) ⟨.bl _,H,I,rfl,?_⟩;rw[show its.toArray.any (eqH s.heap d)=its.any (eqH s.heap d) by simp,QeY rb cb];exact q
def inD(neg:Bool)(d:Qa):Qa->(Qa->Prop)->Prop
 |.list ds,Q=>(nds ds=true/\nd d=true/\d.depth<=50)/\Q (.bool (if neg then !(ds.any λe=>Ja e d) else ds.any λe=>Ja e d))
 |.tuple ds,Q=>(nds ds=true/\nd d=true/\d.depth<=50)/\Q (.bool (if neg then !(ds.any λe=>Ja e d) else ds.any λe=>Ja e d))
 |_,_=>False
def QxW(u:Nat)(neg:Bool):R2:=λx y H Q=>QxV u neg x y H Q∨Qsu u neg x y H Q
theorem Qju:OpR X (compareOp .In) (QxW X.A.in1.units false):=OpR.or2 QvB Qs7
theorem Qmb:OpR X (compareOp .NotIn) (QxW X.A.in1.units true):=OpR.or2 Ql9 Qkj
theorem Qmr{u:Nat}{neg:Bool}(hu:u+60<cLine):OpD (QxW u neg) (inD neg):=λA P H x y d1 d2 R Q ln dm hx hy h k=>by
 cases d2<;>first | exact h.elim | skip
 ·obtain⟨l,xs,rfl,e,q⟩:=hy.list;obtain⟨⟨n1,n2,n3⟩,hR⟩:=h;exact .inr ⟨l,xs,_,d1,rfl,e,QbK _ _ n1 q,hx.dat n2,by omega,k _ hR _ H (Same.refl H) (.bl _) Qas⟩
 ·obtain⟨l,xs,rfl,e,q⟩:=hy.tuple;obtain⟨⟨n1,n2,n3⟩,hR⟩:=h;exact .inl ⟨l,xs,_,d1,rfl,e,QbK _ _ n1 q,hx.dat n2,by omega,k _ hR _ H (Same.refl H) (.bl _) Qas⟩
def ixD:Qa->Qa->(Qa->Prop)->Prop
 |.list ds,.int i,Q=>∃d,atI ds i=some d/\Q d
 |.tuple ds,.int i,Q=>∃d,atI ds i=some d/\Q d
 |_,_,_=>False
theorem QrZ{A:Addr->Prop}{H:Hp}{xs:List V}{ds:List Qa}{i:Int}{d:Qa}(q:DAs A H xs ds)(h:atI ds i=some d):∃v,atI xs i=some v/\DA A H v d:=by
 unfold atI at h ⊢;rw[q.length];cases e:ixN ds.length i with
 |none=>rw[e] at h;cases h
 |some j=>
  rw[e] at h;exact q.get j d h
def QyU(K:PySem.W.Frag):R2:=λx y H Q=>QyS K x y H Q∨QyR K x y H Q
theorem Ya:IxR X (QyU X.K):=IxR.or2 Qdx Qv3
theorem Qar{K:PySem.W.Frag}:QwL (QyU K) ixD:=λA P H x y d1 d2 R Q ln dm hx hy h k=>by
 cases d1<;>cases d2<;>first | exact h.elim | skip
 ·obtain⟨l,xs,rfl,e,q⟩:=hx.list;obtain⟨d,hd,hR⟩:=h;obtain⟨v,hv,dv⟩:=QrZ q hd;rw[hy.int];exact .inl ⟨l,xs,_,v,rfl,rfl,SqL.of e,hv,k d hR v H (Same.refl H) dv⟩
 ·obtain⟨l,xs,rfl,e,q⟩:=hx.tuple;obtain⟨d,hd,hR⟩:=h;obtain⟨v,hv,dv⟩:=QrZ q hd;rw[hy.int];exact .inr ⟨l,xs,_,v,rfl,rfl,SqT.of e,hv,k d hR v H (Same.refl H) dv⟩
def dUn(rD:Qa->(Qa->Prop)->Prop)(wa:DE):DE:=λδ Q EX=>wa δ (λd=>rD d Q) EX
def Qy1:Qa->(Qa->Prop)->Prop
 |.int i,Q=>Q (.int (-i))
 |_,_=>False
variable{a b c:Q2}{wa wb wc:DE}{pos:Pos}
theorem Qvn(ha:PE X a (tX .P X.K E wa)):PE X (.UnaryOp .USub a pos) (tX .F X.K E (dUn Qy1 wa)):=by
 refine PE.imp (Qx5 Qux ha) λσ H Q ⟨F,δ,R,EX,rel,hw,k,o⟩=>?_
 refine⟨F,δ,_,EX,rel,hw,λd hd v H' rel' kp vk=>?_,o⟩;cases d<;>first | exact(show False from hd).elim | skip
 exact⟨_,DP.int vk,k _ hd _ H' rel' kp ⟨.int _,Qad⟩⟩
def dCh(p q:Int->Int->Bool)(wa wb wc:DE):DE:=λδ Q EX=>wa δ (λx=>wb δ (λy=>match x,y with
 |.int i,.int j=>if p i j=true then wc δ (λz=>match z with
  |.int k=>Q (.bool (q j k))
  |_=>False) EX else Q (.bool false)
 |_,_=>False) EX) EX
theorem QtZ{K:PySem.W.Frag}{p q:Int->Int->Bool}(σ:L2.St)(H:Hp)(Q:VK)(h:tX .F K E (dCh p q wa wb wc) σ H Q) :
  Qrc (rI0 λi j=>.bl (p i j)) (rI0 λi j=>.bl (q i j)) (tX .P K E wa) (tX .P K E wb) (tX .P K E wc) σ H Q:=by
 obtain⟨F,δ,R,EX,rel,hw,k,o⟩:=h;refine⟨F,δ,_,EX,rel,hw,λd1 h1 x H1 rel1 kp1 x1=>⟨F,δ,_,EX,rel1,h1,λd2 h2 y H2 rel2 kp2 y2=>?_,o⟩,o⟩;cases d1<;>cases d2<;>first | exact(show False from h2).elim | skip
 rw[DP.int x1,DP.int y2];refine⟨_,_,rfl,rfl,_,rfl,Qcs h2 (λz=>⟨F,δ,_,EX,rel2,z,λd3 h3 v H3 rel3 kp3 v3=>?_,o⟩) λz=>k _ z _ H2 rel2 (kp1.trans kp2) ⟨.bl _,Qas⟩⟩;cases d3<;>first | exact(show False from h3).elim | skip
 rw[DP.int v3];exact⟨_,_,rfl,rfl,k _ h3 _ H3 rel3 ((kp1.trans kp2).trans kp3) ⟨.bl _,Qas⟩⟩
theorem Qx9{op op':Qsc}{p q:Int->Int->Bool}(ho:OpR X (compareOp op) (rI0 λi j=>.bl (p i j)))(ho':OpR X (compareOp op') (rI0 λi j=>.bl (q i j)))(ha:PE X a (tX .P X.K E wa))(hb:PE X b (tX .P X.K E wb))(hc:PE X c (tX .P X.K E wc))(hm:lastMarks [op,op'] [b,c]=false:=by with_unfolding_all rfl) :
  PE X (.Compare a [op,op'] [b,c] pos) (tX .F X.K E (dCh p q wa wb wc)):=PE.imp (QoK ho ho' ha hb hc (hm:=hm)) QtZ
def Qzd:DAr:=λ_ Q _=>Q []
def Qnk(we:DE)(wr:DAr):DAr:=λδ Q EX=>we δ (λd=>wr δ (λds=>Q (d::ds)) EX) EX
theorem QsZ{m:Md}:PA X [] (tAr 0 m X.K E Qzd):=PA.imp J4 λσ H Q ⟨F,δ,R,EX,rel,hw,k,o⟩=>k [] hw rfl [] H rel (Kp.refl rel) .nil
theorem QnE{n:Nat}{m:Md}{K:PySem.W.Frag}{we:DE}{wr:DAr}(hm:∀{F:Fm}{σ:L2.St}{δ:Sts}{H H':Hp}{v:V}{d:Qa},Vok m F σ δ H H' v d->VD m (Av F σ δ) (Z3 σ δ) H' v d)(σ:L2.St)(H:Hp)(Q:List V->Hp->Prop)(h:tAr (n+1) m K E (Qnk we wr) σ H Q):Qew (tX m K E we) (tAr n m K E wr) σ H Q:=by
 obtain⟨F,δ,R,EX,rel,hw,k,o⟩:=h;refine⟨F,δ,_,EX,rel,hw,λd hd v H' rel' kp vk=>⟨F,δ,_,EX,rel',hd,λds hds hl vs H2 rel2 kp2 vks=>?_,o⟩,o⟩;exact k _ hds (by rw[QC,hl]) (v::vs) H2 rel2 (kp.trans kp2) (.cons (kp2.vd (hm vk)) vks)
theorem Ql3{n:Nat}{e:Q2}{es:List Q2}{we:DE}{wr:DAr}(he:PE X e (tX .D X.K E we))(hr:PA X es (tAr n .D X.K E wr))(hs:notStar e=true:=by rfl):PA X (e::es) (tAr (n+1) .D X.K E (Qnk we wr)):=PA.imp (Qdt he hr hs) (QnE λh=>h)
theorem Ql2{n:Nat}{e:Q2}{es:List Q2}{we:DE}{wr:DAr}(he:PE X e (tX .P X.K E we))(hr:PA X es (tAr n .P X.K E wr))(hs:notStar e=true:=by rfl):PA X (e::es) (tAr (n+1) .P X.K E (Qnk we wr)):=PA.imp (Qdt he hr hs) (QnE λh=>h)
theorem Qds{A P:Addr->Prop}{H:Hp}:∀{vs:List V}{ds:List Qa},YK (VD .D A P H) vs ds->DAs A H vs ds
 |_,_,.nil=>.nil
 |_,_,.cons a b=>.cons a (Qds b)
def Qy8(w:DAr):DE:=λδ Q EX=>w δ (λds=>Q (.tuple ds)) EX
def Qze(w:DAr):DE:=λδ Q EX=>w δ (λds=>Q (.list ds)) EX
theorem Qvh{n:Nat}{es:List Q2}{w:DAr}{x1}(h:PA X es (tAr n .D X.K E w))(hn:n<=1000:=by decide):PE X (.Tuple es x1 pos) (tX .F X.K E (Qy8 w)):=by
 refine PE.imp (QlX h) λσ H Q ⟨F,δ,R,EX,rel,hw,k,o⟩=>?_
 refine⟨F,δ,_,EX,rel,hw,λds hds hl vs H' rel' kp q=>?_,o⟩;have q':=Qds q;refine⟨by rw[q'.length,hl];exact hn,λa H2 s n e=>k _ hds _ H2 (rel'.same s) (kp.trans (Kp.same rel' s)) ⟨Qfn (λa ha=>rel'.isl ha) s e q',QdB e⟩⟩
theorem Qbl{σ:L2.St}{δ:Sts}{H H':Hp}{l:Addr}(k:Kp σ δ H H')(n:H' l=none):H l=none:=by
 cases e:H l with
 |none=>rfl
 |some ob=>
  by_cases z:Z3 σ δ l
  ·obtain⟨m,em⟩:=k.2 l z;rw[em] at n;cases n
  ·rw[k.1 _ _ z e] at n;cases n
theorem Qvo{n:Nat}{es:List Q2}{w:DAr}(h:PA X es (tAr n .D X.K E w))(hn:n<=1000:=by decide):PE X (.List es pos) (tX .F X.K E (Qze w)):=by
 refine PE.imp (QbG h) λσ H Q ⟨F,δ,R,EX,rel,hw,k,o⟩=>?_
 refine⟨F,δ,_,EX,rel,hw,λds hds hl vs H' rel' kp q=>?_,o⟩;have q':=Qds q;refine⟨by rw[q'.length,hl];exact hn,λa H2 s n e=>k _ hds _ H2 (rel'.same s) (kp.trans (Kp.same rel' s)) ⟨Qc1 (λa ha=>rel'.isl ha) s n e q',QaS (Qbl kp n)⟩⟩
theorem Qvr{pos:Pos}:PE X (.Dict [] [] pos) (tX .D X.K E (dC (.dict []))):=by
 refine PE.imp QsI λσ H Q ⟨F,δ,R,EX,rel,hw,k,o⟩=>λp hp=>?_
 refine k _ hw _ _ (rel.same (Jk hp)) (Kp.same rel (Jk hp)) (.dct (kvs:=[]) (λz=>?_) Jm rfl);obtain⟨xs,e⟩:=rel.isl z;rw[hp] at e;cases e
def QdI(r:List V->Hp->VK->Prop)(rD:List Qa->(Qa->Prop)->Prop):Prop:=∀(A P:Addr->Prop)(H:Hp)(vs:List V)(ds:List Qa)(R:Qa->Prop)(Q:VK),Qd0 H->(∀a,A a->∃xs,H a=some (.lst xs))->YK (DP A P H) vs ds->rD ds R ->
 (∀d,R d->∀v H',Same H H'->DA A H' v d->FrV H H' v->Q v H')->r vs H Q
def dCB(rD:List Qa->(Qa->Prop)->Prop)(wa:DAr):DE:=λδ Q EX=>wa δ (λds=>rD ds Q) EX
theorem Qns{n:Nat}{K:PySem.W.Frag}{r:List V->Hp->VK->Prop}{rD:List Qa->(Qa->Prop)->Prop}{wa:DAr}(hd:QdI r rD)(σ:L2.St)(H:Hp)(Q:VK)(h:tX .F K E (dCB rD wa) σ H Q) :
  tCB (λxs H Q=>Qd0 H->r xs H Q) (tAr n .P K E wa) σ H Q:=by
 obtain⟨F,δ,R,EX,rel,hw,k,o⟩:=h;refine⟨F,δ,_,EX,rel,hw,λds hds hl vs H' rel' kp q ln=>?_,o⟩;refine hd (Av F σ δ) (Z3 σ δ) H' vs ds R Q ln (λa ha=>rel'.isl ha) q hds λd hR v H2 s dv fr=>?_
 exact k d hR v H2 (rel'.same s) (kp.trans (Kp.same rel' s)) ⟨dv,λl e1 e2=>Qbl kp (fr l e1 e2)⟩
variable{x:Str}{bid T:String}{p:Pos}{e:Q2}{es:List Q2}{n:Nat}{wr:DAr}{r:List V->Hp->VK->Prop}{rD:List Qa->(Qa->Prop)->Prop}
theorem Qo5(hc:CallR X (.builtin bid) r)(hd:QdI r rD)(hg:Gl X x)(hm:X.mg x=none)(hv:bootBuiltins x=some (.builtin bid))(ha:PA X (e::es) (tAr n .P X.K E wr))(hn:x ≠ "__name__" := by decide)(hdb:(x == ("__debug__" : Str))=false:=by decide)
  (he:starEach (e::es) X.env=(false,eval e X.env)::starEach es X.env:=by rfl)(hpl:(backTo pos (starEach es X.env)).any (·.1)=false:=by rfl):PE X (.Call (.Name x p) (e::es) [] pos) (tX .F X.K E (dCB rD wr)):=
 PE.imp (Zu (CallR.len hc) hg hm hv ha hn hdb he hpl) (Qns hd)
theorem Ql6(hc:CallR X (.type T) r)(hd:QdI r rD)(hg:Gl X x)(hm:X.mg x=none)(hv:bootBuiltins x=some (.type T))(ha:PA X (e::es) (tAr n .P X.K E wr))(hn:x ≠ "__name__" := by decide)(hdb:(x == ("__debug__" : Str))=false:=by decide)
  (he:starEach (e::es) X.env=(false,eval e X.env)::starEach es X.env:=by rfl)(hpl:(backTo pos (starEach es X.env)).any (·.1)=false:=by rfl):PE X (.Call (.Name x p) (e::es) [] pos) (tX .F X.K E (dCB rD wr)):=
 PE.imp (QeF (CallR.len hc) hg hm hv ha hn hdb he hpl) (Qns hd)
theorem pd1{A P:Addr->Prop}{H:Hp}{vs:List V}{d:Qa}(q:YK (DP A P H) vs [d]):∃v,vs=[v]/\DP A P H v d:=by
 cases q with
 |cons a b=>cases b;exact⟨_,rfl,a⟩
theorem pd2{A P:Addr->Prop}{H:Hp}{vs:List V}{d d':Qa}(q:YK (DP A P H) vs [d,d']):∃v v',vs=[v,v']/\DP A P H v d/\DP A P H v' d':=by
 cases q with
 |cons a b=>cases b with | cons b c=>cases c;exact⟨_,_,rfl,a,b⟩
def Qy2:List Qa->(Qa->Prop)->Prop
 |[.list ds],Q=>Q (.int ds.length)
 |[.tuple ds],Q=>Q (.int ds.length)
 |_,_=>False
theorem Qby{K:PySem.W.Frag}:QdI (QuZ K) Qy2:=λA P H vs ds R Q ln dm q h k=>by
 unfold Qy2 at h;split at h
 ·obtain⟨v,rfl,hv⟩:=pd1 q;obtain⟨l,xs,rfl,e,qq⟩:=hv.list;exact⟨l,xs,rfl,.inl (SqL.of e),by rw[qq.length];exact k _ h _ H (Same.refl H) (.int _) Qad⟩
 ·obtain⟨v,rfl,hv⟩:=pd1 q;obtain⟨l,xs,rfl,e,qq⟩:=hv.tuple;exact⟨l,xs,rfl,.inr (SqT.of e),by rw[qq.length];exact k _ h _ H (Same.refl H) (.int _) Qad⟩
 ·exact h.elim
theorem Z6:CallR X (.builtin "len") (QuZ X.K):=Qat
def QvT:List Qa->(Qa->Prop)->Prop
 |[.int i,.int j],Q=>Q (.int (if j<i then j else i))
 |_,_=>False
def QvU:List Qa->(Qa->Prop)->Prop
 |[.int i,.int j],Q=>Q (.int (if j > i then j else i))
 |_,_=>False
theorem Qt0:QdI (λxs H Q=>∃i j,xs=[.int i,.int j]/\Q (.int (if j<i then j else i)) H) QvT:=λA P H vs ds R Q ln dm q h k=>by
 unfold QvT at h;split at h
 ·obtain⟨v,v',rfl,h1,h2⟩:=pd2 q;rw[h1.int,h2.int];exact⟨_,_,rfl,k _ h _ H (Same.refl H) (.int _) Qad⟩
 ·exact h.elim
theorem Qt1:QdI (λxs H Q=>∃i j,xs=[.int i,.int j]/\Q (.int (if j > i then j else i)) H) QvU:=λA P H vs ds R Q ln dm q h k=>by
 unfold QvU at h;split at h
 ·obtain⟨v,v',rfl,h1,h2⟩:=pd2 q;rw[h1.int,h2.int];exact⟨_,_,rfl,k _ h _ H (Same.refl H) (.int _) Qad⟩
 ·exact h.elim
def Qb9:List Qa->Option (List Bool)
 |[]=>some []
 |.bool b::ds=>(Qb9 ds).map (b::·)
 |_::_=>none
def Qb8:List Qa->Option (List Int)
 |[]=>some []
 |.int b::ds=>(Qb8 ds).map (b::·)
 |_::_=>none
theorem Qnz(bs:List Bool):Qb9 (bs.map YG)=some bs:=by
 induction bs with
 |nil=>rfl
 |cons b bs ih=>rw[Jh,Qb9,ih];rfl
theorem ints_map(bs:List Int):Qb8 (bs.map Qp)=some bs:=by
 induction bs with
 |nil=>rfl
 |cons b bs ih=>rw[Jh,Qb8,ih];rfl
theorem bools_eq:∀{ds:List Qa}{bs:List Bool},Qb9 ds=some bs->ds=bs.map YG
 |[],bs,h=>by cases h;rfl
 |d::ds,bs,h=>by
  cases d<;>first | (unfold Qb9 at h;cases h;done) | skip
  rw[Qb9] at h;obtain⟨cs,h1,rfl⟩:=JU.mp h;rw[bools_eq h1];rfl
theorem Qgt:∀{ds:List Qa}{bs:List Int},Qb8 ds=some bs->ds=bs.map Qp
 |[],bs,h=>by cases h;rfl
 |d::ds,bs,h=>by
  cases d<;>first | (unfold Qb8 at h;cases h;done) | skip
  rw[Qb8] at h;obtain⟨cs,h1,rfl⟩:=JU.mp h;rw[Qgt h1];rfl
theorem QhA{A:Addr->Prop}{H:Hp}:∀{bs:List Bool}{xs:List V},DAs A H xs (bs.map YG)->xs=bs.map V.bl
 |[],_,.nil=>rfl
 |b::bs,_,.cons (.bl _) r=>by rw[QhA r];rfl
theorem Qej{A:Addr->Prop}{H:Hp}:∀{bs:List Int}{xs:List V},DAs A H xs (bs.map Qp)->xs=bs.map V.int
 |[],_,.nil=>rfl
 |b::bs,_,.cons (.int _) r=>by rw[Qej r];rfl
@[irreducible] def Qw7:List Qa->(Qa->Prop)->Prop
 |[.list ds],Q=>∃bs,Qb9 ds=some bs/\Q (.bool (bs.all id))
 |_,_=>False
theorem Qc7{K:PySem.W.Frag}{cm:Bool}(hc:cm=true):QdI (λxs H Q=>∃(p:Addr)(bs:List Bool),xs=[.ref p]/\SqL K H p (bs.map V.bl)/\cm=true/\Q (.bl (bs.all id)) H) Qw7:=λA P H vs ds R Q ln dm q h k=>by
 unfold Qw7 at h;split at h
 ·obtain⟨v,rfl,hv⟩:=pd1 q;obtain⟨bs,hb,hR⟩:=h;rw[bools_eq hb] at hv;obtain⟨l,xs,rfl,e,qq⟩:=hv.list;rw[QhA qq] at e;exact⟨l,bs,rfl,SqL.of e,hc,k _ hR _ H (Same.refl H) (.bl _) Qas⟩
 ·exact h.elim
def Qp9:List Qa->(Qa->Prop)->Prop
 |[.list ds],Q=>Q (.tuple ds)
 |[.tuple ds],Q=>Q (.tuple ds)
 |_,_=>False
def QvW:List Qa->(Qa->Prop)->Prop
 |[.list ds],Q=>Q (.list ds)
 |[.tuple ds],Q=>Q (.list ds)
 |_,_=>False
theorem QaG{K:PySem.W.Frag}:QdI (QlA K) Qp9:=λA P H vs ds R Q ln dm q h k=>by
 unfold Qp9 at h;split at h
 ·obtain⟨v,rfl,hv⟩:=pd1 q;obtain⟨l,xs,rfl,e,qq⟩:=hv.list;exact⟨l,xs,rfl,.inl ⟨SqL.of e,λl' H' s n e'=>k _ h _ H' s (Qfn dm s e' qq) (QdB e')⟩⟩
 ·obtain⟨v,rfl,hv⟩:=pd1 q;obtain⟨l,xs,rfl,e,qq⟩:=hv.tuple;exact⟨l,xs,rfl,.inr ⟨SqT.of e,k _ h _ H (Same.refl H) (Qfn dm (Same.refl H) e qq) (QdB e)⟩⟩
 ·exact h.elim
theorem QiQ{K:PySem.W.Frag}:QdI (QlD K) QvW:=λA P H vs ds R Q ln dm q h k=>by
 unfold QvW at h;split at h
 ·obtain⟨v,rfl,hv⟩:=pd1 q;obtain⟨l,xs,rfl,e,qq⟩:=hv.list;exact⟨l,xs,rfl,.inl (SqL.of e),λl' H' s n e'=>k _ h _ H' s (Qc1 dm s n e' qq) (QaS n)⟩
 ·obtain⟨v,rfl,hv⟩:=pd1 q;obtain⟨l,xs,rfl,e,qq⟩:=hv.tuple;exact⟨l,xs,rfl,.inr (SqT.of e),λl' H' s n e'=>k _ h _ H' s (Qc1 dm s n e' qq) (QaS n)⟩
 ·exact h.elim
end
section
variable{X:Cx}{E:XK}
inductive Tn where | int | bool | str | tuple | list
def Tn.s:Tn->String
 |.int => "int"
 |.bool => "bool"
 |.str => "str"
 |.tuple => "tuple"
 |.list => "list"
def isT:Tn->Qa->Bool
 |.int,.int _=>true
 |.int,.bool _=>true
 |.bool,.bool _=>true
 |.str,.str _=>true
 |.tuple,.tuple _=>true
 |.list,.list _=>true
 |_,_=>false
theorem QtH{K:PySem.W.Frag}{A P:Addr->Prop}{H:Hp}{v:V}{d:Qa}(tn:Tn)(h:DP A P H v d):∃t,TyOf K H v t/\PySem.W.kitOne K t (.type tn.s)=some (isT tn d):=by
 rcases h with h | ⟨l,xs,ds,rfl,rfl,_,e,q⟩
 ·cases h with
  |non=>exact⟨_,.non,by cases tn<;>rfl⟩
  |bl b=>exact⟨_,.bl _,by cases tn<;>rfl⟩
  |int i=>exact⟨_,.int _,by cases tn<;>rfl⟩
  |str x c=>exact⟨_,.str _,by cases tn<;>rfl⟩
  |tup n e q=>exact⟨_,.tup e,by cases tn<;>rfl⟩
  |lst n e q=>exact⟨_,.lst e,by cases tn<;>rfl⟩
  |dct n e q=>exact⟨_,.dK e,by cases tn<;>rfl⟩
 ·exact⟨_,.lst e,by cases tn<;>rfl⟩
def Qws(tn:Tn)(we:DE):DE:=λδ Q EX=>we δ (λd=>Q (.bool (isT tn d))) EX
theorem Qs1{e f:Q2}{we:DE}{p pos:Pos}(tn:Tn)(hg:Gl X "isinstance")(hm:X.mg "isinstance" = none)(he:PE X e (tX .P X.K E we))(hf:PE X f (tC (.ty tn.s)))(h1:notStar e=true:=by rfl)(h2:notStar f=true:=by rfl) :
  PE X (.Call (.Name "isinstance" p) [e,f] [] pos) (tX .F X.K E (Qws tn we)):=by
 refine PE.imp (Zu ZM hg hm JT (Qdt he (Qdt hf J4 h2) h1) (he:=Yj h1) (hpl:=by rw[Yj h2];rfl)) λσ H Q ⟨F,δ,R,EX,rel,hw,k,o⟩=>?_
 refine⟨F,δ,_,EX,rel,hw,λd hd v H' rel' kp vk=>?_,o⟩;obtain⟨t,ty,et⟩:=QtH (K:=X.K) tn vk;exact⟨v,t,tn.s,_,rfl,ty,et,k _ hd _ H' rel' kp ⟨.bl _,Qas⟩⟩
theorem Qyb{x:Str}{pos:Pos}(tn:Tn)(hg:Gl X x)(hm:X.mg x=none)(hv:bootBuiltins x=some (.type tn.s))(hn:x ≠ "__name__" := by decide)(hd:(x == ("__debug__" : Str))=false:=by decide):PE X (.Name x pos) (tC (.ty tn.s)):=Qac (v:=.ty tn.s) hg hm hv rfl hn hd
abbrev DO:=Sts->(Option Int->Prop)->XP->Prop
def tO(K:PySem.W.Frag)(E:XK)(w:DO):TO:=λσ H Q=>∃(F:Fm)(δ:Sts)(R:Option Int->Prop)(EX:XP),Rel K F σ H δ/\w δ R EX/\(∀d,R d->∀H',Rel K F σ H' δ->Kp σ δ H H'->Q d H')/\Out F E EX
def dNo:DO:=λ_ Q _=>Q none
def dSo(we:DE):DO:=λδ Q EX=>we δ (λd=>match d with
 |.int i=>Q (some i)
 |_=>False) EX
theorem PO.imp{e:Option Q2}{t t':TO}(h:PO X e t)(i:∀σ H Q,t' σ H Q->t σ H Q):PO X e t':=λpins s σ H Q I q=>h pins s σ H Q I (i σ H Q q)
theorem QoW:PO X none (tO X.K E dNo):=PO.imp QsG λσ H Q ⟨F,δ,R,EX,rel,hw,k,o⟩=>k _ hw H rel (Kp.refl rel)
theorem QoV{e:Q2}{we:DE}(he:PE X e (tX .P X.K E we)):PO X (some e) (tO X.K E (dSo we)):=by
 refine PO.imp (QlS he) λσ H Q ⟨F,δ,R,EX,rel,hw,k,o⟩=>?_
 refine⟨F,δ,_,EX,rel,hw,λd hd v H' rel' kp vk=>?_,o⟩;cases d<;>first | exact(show False from hd).elim | skip
 exact⟨_,DP.int vk,k _ hd H' rel' kp⟩
def cutD(xs:List Qa)(lo hi:Option Int):List Qa:=(xs.drop (HT.sIx xs.length 0 lo)).take (HT.sIx xs.length xs.length hi - HT.sIx xs.length 0 lo)
theorem Qnm{A:Addr->Prop}{H:Hp}{xs:List V}{ds:List Qa}(q:DAs A H xs ds)(lo hi:Option Int):DAs A H (QkX xs lo hi) (cutD ds lo hi):=by
 unfold QkX cutD;rw[q.length];exact(q.drop _).take _
def slD(d:Qa)(lo hi:Option Int)(Q:Qa->Prop):Prop:=
 match d with
 |.list ds=>Q (.list (cutD ds lo hi))
 |.tuple ds=>Q (.tuple (cutD ds lo hi))
 |_=>False
def dSl(we:DE)(wl wh:DO):DE:=λδ Q EX=>we δ (λd=>wl δ (λlo=>wh δ (λhi=>slD d lo hi Q) EX) EX) EX
def QuW(K:PySem.W.Frag):V->Option Int->Option Int->Hp->VK->Prop:=λx a b H Q=>QyM x a b H Q∨QuV K x a b H Q
theorem Qo2{e:Q2}{lo hi:Option Q2}{we:DE}{wl wh:DO}{p2 pos:Pos}(he:PE X e (tX .P X.K E we))(hl:PO X lo (tO X.K E wl))(hh:PO X hi (tO X.K E wh)):PE X (.Subscript e (.Slice lo hi none p2) pos) (tX .F X.K E (dSl we wl wh)):=by
 refine PE.imp (QoG (r:=QuW X.K) (SlR.or2 QuM Qok) he hl hh) λσ H Q ⟨F,δ,R,EX,rel,hw,k,o⟩=>?_
 refine⟨F,δ,_,EX,rel,hw,λd hd v H1 rel1 kp1 vk=>⟨F,δ,_,EX,rel1,hd,λa ha H2 rel2 kp2=>⟨F,δ,_,EX,rel2,ha,λb hb H3 rel3 kp3=>?_,o⟩,o⟩,o⟩;have v3:=kp3.dp (kp2.dp vk);have K3:=(kp1.trans kp2).trans kp3;cases d<;>first | exact(show False from hb).elim | skip
 ·obtain⟨l,xs,rfl,e,q⟩:=DP.list v3;exact .inr ⟨l,xs,rfl,SqL.of e,λp H' s n e'=>k _ hb _ H' (rel3.same s) (K3.trans (Kp.same rel3 s)) ⟨Qc1 (λa ha=>rel3.isl ha) s n e' (Qnm q _ _),QaS (Qbl K3 n)⟩⟩
 ·obtain⟨l,xs,rfl,e,q⟩:=DP.tuple v3;exact .inl ⟨l,xs,rfl,e,λp H' s e'=>k _ hb _ H' (rel3.same s) (K3.trans (Kp.same rel3 s)) ⟨Qfn (λa ha=>rel3.isl ha) s e' (Qnm q _ _),QdB e'⟩⟩
def QzB(d:Qa)(Q:Qa->Prop):Prop:=
 match d with
 |.tuple ds=>Q (.tuple ds.reverse)
 |_=>False
def Qza(we ws:DE):DE:=λδ Q EX=>we δ (λd=>ws δ (λs=>(match s with | .int i=>i = -1 | _=>False)/\QzB d Q) EX) EX
theorem Qvj{e st:Q2}{we ws:DE}{p2 pos:Pos}(he:PE X e (tX .P X.K E we))(hs:PE X st (tX .P X.K E ws)):PE X (.Subscript e (.Slice none none (some st) p2) pos) (tX .F X.K E (Qza we ws)):=by
 refine PE.imp (Qvd he hs) λσ H Q ⟨F,δ,R,EX,rel,hw,k,o⟩=>?_
 refine⟨F,δ,_,EX,rel,hw,λd hd v H1 rel1 kp1 vk=>⟨F,δ,_,EX,rel1,hd,λs hs y H2 rel2 kp2 yk=>?_,o⟩,o⟩;have v2:=kp2.dp vk;have K2:=kp1.trans kp2;obtain⟨h1,h2⟩:=hs;cases s<;>first | exact(show False from h1).elim | skip
 rename_i i
 cases(show i = -1 from h1);rw[DP.int yk];cases d<;>first | exact(show False from h2).elim | skip
 obtain⟨l,xs,rfl,e,q⟩:=DP.tuple v2;exact⟨_,rfl,rfl,l,xs,rfl,e,λp H' s e'=>k _ h2 _ H' (rel2.same s) (K2.trans (Kp.same rel2 s)) ⟨Qfn (λa ha=>rel2.isl ha) s e' q.rev,QdB e'⟩⟩
abbrev DF:=List Sl->(Qa->Prop)->XP->Prop
def Kq(pt:Addr->Prop)(H H':Hp):Prop:=(∀b o,¬pt b->H b=some o->H' b=some o)/\∀p,pt p->∃n,H' p=some (.lst [.int n])
def Ze(fr:Bool)(f:DF):Sp:=λvs H Q Ex=>∃(A pt:Addr->Prop)(args:List Sl)(R:Qa->Prop)(EX:XP),(∀a,A a->∃xs,H a=some (.lst xs))/\(∀p,pt p->A p/\∃n,H p=some (.lst [.int n]))/\YK (QiX A pt H) vs args/\f args R EX /\
 (∀d,R d->∀v H',Kq pt H H'->DA A H' v d->(fr=true->FrV H H' v)->Q v H')/\∀C,EX C->∀H',Kq pt H H'->Ex (.ref C) none H'
def QyL:DSl:=λ_ Q _=>Q []
def sV(we:DE)(wr:DSl):DSl:=λδ Q EX=>we δ (λd=>wr δ (λds=>Q (.v d::ds)) EX) EX
def QxR(i:Nat)(wr:DSl):DSl:=λδ Q EX=>match δ[i]? with
 |some .pot=>wr δ (λds=>Q (.pot::ds)) EX
 |_=>False
theorem QsS:PA X [] (tAs X.K E QyL):=PA.imp J4 λσ H Q ⟨F,δ,R,EX,rel,hw,k,o⟩=>k [] hw [] H rel (Kp.refl rel) .nil
theorem Qx6{e:Q2}{es:List Q2}{we:DE}{wr:DSl}(he:PE X e (tX .D X.K E we))(hr:PA X es (tAs X.K E wr))(hs:notStar e=true:=by rfl):PA X (e::es) (tAs X.K E (sV we wr)):=by
 refine PA.imp (Qdt he hr hs) λσ H Q ⟨F,δ,R,EX,rel,hw,k,o⟩=>?_
 refine⟨F,δ,_,EX,rel,hw,λd hd v H' rel' kp vk=>⟨F,δ,_,EX,rel',hd,λds hds vs H2 rel2 kp2 vks=>?_,o⟩,o⟩;exact k _ hds (v::vs) H2 rel2 (kp.trans kp2) (.cons (kp2.da vk) vks)
theorem QsP{e:Q2}{es:List Q2}{i:Nat}{wr:DSl}(he:PE X e (QhW i))(hr:PA X es (tAs X.K E wr))(hs:notStar e=true:=by rfl):PA X (e::es) (tAs X.K E (QxR i wr)):=by
 refine PA.imp (Qdt he hr hs) λσ H Q ⟨F,δ,R,EX,rel,hw,k,o⟩=>?_
 unfold QxR at hw;split at hw
 ·rename_i hd
  obtain⟨x,hx⟩:=rel.lt hd;obtain⟨p,n,rfl,e,q⟩:=rel.sl i _ _ hx hd;refine⟨.ref p,hx,F,δ,_,EX,rel,hw,λds hds vs H2 rel2 kp2 vks=>?_,o⟩;exact k _ hds (.ref p::vs) H2 rel2 kp2 (.cons ⟨p,rfl,i,hx,hd⟩ vks)
 ·exact hw.elim
def Qnl(f:DF)(wa:DSl):DE:=λδ Q EX=>wa δ (λargs=>f args Q EX) EX
theorem Kq.kp{K:PySem.W.Frag}{F:Fm}{σ:L2.St}{δ:Sts}{H H':Hp}(k:Kq (Z3 σ δ) H H'):Kp σ δ H H':=k
theorem QhG{m:Md}{fr:Bool}{K:PySem.W.Frag}{f:DF}{wa:DSl}(hm:∀{F:Fm}{σ:L2.St}{δ:Sts}{H H':Hp}{v:V}{d:Qa},DA (Av F σ δ) H' v d->(fr=true->FrV H H' v)->Vok m F σ δ H H' v d)(σ:L2.St)(H:Hp)(Q:VK)(h:tX m K E (Qnl f wa) σ H Q):Qsj (Ze fr f) [] E (tAs K E wa) σ H Q:=by
 obtain⟨F,δ,R,EX,rel,hw,k,o⟩:=h;refine⟨F,δ,_,EX,rel,hw,λargs ha vs H1 rel1 kp1 q=>?_,o⟩;show Ze fr f (vs++[]) H1 Q E;rw[Ji];refine⟨Av F σ δ,Z3 σ δ,args,R,EX,λa ha=>rel1.isl ha,λp hp=>⟨Yy hp,(Kp.refl rel1).2 p hp⟩,q,ha,λd hd v H' kq dv fr=>?_,λC hC H' kq=>o C hC H' (rel1.kp kq).ke⟩;exact k d hd v H' (rel1.kp kq) (kp1.trans kq) (hm dv λz l e1 e2=>Qbl kp1 (fr z l e1 e2))
variable{CX:CXT}{k:Nat}{f:Addr}{fd:QQ}{ps:List Str}{x:Str}{p pos:Pos}{e:Q2}{es:List Q2}{fD:DF}{wa:DSl}
theorem Qs4(G:FnOk X.prog X.w X.K X.mg X.base CX k f fd ps (Ze false fD))(hr:Room k X.A)(hg:Gl X x)(hm:X.mg x=some (.ref f))(hk:PySem.W.keepIn X.K (.ref f)=true)(hb:Binds X.K fd ps [])(hx:Qc8 CX X E)
  (ha:PA X (e::es) (tAs X.K E wa))(hdb:(x == ("__debug__" : Str))=false:=by decide)(he:starEach (e::es) X.env=(false,eval e X.env)::starEach es X.env:=by rfl)(hpl:(backTo pos (starEach es X.env)).any (·.1)=false:=by rfl) :
  PE X (.Call (.Name x p) (e::es) [] pos) (tX .D X.K E (Qnl fD wa)):=PE.imp (QeG G hr hg hm hk hb .nil hx ha hdb he hpl) (QhG λh _=>h)
theorem Qo4(G:FnOk X.prog X.w X.K X.mg X.base CX k f fd ps (Ze true fD))(hr:Room k X.A)(hg:Gl X x)(hm:X.mg x=some (.ref f))(hk:PySem.W.keepIn X.K (.ref f)=true)(hb:Binds X.K fd ps [])(hx:Qc8 CX X E)
  (ha:PA X (e::es) (tAs X.K E wa))(hdb:(x == ("__debug__" : Str))=false:=by decide)(he:starEach (e::es) X.env=(false,eval e X.env)::starEach es X.env:=by rfl)(hpl:(backTo pos (starEach es X.env)).any (·.1)=false:=by rfl) :
  PE X (.Call (.Name x p) (e::es) [] pos) (tX .F X.K E (Qnl fD wa)):=PE.imp (QeG G hr hg hm hk hb .nil hx ha hdb he hpl) (QhG λh z=>⟨h,z rfl⟩)
end
abbrev DG:=Qa->Sts->(Sts->Prop)->Prop
def tG(ix:List Nat)(K:PySem.W.Frag)(w:DG):TG:=λv σ H Q=>∃(F:Fm)(δ:Sts)(d:Qa)(R:Sts->Prop),Rel K F σ H δ/\DA (Av F σ δ) H v d/\w d δ R /\
 ∀δ',R δ'->∀σ',Rel K F σ' H δ'->Stp F σ H δ σ' H δ'->σ'.length=σ.length->(∀j,j∉ix->σ'[j]? = σ[j]?)->Q σ' H
theorem Qaq{α:Type}{l:List α}{i j:Nat}{x:α}(h:j≠i):(l.set i x)[j]? = l[j]? := Qa2 (Qdc h)
theorem set_eq{α:Type}{l:List α}{i:Nat}{x y:α}(h:(l.set i x)[i]? = some y):y=x:=by
 rw[Qp4] at h;simp only[if_true] at h;split at h
 ·exact(Qy h).symm
 ·cases h
theorem QeX{F:Fm}{σ:L2.St}{δ:Sts}{i:Nat}{o:Option V}{d:Qa}{a:Addr}(h:Av F (σ.set i o) (δ.set i (.v d)) a):Av F σ δ a:=by
 rcases h with h | ⟨j,h1,h2⟩
 ·exact .inl h
 ·by_cases z:j=i
  ·subst z;rcases h2 with h2 | ⟨ds,h2⟩<;>cases set_eq h2
  ·rw[Qaq z] at h1 h2;exact .inr ⟨j,h1,h2⟩
theorem Rel.setv{K:PySem.W.Frag}{F:Fm}{σ:L2.St}{H:Hp}{δ:Sts}(r:Rel K F σ H δ){i:Nat}{v:V}{d:Qa}(q:DA (Av F σ δ) H v d):Rel K F (σ.set i (some v)) H (δ.set i (.v d)) where
 len:=by rw[ZG,ZG];exact r.len
 dom:=r.dom
 dom0:=r.dom0
 pt0:=r.pt0
 kx:=r.kx
 sl:=λj o x h1 h2=>by
  have wk:∀{v:V}{d':Qa},DA (Av F σ δ) H v d'->DA (Av F (σ.set i (some v)) (δ.set i (.v d))) H v d':=λh=>h.mv (λ_ _ _ e=>e) λa z=>.inl (QeX z)
  by_cases z:j=i
  ·subst z;cases set_eq h1;cases set_eq h2;exact⟨v,rfl,q.mv (λ_ _ _ e=>e) λa z=>.inl (QeX z)⟩
  ·rw[Qaq z] at h1 h2;have h:=r.sl j o x h1 h2;cases x with
   |no=>trivial
   |v d=>obtain⟨v',e,q'⟩:=h;exact⟨v',e,q'.mv (λ_ _ _ e=>e) λa z=>.inl (QeX z)⟩
   |own ds=>obtain⟨l,xs,e,e2,q',f⟩:=h;exact⟨l,xs,e,e2,q'.mv (λ_ _ _ e=>e) λa z=>.inl (QeX z),f⟩
   |pk ds=>obtain⟨l,xs,e,e2,q',f⟩:=h;exact⟨l,xs,e,e2,q'.mv (λ_ _ _ e=>e) λa z=>.inl (QeX z),f⟩
   |pot=>exact h
   |scr=>exact h
 inj:=λj k a ds h1 h2 ⟨h3,h4⟩=>by
  by_cases z:j=i
  ·subst z;cases set_eq h1
  ·rw[Qaq z] at h1 h2;by_cases z2:k=i
   ·subst z2;rcases h4 with h4 | ⟨ds,h4⟩<;>cases set_eq h4
   ·rw[Qaq z2] at h3 h4;exact r.inj j k a ds h1 h2 ⟨h3,h4⟩
theorem Stp.setv{F:Fm}{σ:L2.St}{H:Hp}{δ:Sts}{i:Nat}{o:Option V}{d:Qa}:Stp F σ H δ (σ.set i o) H (δ.set i (.v d)):=⟨λ_ _ _ e=>e,λa z=>.inl (QeX z)⟩
def gN(i:Nat):DG:=λd δ Q=>Q (δ.set i (.v d))
def Qjf:Sts->List Nat->List Qa->Sts
 |δ,i::is,d::ds=>Qjf (δ.set i (.v d)) is ds
 |δ,_,_=>δ
def gTN(is:List Nat):DG:=λd δ Q=>match d with
 |.tuple ds=>ds.length=is.length/\Q (Qjf δ is ds)
 |_=>False
section
variable{X:Cx}{E:XK}
theorem PG.imp{e:Q2}{t t':TG}(h:PG X e t)(i:∀v σ H Q,t' v σ H Q->t v σ H Q):PG X e t':=λpins s σ H v u Q I r q=>h pins s σ H v u Q I r (i v σ H Q q)
theorem Qo1{e:Q2}{i:Nat}(h:PG X e (QeR i)):PG X e (tG [i] X.K (gN i)):=PG.imp h λv σ H Q ⟨F,δ,d,R,rel,dv,hw,k⟩=>
 k _ hw _ (rel.setv dv) Stp.setv (ZG ..) λj hj=>Qaq λz=>hj (by rw[z];exact Jz.mpr rfl)
def gNs:List Nat->TGs
 |[]=>Qyt
 |i::is=>QpH (QeR i) (gNs is)
theorem QjF{K:PySem.W.Frag}{F:Fm}{H:Hp}{Q:L2.St->Hp->Prop}:∀(is:List Nat)(vs:List V)(ds:List Qa)(σ:L2.St)(δ:Sts),ds.length=is.length->Rel K F σ H δ->DAs (Av F σ δ) H vs ds ->
  (∀σ',Rel K F σ' H (Qjf δ is ds)->Stp F σ H δ σ' H (Qjf δ is ds)->σ'.length=σ.length->(∀j,j∉is->σ'[j]? = σ[j]?)->Q σ' H)->gNs is vs σ H Q
 |[],vs,ds,σ,δ,hl,rel,q,k=>by
  cases ds with
  |nil=>cases q;exact⟨rfl,k σ rel Stp.refl rfl λ_ _=>rfl⟩
  |cons d ds=>cases hl
 |i::is,vs,ds,σ,δ,hl,rel,q,k=>by
  cases ds with
  |nil=>cases hl
  |cons d ds=>
   cases q with
   |@cons v vs _ _ q qs=>
    refine⟨v,vs,rfl,?_⟩;refine QjF is vs ds _ _ (by simpa using hl) (rel.setv q) (qs.mv (λ_ _ _ e=>e) λa z=>.inl (QeX z)) λσ' r' st hl' hj=>?_
    refine k σ' r' (Stp.setv.trans st) (by rw[hl',ZG]) λj hn=>?_
    rw[hj j (λz=>hn (Jq _ z)),Qaq (λz=>hn (by rw[z];exact Zi))]
theorem QsY{e:Q2}{n:Nat}{is:List Nat}(h:PG X e (Qys X.K n (gNs is)))(hn:is.length=n:=by rfl):PG X e (tG is X.K (gTN is)):=PG.imp h λv σ H Q ⟨F,δ,d,R,rel,dv,hw,k⟩=>by
 unfold gTN at hw;split at hw
 ·obtain⟨hl,hR⟩:=hw;cases dv with
  |@tup a xs ds na e q=>
   exact⟨a,xs,rfl,SqT.of e,by rw[q.length,hl,hn],QjF is xs _ σ δ hl rel q λσ' r' st hl' hj=>k _ hR σ' r' st hl' hj⟩
 ·exact hw.elim
def ItD(A S:Addr->Prop)(J:It)(items:List Qa)(H1:Hp):Prop:=items.length<=sizeLine/\∀(H2:Hp)(A':Addr->Prop),(∀b o,S b->H1 b=some o->H2 b=some o)->(∀b,A' b->A b∨H1 b=none)->(∀a,A' a->∃xs,H2 a=some (.lst xs)) ->
 (∀(i:Nat) d,items[i]? = some d->J.go i H2/\∀x H3,J.yld i H2 x H3->Same H2 H3/\DA A' H3 x d)/\J.stop items.length H2
def Sx(m:Md)(F:Fm)(σ:L2.St)(δ:Sts)(b:Addr):Prop:=
 match m with
 |.P=>¬Z3 σ δ b
 |_=>¬Av F σ δ b
abbrev DI:=Sts->(List Qa->Prop)->XP->Prop
def tI(m:Md)(K:PySem.W.Frag)(E:XK)(w:DI):TI:=λσ H R=>∃(F:Fm)(δ:Sts)(R':List Qa->Prop)(EX:XP),Rel K F σ H δ/\w δ R' EX/\(∀items,R' items->∀J H',Rel K F σ H' δ->Kp σ δ H H'->ItD (Av F σ δ) (Sx m F σ δ) J items H'->R J H')/\Out F E EX
theorem PI.imp{tg e:Q2}{t t':TI}(h:PI X tg e t)(i:∀σ H R,Qd0 H->t' σ H R->t σ H R):PI X tg e t':=λpins s σ H R I q=>h pins s σ H R I (i σ H R (Inv.lens I) q)
theorem PI.len{tg e:Q2}{t:TI}(h:PI X tg e t):PI X tg e (λσ H R=>t σ H λJ H1=>Qd0 H1->R J H1):=λpins s σ H R I q=>by
 refine thn (h pins s σ H _ I q) λv s1 h1=>thn h1 λitv s2 h2=>?_
 obtain⟨it,fp,tn,J,H',e,I',T,t0,fo,hR⟩:=h2;exact⟨it,fp,tn,J,H',e,I',T,t0,fo,hR (Inv.lens I')⟩
def Qzg(w:DE):DI:=λδ Q EX=>w δ (λd=>match d with
 |.list ds=>Q ds
 |_=>False) EX
def Qzf(w:DE):DI:=λδ Q EX=>w δ (λd=>match d with
 |.tuple ds=>Q ds
 |_=>False) EX
theorem Qcg{A S:Addr->Prop}{H H2:Hp}{A':Addr->Prop}{xs:List V}{ds:List Qa}(sA:∀b,¬A b->S b)(k:∀b o,S b->H b=some o->H2 b=some o)(m:∀b,A' b->A b∨H b=none)(q:DAs A H xs ds):DAs A' H2 xs ds:=q.mv (λa o n e=>k a o (sA a n) e) m
theorem Qym{K:PySem.W.Frag}{A S:Addr->Prop}{H:Hp}{l:Addr}{xs:List V}{ds:List Qa}(sA:∀b,¬A b->S b)(sl:S l)(e:H l=some (.lst xs))(q:DAs A H xs ds)(ln:xs.length<=sizeLine):ItD A S (Itl K l) ds H:=by
 refine⟨by rw[<- q.length];exact ln,λH2 A' k m dm=>⟨λi d hd=>?_,xs,SqL.of (k _ _ sl e),by rw[q.length];exact Qk _⟩⟩;obtain⟨x,hx,dx⟩:=(Qcg sA k m q).get i d hd;refine⟨⟨xs,x,SqL.of (k _ _ sl e),hx⟩,λy H3 ⟨e3,hy⟩=>?_⟩;subst e3;have:=hy xs (SqL.of (k _ _ sl e));rw[hx] at this;cases this;exact⟨Same.refl _,dx⟩
theorem Qyk{K:PySem.W.Frag}{A S:Addr->Prop}{H:Hp}{l:Addr}{xs:List V}{ds:List Qa}(sA:∀b,¬A b->S b)(sl:S l)(e:H l=some (.tup xs))(q:DAs A H xs ds)(ln:xs.length<=sizeLine):ItD A S (Itt K l) ds H:=by
 refine⟨by rw[<- q.length];exact ln,λH2 A' k m dm=>⟨λi d hd=>?_,xs,SqT.of (k _ _ sl e),by rw[q.length];exact Qk _⟩⟩;obtain⟨x,hx,dx⟩:=(Qcg sA k m q).get i d hd;refine⟨⟨xs,x,SqT.of (k _ _ sl e),hx⟩,λy H3 ⟨e3,hy⟩=>?_⟩;subst e3;have:=hy xs (SqT.of (k _ _ sl e));rw[hx] at this;cases this;exact⟨Same.refl _,dx⟩
theorem Qg6{m:Md}{F:Fm}{σ:L2.St}{δ:Sts}{b:Addr}(h:¬Av F σ δ b):Sx m F σ δ b:=by
 cases m
 ·exact h
 ·exact λz=>h (Yy z)
 ·exact h
theorem stL{m:Md}{F:Fm}{σ:L2.St}{δ:Sts}{H H':Hp}{v:V}{ds:List Qa}(h:VD m (Av F σ δ) (Z3 σ δ) H v (.list ds)):∃l xs,v=.ref l/\Sx m F σ δ l/\H l=some (.lst xs)/\DAs (Av F σ δ) H xs ds:=by
 cases m
 ·cases h with | @lst a xs _ n e q=>exact⟨a,xs,rfl,n,e,q⟩
 ·rcases h with h | ⟨l,xs,ds',rfl,e,n,e2,q⟩
  ·cases h with | @lst a xs _ n e q=>exact⟨a,xs,rfl,Qg6 n,e,q⟩
  ·cases e;exact⟨l,xs,rfl,n,e2,q⟩
 ·cases h with | @lst a xs _ n e q=>exact⟨a,xs,rfl,n,e,q⟩
theorem stT{m:Md}{F:Fm}{σ:L2.St}{δ:Sts}{H H':Hp}{v:V}{ds:List Qa}(h:VD m (Av F σ δ) (Z3 σ δ) H v (.tuple ds)):∃l xs,v=.ref l/\Sx m F σ δ l/\H l=some (.tup xs)/\DAs (Av F σ δ) H xs ds:=by
 cases m
 ·cases h with | @tup a xs _ n e q=>exact⟨a,xs,rfl,n,e,q⟩
 ·rcases h with h | ⟨l,xs,ds',rfl,e,n,e2,q⟩
  ·cases h with | @tup a xs _ n e q=>exact⟨a,xs,rfl,Qg6 n,e,q⟩
  ·cases e
 ·cases h with | @tup a xs _ n e q=>exact⟨a,xs,rfl,n,e,q⟩
theorem Qfl{m:Md}{F:Fm}{σ:L2.St}{δ:Sts}{H H':Hp}{v:V}{d:Qa}(h:Vok m F σ δ H H' v d):VD m (Av F σ δ) (Z3 σ δ) H' v d:=by
 cases m
 ·exact h
 ·exact h
 ·exact h.1
variable{m:Md}{tg e e':Q2}{w w':DE}{p pos tpos:Pos}
theorem Qo0(h:PE X e (tX m X.K E w)):PI X tg e (tI m X.K E (Qzg w)):=by
 refine PI.imp (PI.len (QsH h)) λσ H R _ ⟨F,δ,R',EX,rel,hw,k,o⟩=>?_
 refine⟨F,δ,_,EX,rel,hw,λd hd v H' rel' kp vk=>?_,o⟩;cases d<;>first | exact(show False from hd).elim | skip
 obtain⟨l,xs,rfl,sl,e,q⟩:=stL (H':=H') (Qfl vk);exact⟨l,rfl,⟨xs,SqL.of e⟩,λln=>k _ hd _ H' rel' kp (Qym (λb=>Qg6) sl e q (ln _ _ (.inl e)))⟩
theorem QsX(h:PE X e (tX m X.K E w)):PI X tg e (tI m X.K E (Qzf w)):=by
 refine PI.imp (PI.len (Qvc h)) λσ H R _ ⟨F,δ,R',EX,rel,hw,k,o⟩=>?_
 refine⟨F,δ,_,EX,rel,hw,λd hd v H' rel' kp vk=>?_,o⟩;cases d<;>first | exact(show False from hd).elim | skip
 obtain⟨l,xs,rfl,sl,e,q⟩:=stT (H':=H') (Qfl vk);exact⟨l,rfl,⟨xs,SqT.of e⟩,λln=>k _ hd _ H' rel' kp (Qyk (λb=>Qg6) sl e q (ln _ _ (.inr e)))⟩
def Qed(lo:Int)(n:Nat):List Qa:=(Jr n).map λ(i:Nat)=>.int (lo+i)
theorem QbF{lo:Int}{n i:Nat}{d:Qa}(h:(Qed lo n)[i]? = some d):i<n/\d=.int (lo+i):=by
 unfold Qed at h;rw[Q5] at h;by_cases z:i<n
 ·rw[QdJ z] at h;exact⟨z,(Qy h).symm⟩
 ·rw[YM (by rw[Yd];omega)] at h;cases h
theorem Qii{lo:Int}{n:Nat}:(Qed lo n).length=n:=by unfold Qed;rw[Qe,Yd]
theorem Qyl{A S:Addr->Prop}{H:Hp}{lo:Int}{n:Nat}(hn:n<=1000000):ItD A S (Itr lo n) (Qed lo n) H:=by
 refine⟨by rw[Qii];exact Jc hn Qgq,λH2 A' k m dm=>⟨λi d hd=>?_,by rw[Qii];exact Qk _⟩⟩;obtain⟨hi,rfl⟩:=QbF hd;exact⟨hi,λx H3 ⟨e1,e2⟩=>by subst e1 e2;exact⟨Same.refl _,.int _⟩⟩
def Qwo(w:DE):DI:=λδ Q EX=>w δ (λd=>match d with
 |.int j=>(-1000000<=j/\j<=1000000)/\Q (Qed 0 j.toNat)
 |_=>False) EX
theorem QoZ(hg:Gl X "range")(hm:X.mg "range" = none)(h:PE X e (tX .P X.K E w))(hs:notStar e=true:=by rfl):PI X tg (.Call (.Name "range" p) [e] [] pos) (tI m X.K E (Qwo w)):=by
 refine PI.imp (Qhi hg hm (Qdt h J4 hs) (by rw[Yj hs];rfl)) λσ H R _ ⟨F,δ,R',EX,rel,hw,k,o⟩=>?_
 refine⟨F,δ,_,EX,rel,hw,λd hd v H' rel' kp vk=>?_,o⟩;cases d<;>first | exact(show False from hd).elim | skip
 obtain⟨⟨h1,h2⟩,hR⟩:=hd;rw[DP.int vk];exact⟨_,rfl,by omega,by omega,k _ hR _ H' rel' kp (Qyl (by omega))⟩
theorem Ql8{A':Addr->Prop}{H2:Hp}{r:Addr}{x y:V}{d d':Qa}(dm:∀a,A' a->∃xs,H2 a=some (.lst xs))(n:H2 r=none)(q:DA A' H2 x d)(q':DA A' H2 y d'):DA A' (upd H2 r (.tup [x,y])) (.ref r) (.tuple [d,d']):=
 .tup (λz=>by obtain⟨xs,e⟩:=dm r z;rw[n] at e;cases e) Jm (.cons (q.same (Jk n)) (.cons (q'.same (Jk n)) .nil))
variable{elts:List Q2}
def QfY(ds es:List Qa):List Qa:=List.zipWith (λd e=>.tuple [d,e]) ds es
theorem zip_get{ds es:List Qa}{i:Nat}{d:Qa}(h:(QfY ds es)[i]? = some d):∃a b,ds[i]? = some a/\es[i]? = some b/\d=.tuple [a,b]:=by
 unfold QfY at h;rw[List.getElem?_zipWith] at h;cases h1:ds[i]? with
 |none=>rw[h1] at h;cases h
 |some a=>
  cases h2:es[i]? with
  |none=>rw[h1,h2] at h;cases h
  |some b=>rw[h1,h2] at h;exact⟨a,b,rfl,rfl,(Qy h).symm⟩
theorem QfX{ds es:List Qa}:(QfY ds es).length=min ds.length es.length:=by unfold QfY;rw[List.length_zipWith]
def Qy7(w w':DE):DI:=λδ Q EX=>w δ (λd=>w' δ (λd'=>match d,d' with
 |.list ds,.list es=>Q (QfY ds es)
 |_,_=>False) EX) EX
def Qy6(w w':DE):DI:=λδ Q EX=>w δ (λd=>w' δ (λd'=>match d,d' with
 |.tuple ds,.tuple es=>Q (QfY ds es)
 |_,_=>False) EX) EX
theorem QoY{x1}(hg:Gl X "zip")(hm:X.mg "zip" = none)(h:PE X e (tX m X.K E w))(h':PE X e' (tX m X.K E w'))(hs:notStar e=true:=by rfl)(hs':notStar e'=true:=by rfl):PI X (.Tuple elts x1 tpos) (.Call (.Name "zip" p) [e,e'] [] pos) (tI m X.K E (Qy7 w w')):=by
 refine PI.imp (PI.len (QlU hg hm (Qdt h (Qdt h' J4 hs') hs) (by rw[Yj hs,Yj hs'];rfl) (hs2:=by rw[Yj hs'];rfl))) λσ H R _ ⟨F,δ,R',EX,rel,hw,k,o⟩=>?_
 refine⟨F,δ,_,EX,rel,hw,λd hd v H1 rel1 kp1 vk=>⟨F,δ,_,EX,rel1,hd,λd2 hd2 v2 H2 rel2 kp2 vk2=>?_,o⟩,o⟩;cases d<;>cases d2<;>first | exact(show False from hd2).elim | skip
 obtain⟨l,xs,rfl,sl,e,q⟩:=stL (H':=H2) (kp2.vd (Qfl vk));obtain⟨l2,ys,rfl,sl2,e2,q2⟩:=stL (H':=H2) (Qfl vk2);refine⟨l,l2,xs,ys,rfl,e,e2,λln=>k _ hd2 _ H2 rel2 (kp1.trans kp2) ⟨?_,λH3 A' kk mm dm=>⟨λi d hd'=>?_,xs,ys,kk _ _ sl e,kk _ _ sl2 e2,by rw[QfX,q.length,q2.length];omega⟩⟩⟩
 ·rw[QfX,<- q.length];exact Jc (Qur _ _) (ln _ _ (.inl e))
 obtain⟨a,b,ha,hb,rfl⟩:=zip_get hd';obtain⟨x,hx,dx⟩:=(Qcg (S:=Sx m F σ δ) (λb=>Qg6) kk mm q).get i a ha;obtain⟨y,hy,dy⟩:=(Qcg (S:=Sx m F σ δ) (λb=>Qg6) kk mm q2).get i b hb;refine⟨⟨xs,ys,x,y,kk _ _ sl e,kk _ _ sl2 e2,hx,hy⟩,λz H4 ⟨r,x',y',nr,hx',hy',e1,e3⟩=>?_⟩;subst e1 e3;have h1:=hx' xs (kk _ _ sl e);have h2:=hy' ys (kk _ _ sl2 e2);rw[hx] at h1;rw[hy] at h2;cases h1;cases h2;exact⟨Jk nr,Ql8 dm nr dx dy⟩
theorem QoX{x1}(hg:Gl X "zip")(hm:X.mg "zip" = none)(h:PE X e (tX m X.K E w))(h':PE X e' (tX m X.K E w'))(hs:notStar e=true:=by rfl)(hs':notStar e'=true:=by rfl):PI X (.Tuple elts x1 tpos) (.Call (.Name "zip" p) [e,e'] [] pos) (tI m X.K E (Qy6 w w')):=by
 refine PI.imp (PI.len (Qrt hg hm (Qdt h (Qdt h' J4 hs') hs) (by rw[Yj hs,Yj hs'];rfl) (hs2:=by rw[Yj hs'];rfl))) λσ H R _ ⟨F,δ,R',EX,rel,hw,k,o⟩=>?_
 refine⟨F,δ,_,EX,rel,hw,λd hd v H1 rel1 kp1 vk=>⟨F,δ,_,EX,rel1,hd,λd2 hd2 v2 H2 rel2 kp2 vk2=>?_,o⟩,o⟩;cases d<;>cases d2<;>first | exact(show False from hd2).elim | skip
 obtain⟨l,xs,rfl,sl,e,q⟩:=stT (H':=H2) (kp2.vd (Qfl vk));obtain⟨l2,ys,rfl,sl2,e2,q2⟩:=stT (H':=H2) (Qfl vk2);refine⟨l,l2,xs,ys,rfl,e,e2,λln=>k _ hd2 _ H2 rel2 (kp1.trans kp2) ⟨?_,λH3 A' kk mm dm=>⟨λi d hd'=>?_,xs,ys,kk _ _ sl e,kk _ _ sl2 e2,by rw[QfX,q.length,q2.length];omega⟩⟩⟩
 ·rw[QfX,<- q.length];exact Jc (Qur _ _) (ln _ _ (.inr e))
 obtain⟨a,b,ha,hb,rfl⟩:=zip_get hd';obtain⟨x,hx,dx⟩:=(Qcg (S:=Sx m F σ δ) (λb=>Qg6) kk mm q).get i a ha;obtain⟨y,hy,dy⟩:=(Qcg (S:=Sx m F σ δ) (λb=>Qg6) kk mm q2).get i b hb;refine⟨⟨xs,ys,x,y,kk _ _ sl e,kk _ _ sl2 e2,hx,hy⟩,λz H4 ⟨r,x',y',nr,hx',hy',e1,e3⟩=>?_⟩;subst e1 e3;have h1:=hx' xs (kk _ _ sl e);have h2:=hy' ys (kk _ _ sl2 e2);rw[hx] at h1;rw[hy] at h2;cases h1;cases h2;exact⟨Jk nr,Ql8 dm nr dx dy⟩
end
def Qt3:Option Sl->Sl
 |some (.v d)=>.v d
 |some (.own ds)=>.pk ds
 |some (.pk ds)=>.pk ds
 |some .pot=>.pot
 |_=>.no
def QdZ(cap:List (Option Nat))(δ:Sts):Sts:=cap.map λo=>match o with
 |none=>.no
 |some j=>Qt3 δ[j]?
theorem Qem{cap:List (Option Nat)}{σ:L2.St}{i:Nat}{o:Option V}(h:(Qde cap σ)[i]? = some o):(cap[i]? = some none/\o=none)∨∃j,cap[i]? = some (some j)/\o=(σ[j]?).getD none:=by
 unfold Qde at h;rw[Q5] at h;obtain⟨c,hc,rfl⟩:=JU.mp h;cases c with
 |none=>exact .inl ⟨hc,rfl⟩
 |some j=>exact .inr ⟨j,hc,rfl⟩
theorem QgE{cap:List (Option Nat)}{δ:Sts}{i:Nat}{x:Sl}(h:(QdZ cap δ)[i]? = some x):(cap[i]? = some none/\x=.no)∨∃j,cap[i]? = some (some j)/\x=Qt3 δ[j]? := by
 unfold QdZ at h;rw[Q5] at h;obtain⟨c,hc,rfl⟩:=JU.mp h;cases c with
 |none=>exact .inl ⟨hc,rfl⟩
 |some j=>exact .inr ⟨j,hc,rfl⟩
theorem Qbd{cap:List (Option Nat)}{σ:L2.St}{δ:Sts}{i:Nat}{o:Option V}{x:Sl}(h1:(Qde cap σ)[i]? = some o)(h2:(QdZ cap δ)[i]? = some x)(hx:x≠.no):∃(j:Nat)(y:Sl),δ[j]? = some y/\x=Qt3 (some y)/\o=(σ[j]?).getD none:=by
 rcases QgE h2 with⟨_,e⟩ | ⟨j,hj,e⟩
 ·exact absurd e hx
 ·rcases Qem h1 with⟨z,_⟩ | ⟨j',hj',e'⟩
  ·rw[hj] at z;cases z
  ·rw[hj] at hj';cases hj';cases e2:δ[j]? with
   |none=>rw[e2] at e;exact absurd e hx
   |some y=>exact⟨j,y,e2,by rw[e,e2],e'⟩
theorem Qb6{cap:List (Option Nat)}{σ:L2.St}{δ:Sts}{a:Addr}(h:Z3 (Qde cap σ) (QdZ cap δ) a):Z3 σ δ a:=by
 obtain⟨i,h1,h2⟩:=h;obtain⟨j,y,hy,e,eo⟩:=Qbd h1 h2 (λz=>by cases z);cases y<;>first | (cases e;done) | skip
 refine⟨j,?_,hy⟩;cases e2:σ[j]? with
 |none=>rw[e2] at eo;cases eo
 |some o'=>rw[e2] at eo;exact congrArg some eo.symm
def inF(A1:Addr->Prop)(cap:List (Option Nat))(σ:L2.St)(δ:Sts)(H:Hp):Fm:=⟨H,A1,Z3 (Qde cap σ) (QdZ cap δ)⟩
theorem QjE{A1:Addr->Prop}{cap:List (Option Nat)}{σ:L2.St}{δ:Sts}{H:Hp}(h:∀a,Z3 σ δ a->A1 a){a:Addr}:Av (inF A1 cap σ δ H) (Qde cap σ) (QdZ cap δ) a↔A1 a:=by
 constructor
 ·rintro(z | ⟨i,h1,h2⟩)
  ·exact z
  ·rcases h2 with h2 | ⟨ds,h2⟩
   ·exact h a (Qb6 ⟨i,h1,h2⟩)
   ·obtain⟨j,y,hy,e,eo⟩:=Qbd h1 h2 (λz=>by cases z);cases y<;>cases e
 ·exact .inl
theorem QjD{K:PySem.W.Frag}{F:Fm}{σ:L2.St}{δ:Sts}{H1 H3:Hp}{A1:Addr->Prop}{cap:List (Option Nat)}(rel:Rel K F σ H1 δ)(hA:∀a,Av F σ δ a->A1 a)(hN:∀a,A1 a->Av F σ δ a∨H1 a=none)
  (dm:∀a,A1 a->∃xs,H3 a=some (.lst xs))(kp:Kp σ δ H1 H3):Rel K (inF A1 cap σ δ H3) (Qde cap σ) H3 (QdZ cap δ) where
 len:=by unfold Qde QdZ;rw[Qe,Qe]
 dom:=dm
 dom0:=dm
 pt0:=λp hp=>⟨hA p (Yy (Qb6 hp)),kp.2 p (Qb6 hp)⟩
 kx:=λb o _ e=>e
 sl:=λi o x h1 h2=>by
  have iv:∀{a:Addr},Av (inF A1 cap σ δ H3) (Qde cap σ) (QdZ cap δ) a->A1 a:=λ{a}=>(QjE λa z=>hA a (Yy z)).mp
  have mv:∀{v:V}{d:Qa},DA (Av F σ δ) H1 v d->DA (Av (inF A1 cap σ δ H3) (Qde cap σ) (QdZ cap δ)) H3 v d:=λq=>q.mv (λa o n e=>kp.1 a o (λz=>n (Yy z)) e) λa z=>hN a (iv z)
  have mvs:∀{v:List V}{d:List Qa},DAs (Av F σ δ) H1 v d->DAs (Av (inF A1 cap σ δ H3) (Qde cap σ) (QdZ cap δ)) H3 v d:=λq=>q.mv (λa o n e=>kp.1 a o (λz=>n (Yy z)) e) λa z=>hN a (iv z)
  cases x with
  |no=>trivial
  |own ds=>
   obtain⟨j,y,hy,e,eo⟩:=Qbd h1 h2 (λz=>by cases z);cases y<;>cases e
  |scr=>
   obtain⟨j,y,hy,e,eo⟩:=Qbd h1 h2 (λz=>by cases z);cases y<;>cases e
  |v d=>
   obtain⟨j,y,hy,e,eo⟩:=Qbd h1 h2 (λz=>by cases z);cases y<;>first | (cases e;done) | skip
   cases e;obtain⟨x,hx⟩:=rel.lt hy;obtain⟨v,rfl,q⟩:=rel.sl j _ _ hx hy;rw[hx] at eo;exact⟨v,eo,mv q⟩
  |pk ds=>
   obtain⟨j,y,hy,e,eo⟩:=Qbd h1 h2 (λz=>by cases z);cases y<;>first | (cases e;done) | skip
   ·cases e;obtain⟨x,hx⟩:=rel.lt hy;obtain⟨l,xs,rfl,e,q,f⟩:=rel.sl j _ _ hx hy;rw[hx] at eo;have np:=rel.own_pot hy hx;exact⟨l,xs,eo,kp.1 _ _ np e,mvs q,xs,kp.1 _ _ np e,λz=>np (Qb6 z)⟩
   ·cases e;obtain⟨x,hx⟩:=rel.lt hy;obtain⟨l,xs,rfl,e,q,ys,f,f2⟩:=rel.sl j _ _ hx hy;rw[hx] at eo;have np:¬Z3 σ δ l:=by
     rintro⟨j,j1,j2⟩;obtain⟨p,m,e1,_,w⟩:=rel.sl j _ _ j1 j2;cases e1;rcases w with w | w
     ·exact f2 w
     ·rw[w] at f;cases f
    exact⟨l,xs,eo,kp.1 _ _ np e,mvs q,xs,kp.1 _ _ np e,λz=>np (Qb6 z)⟩
  |pot=>
   obtain⟨j,y,hy,e,eo⟩:=Qbd h1 h2 (λz=>by cases z);cases y<;>first | (cases e;done) | skip
   obtain⟨x,hx⟩:=rel.lt hy;obtain⟨p,n,rfl,e,q⟩:=rel.sl j _ _ hx hy;rw[hx] at eo;obtain⟨m,em⟩:=kp.2 p ⟨j,hx,hy⟩;have eo':o=some (.ref p):=eo;subst eo';exact⟨p,m,rfl,em,.inl ⟨i,h1,h2⟩⟩
 inj:=λi j a ds h1 h2 _=>by
  obtain⟨j,y,hy,e,eo⟩:=Qbd h2 h1 (λz=>by cases z);cases y<;>cases e
theorem Qk7:∀{σ σ':L2.St},σ'.length=σ.length->(∀(i:Nat) v,σ[i]? = some (some v)->σ'[i]? = some (some v))->Wk σ σ'
 |[],[],_,_=>trivial
 |[],_::_,h,_=>by cases h
 |_::_,[],h,_=>by cases h
 |none::a,x::b,h,g=>Qk7 (σ:=a) (σ':=b) (by simpa using h) λi v e=>by simpa using g (i+1) v (by simpa using e)
 |some u::a,x::b,h,g=>by
  have h0:=g 0 u rfl;simp only[QiZ,Option.some.injEq] at h0;subst h0;exact⟨rfl,Qk7 (σ:=a) (σ':=b) (by simpa using h) λi v e=>by simpa using g (i+1) v (by simpa using e)⟩
def Qa4(cap:List (Option Nat))(ix:List Nat):Bool:=ix.all λi=>match cap[i]? with
 |some none=>true
 |_=>false
theorem QrX{cap:List (Option Nat)}{ix:List Nat}(hf:Qa4 cap ix=true){σ σ4:L2.St}(hl:σ4.length=(Qde cap σ).length)(hj:∀j,j∉ix->σ4[j]? = (Qde cap σ)[j]?):Wk (Qde cap σ) σ4:=by
 refine Qk7 hl λi v e=>?_
 by_cases z:i∈ix
 ·have:=Q4.mp hf i z;rcases Qem e with⟨_,e2⟩ | ⟨j,hj2,_⟩
  ·cases e2
  ·rw[hj2] at this;cases this
 ·rw[hj i z];exact e
def XF:XP:=λ_=>False
@[irreducible] def QiW(items:List Qa)(wg:DG)(wt:DT)(we:DE)(δ:Sts)(Q:Qa->Prop):Prop:=∃Iv:Nat->List Qa->Prop,Iv 0 [] /\
 (∀(i:Nat) acc d,items[i]? = some d->Iv i acc->wg d δ λδ4=>wt δ4 (λb=>if b=true then we δ4 (λe=>Iv (i+1) (acc++[e])) XF else Iv (i+1) acc) XF)/\∀acc,Iv items.length acc->Q (.list acc)
def dComp(cap:List (Option Nat))(wi:DI)(wg:DG)(wt:DT)(we:DE):DE:=λδ Q EX=>wi δ (λitems=>QiW items wg wt we (QdZ cap δ) Q) EX
def QrU:DT:=λ_ Q _=>Q true
section
variable{X:Cx}{E:XK}
theorem Qhl{F:Fm}{E:XK}:Out F E XF:=λ_ z=>z.elim
theorem PTs.imp{es:List Q2}{t t':TT}(h:PTs X es t)(i:∀σ H Q,t' σ H Q->t σ H Q):PTs X es t':=λpins s σ H Q I q=>h pins s σ H Q I (i σ H Q q)
theorem QoO:PTs X [] (tT X.K E QrU):=PTs.imp QlN λσ H Q ⟨F,δ,R,EX,rel,hw,k,o⟩=>k _ hw H rel (Kp.refl rel)
theorem QoN{c:Q2}{t:DT}(h:PT X c (tT X.K E t)):PTs X [c] (tT X.K E t):=QsC h
theorem Qgw{K:PySem.W.Frag}{A1:Addr->Prop}{cap:List (Option Nat)}{σ σ4:L2.St}{δ δ4:Sts}{H3 H4:Hp}(r:Rel K (inF A1 cap σ δ H3) σ4 H4 δ4)(hk:∀b o,¬Z3 σ δ b->H4 b=some o->H3 b=none->False){b:Addr}(h:Z3 σ4 δ4 b):Z3 σ δ b:=by
 obtain⟨i,h1,h2⟩:=h;obtain⟨p,n,e,hp,w⟩:=r.sl i _ _ h1 h2;cases e;rcases w with w | w
 ·exact Qb6 w
 ·by_cases z:Z3 σ δ b
  ·exact z
  ·exact(hk b _ z hp w).elim
theorem Qh9{K:PySem.W.Frag}{F:Fm}{σ:L2.St}{δ:Sts}{H1 H3:Hp}{cap:List (Option Nat)}{ix:List Nat}{wg:DG}{wt:DT}{A1:Addr->Prop}{x:V}{d:Qa}{inner:L2.St->Hp->(Hp->Prop)->Prop}{kk:Hp->Prop}{T:Sts->Prop}{N:Prop}
  (hf:Qa4 cap ix=true)(rel:Rel K F σ H1 δ)(hA:∀a,Av F σ δ a->A1 a)(hN:∀a,A1 a->Av F σ δ a∨H1 a=none)(dm:∀a,A1 a->∃xs,H3 a=some (.lst xs))(kp:Kp σ δ H1 H3)(dx:DA A1 H3 x d)
  (h:wg d (QdZ cap δ) λδ4=>wt δ4 (λb=>if b=true then T δ4 else N) XF)
  (hT:∀σ4 δ4 H5,T δ4->Rel K (inF A1 cap σ δ H3) σ4 H5 δ4->Kp σ δ H3 H5->(∀b,Z3 σ4 δ4 b->Z3 σ δ b)->inner σ4 H5 kk)(hF:N->∀H5,Kp σ δ H3 H5->kk H5) :
  bOf (Qde cap σ) (tG ix K wg) (tT K E0 wt) inner x H3 kk:=by
 have ri:=QjD (cap:=cap) rel hA hN dm kp;have iv:∀{a:Addr},Av (inF A1 cap σ δ H3) (Qde cap σ) (QdZ cap δ) a->A1 a:=λ{a}=>(QjE λa z=>hA a (Yy z)).mp
 refine⟨inF A1 cap σ δ H3,QdZ cap δ,d,_,ri,dx.mv (λ_ _ _ e=>e) λa z=>.inl (iv z),h,λδ4 h4 σ4 r4 st4 l4 j4=>⟨QrX hf l4 j4,inF A1 cap σ δ H3,δ4,_,XF,r4,h4,λb hb H5 r5 kp5=>?_,Qhl⟩⟩;have pots:∀{b:Addr},Z3 σ4 δ4 b->Z3 σ δ b:=λz=>Qgw r4 (λb o _ e1 e2=>by rw[e2] at e1;cases e1) z
 have K5:Kp σ δ H3 H5:=by
  refine⟨λb o n e=>kp5.1 b o (λz=>n (pots z)) e,λb hb=>?_⟩;by_cases z:Z3 σ4 δ4 b
  ·exact kp5.2 b z
  ·obtain⟨n,e⟩:=kp.2 b hb;exact⟨n,kp5.1 _ _ z e⟩
 exact Qcs hb (λz=>hT σ4 δ4 H5 z r5 K5 λb=>pots) λz=>hF z H5 K5
structure Lp (σ:L2.St) (δ:Sts) (A1:Addr->Prop) (p:Addr) (H1 H2:Hp) (acc:List Qa):Prop where
 kp:Kp σ δ H1 H2
 at_:∃ys,H2 p=some (.lst ys)/\DAs A1 H2 ys acc
theorem Lp.step{σ:L2.St}{δ:Sts}{A1:Addr->Prop}{p:Addr}{H1 H2 H3:Hp}{acc:List Qa}(hpA:∀a,Z3 σ δ a->A1 a)(hpn:¬Z3 σ δ p)(h:Lp σ δ A1 p H1 H2 acc)(k:Kp σ δ H2 H3):Lp σ δ A1 p H1 H3 acc:=by
 obtain⟨ys,e,q⟩:=h.at_;exact⟨h.kp.trans k,ys,k.1 _ _ hpn e,q.mv (λa o n e=>k.1 a o (λz=>n (hpA a z)) e) λa z=>.inl z⟩
theorem QrQ{K:PySem.W.Frag}{σ σ4:L2.St}{δ δ4:Sts}{H1 H3 H5:Hp}{cap:List (Option Nat)}{we:DE}{A1:Addr->Prop}{p:Addr}{acc:List Qa}{kk:Hp->Prop}{G:Qa->Prop}
  (hpA:A1 p)(hP:∀a,Z3 σ δ a->A1 a)(hp1:H1 p=none)(hpn:¬Z3 σ δ p)(lp:Lp σ δ A1 p H1 H5 acc)(hl:acc.length<sizeLine)(r5:Rel K (inF A1 cap σ δ H3) σ4 H5 δ4)(pots:∀b,Z3 σ4 δ4 b->Z3 σ δ b)
  (h:we δ4 G XF)(hk:∀e,G e->∀H',Lp σ δ A1 p H1 H' (acc++[e])->kk H'):Qui p (tX .D K E0 we) σ4 H5 kk:=by
 refine⟨inF A1 cap σ δ H3,δ4,G,XF,r5,h,λe he v H6 r6 kp6 dv=>?_,Qhl⟩;have k56:Kp σ δ H5 H6:=by
  refine⟨λb o n e=>kp6.1 b o (λz=>n (pots b z)) e,λb hb=>?_⟩;by_cases z:Z3 σ4 δ4 b
  ·exact kp6.2 b z
  ·obtain⟨n,e⟩:=lp.kp.2 b hb;exact⟨n,kp6.1 _ _ z e⟩
 obtain⟨k6,ys,e6,q6⟩:=lp.step hP hpn k56;have up:∀{b:Addr}{o:HO},¬A1 b->H6 b=some o->upd H6 p (.lst (ys++[v])) b=some o:=λ{b o} n e=>by rw[JX (λz=>n (by rw[z];exact hpA))];exact e
 refine⟨ys,e6,by rw[q6.length];exact hl,hk e he _ ⟨⟨λb o n e=>?_,λb hb=>?_⟩,ys++[v],Jm,DAs.app (q6.mv (λ_ _=>up) λa z=>.inl z) (.cons (DA.mv dv (λa o n e=>up (λz=>n (.inl z)) e) λa z=>.inl (.inl z)) .nil)⟩⟩
 ·rw[JX (λz=>by rw[z,hp1] at e;cases e)];exact k6.1 b o n e
 ·rw[JX (λz=>hpn (by rw[<- z];exact hb))];exact k6.2 b hb
theorem Qs2{M:List Str}{cap:List (Option Nat)}{elt tg iter:Q2}{ifs:List Q2}{scope:Yp}{pos:Pos}{ix:List Nat}{wi:DI}{wg:DG}{wt:DT}{we:DE}(hc:X.calm=true)(ok:QcC X.N X.env.scope M scope cap=true)(hf:Qa4 cap ix=true)
  (hi:PI X tg iter (tI .P X.K E wi))(hb:∀cl ex s3 H3 C,PG (blk X M scope cl ex s3 H3 C) tg (tG ix X.K wg)/\PTs (blk X M scope cl ex s3 H3 C) ifs (tT X.K E0 wt)/\PE (blk X M scope cl ex s3 H3 C) elt (tX .D X.K E0 we))
  (hs:∀x,foldedSetIterable iter X.env x=pure x:=by intro _;rfl):PE X (.ListComp elt [⟨tg,iter,ifs,0⟩] scope pos) (tX .F X.K E (dComp cap wi wg wt we)):=by
 refine PE.imp (Qjr hc ok hi hb hs) λσ H Q ⟨F,δ,R,EX,rel,hw,k,o⟩=>?_
 refine⟨F,δ,_,EX,rel,hw,λitems hC J H1 rel1 kp1 ⟨ln,it⟩ p hp=>?_,o⟩;unfold QiW at hC;obtain⟨Iv,i0,step,fin⟩:=hC;have hpn:¬Z3 σ δ p:=λz=>by obtain⟨xs,e⟩:=rel1.isl (Yy (F:=F) z);rw[hp] at e;cases e
 let A1:Addr->Prop:=λa=>Av F σ δ a∨a=p
 have hP:∀a,Z3 σ δ a->A1 a:=λa z=>.inl (Yy z)
 have hN:∀a,A1 a->Av F σ δ a∨H1 a=none:=λa z=>z.elim .inl λz=>.inr (by rw[z];exact hp)
 have dmK:∀{H2:Hp},Kp σ δ H1 H2->(∃ys,H2 p=some (.lst ys))->∀a,A1 a->∃xs,H2 a=some (.lst xs):=λ{H2} k2 e2 a z=>by
  rcases z with z | z
  ·exact(rel1.kp k2).isl z
  ·rw[z];exact e2
 refine Qb1 items.length (λi H2=>i<=items.length/\∃acc,Iv i acc/\acc.length<=i/\Lp σ δ A1 p H1 H2 acc) ⟨Qv _,[],i0,Qk _,Kp.same rel1 (Jk hp),[],Jm,.nil⟩ (λi H2 hi ⟨_,acc,iv,hl,lp⟩=>?_) λH2 ⟨_,acc,iv,hl,lp⟩=>?_
 ·obtain⟨k2,ys,e2,q2⟩:=lp;obtain⟨go,_⟩:=it H2 A1 (λb o n e=>k2.1 b o n e) hN (dmK k2 ⟨ys,e2⟩);have hd:items[i]? = some items[i]:=Ql hi;obtain⟨g1,g2⟩:=go i _ hd;refine⟨g1,λx H3 y kk hk=>?_⟩;obtain⟨s3,dx⟩:=g2 x H3 y;have k23:=Kp.same (rel1.kp k2) s3;have lp3:Lp σ δ A1 p H1 H3 acc:=Lp.step hP hpn ⟨k2,ys,e2,q2⟩ k23;refine Qh9 hf rel1 (λa z=>.inl z) hN (dmK lp3.kp ⟨ys,s3 _ _ e2⟩) lp3.kp dx (step i acc _ hd iv) (λσ4 δ4 H5 h5 r5 k5 pots=>?_) λh5 H5 k5=>hk _ ⟨hi,acc,h5,by omega,lp3.step hP hpn k5⟩
  exact QrQ (.inr rfl) hP hp hpn (lp3.step hP hpn k5) (by omega) r5 pots h5 λe he H' lp'=>hk _ ⟨hi,acc++[e],he,by rw[Qd];show _+1<=_;omega,lp'⟩
 ·obtain⟨k2,ys,e2,q2⟩:=lp;obtain⟨_,st⟩:=it H2 A1 (λb o n e=>k2.1 b o n e) hN (dmK k2 ⟨ys,e2⟩);refine⟨st,k _ (fin acc iv) (.ref p) H2 (rel1.kp k2) (kp1.trans k2) ⟨.lst (λz=>?_) e2 (q2.mv (λ_ _ _ e=>e) λa z=>.inl (.inl z)),λl e1 _=>?_⟩⟩
  ·obtain⟨xs,e⟩:=rel1.isl z;rw[hp] at e;cases e
  ·cases e1;exact Qbl kp1 hp
theorem Qwy{items:List Qa}{wg:DG}{wt:DT}{we:DE}{δ:Sts}{Q:Qa->Prop}(G:Qa->Option Qa)
  (h:∀d∈items,∀(k1:Prop)(k2:Qa->Prop),(G d=none->k1)->(∀e,G d=some e->k2 e)->wg d δ λδ4=>wt δ4 (λb=>if b=true then we δ4 k2 XF else k1) XF)(q:Q (.list (items.filterMap G))) :
  QiW items wg wt we δ Q:=by
 unfold QiW;refine⟨λi acc=>acc=(items.take i).filterMap G,by simp,λi acc d hd e=>?_,λacc e=>by rw[e,J5];exact q⟩;have hs:(items.take (i+1)).filterMap G=(items.take i).filterMap G++(G d).toList:=by
  rw[JV,hd,QkR];cases e2:G d<;>simp[e2]
 have e:acc=(items.take i).filterMap G:=e;refine h d (QM hd) _ _ (λe2=>?_) λe' e2=>?_
 ·show acc=(items.take (i+1)).filterMap G;rw[hs,e2,e];simp
 ·show acc++[e']=(items.take (i+1)).filterMap G;rw[hs,e2,e];rfl
theorem YJ{items:List Qa}{wg:DG}{we:DE}{δ:Sts}{Q:Qa->Prop}(G:Qa->Qa)
  (h:∀d∈items,∀(k2:Qa->Prop),k2 (G d)->wg d δ λδ4=>we δ4 k2 XF)(q:Q (.list (items.map G))) :
  QiW items wg QrU we δ Q:=by
 unfold QiW;refine⟨λi acc=>acc=(items.take i).map G,by simp,λi acc d hd e=>?_,λacc e=>by rw[e,J5];exact q⟩;have hs:(items.take (i+1)).map G=(items.take i).map G++[G d]:=by
  rw[JV,hd,Q1];simp
 have e:acc=(items.take i).map G:=e;have hh:=h d (QM hd) (λe=>acc++[e]=(items.take (i+1)).map G) (by show acc++[G d]=_;rw[hs,e]);simp only[QrU,if_true];exact hh
end
theorem Qna:∀{a b:List (Int×Int)},dkV a=dkV b->a=b
 |[],[],_=>rfl
 |[],_::_,h=>by cases h
 |_::_,[],h=>by cases h
 |p::a,q::b,h=>by
  have h:=Qoa (show(QbU p.1,V.int p.2)::dkV a=(QbU q.1,V.int q.2)::dkV b from h);have h1:=Quq h.1;rw[Qna h.2,QwT (QjZ h1.1) (V.int.inj h1.2)]
mutual
theorem Qnh{A B:Addr->Prop}{H:Hp}:∀(d d':Qa)(x:V),DA A H x d->DA B H x d'->d=d'
 |.none,d',_,.non,h=>by cases h;rfl
 |.bool _,d',_,.bl _,h=>by cases h;rfl
 |.int _,d',_,.int _,h=>by cases h;rfl
 |.str _,d',_,.str _ _,h=>by cases h;rfl
 |.tuple ds,d',_,.tup (xs:=xs) n e q,h=>by
  cases h with
  |@tup a ys es n' e' q'=>
   rw[e] at e';cases e';rw[QgA ds es xs q q']
  |@lst a ys es n' e' q'=>rw[e] at e';cases e'
  |@dct a kvs' ds' n' e' q'=>rw[e] at e';cases e'
 |.list ds,d',_,.lst (xs:=xs) n e q,h=>by
  cases h with
  |@tup a ys es n' e' q'=>rw[e] at e';cases e'
  |@lst a ys es n' e' q'=>
   rw[e] at e';cases e';rw[QgA ds es xs q q']
  |@dct a kvs' ds' n' e' q'=>rw[e] at e';cases e'
 |.dict _,d',_,.dct (kvs:=kvs) n e q,h=>by
  cases h with
  |@tup a ys es n' e' q'=>rw[e] at e';cases e'
  |@lst a ys es n' e' q'=>rw[e] at e';cases e'
  |@dct a kvs' ds' n' e' q'=>
   rw[e] at e';rw[q,q',Qna (HO.dK.inj (Qy e'))]
theorem QgA{A B:Addr->Prop}{H:Hp}:∀(ds es:List Qa)(xs:List V),DAs A H xs ds->DAs B H xs es->ds=es
 |[],es,_,.nil,h=>by cases h;rfl
 |d::ds,es,_,.cons q qs,h=>by
  cases h with
  |@cons x xs e es q' qs'=>rw[Qnh d e _ q q',QgA ds es _ qs qs']
end
mutual
theorem Qwl{A:Addr->Prop}{H:Hp}{l:Addr}{rs:List Qa}(root:DA A H (.ref l) (.list rs)):∀(d:Qa)(x:V),sizeOf d<sizeOf (QwS rs)->DA A H x d->DA (λa=>A a∨a=l) H x d
 |.none,_,_,.non=>.non
 |.bool _,_,_,.bl _=>.bl _
 |.int _,_,_,.int _=>.int _
 |.str _,_,_,.str _ c=>.str _ c
 |.tuple ds,_,hs,.tup (a:=a) (xs:=xs) n e q=>.tup (λz=>z.elim n λz=>by subst z;cases root with | @lst _ ys _ n' e' q'=>(rw[e] at e';cases e')) e (QgB root ds xs (by simp at hs ⊢;omega) q)
 |.list ds,_,hs,.lst (a:=a) (xs:=xs) n e q=>.lst (λz=>z.elim n λz=>by
   subst z;have:=Qnh _ _ _ root (.lst n e q);rw[this] at hs;omega) e (QgB root ds xs (by simp at hs ⊢;omega) q)
 |.dict _,_,hs,.dct (a:=a) n e q=>.dct (λz=>z.elim n λz=>by subst z;cases root with | @lst _ ys _ n' e' q'=>(rw[e] at e';cases e')) e q
theorem QgB{A:Addr->Prop}{H:Hp}{l:Addr}{rs:List Qa}(root:DA A H (.ref l) (.list rs)):∀(ds:List Qa)(xs:List V),sizeOf ds<sizeOf (QwS rs)->DAs A H xs ds->DAs (λa=>A a∨a=l) H xs ds
 |[],_,_,.nil=>.nil
 |d::ds,_,hs,.cons q qs=>.cons (Qwl root d _ (by simp at hs ⊢;omega) q) (QgB root ds _ (by simp at hs ⊢;omega) qs)
end
theorem DA.items{A:Addr->Prop}{H:Hp}{l:Addr}{ds:List Qa}(root:DA A H (.ref l) (.list ds)):∃xs,H l=some (.lst xs)/\DAs (λa=>A a∨a=l) H xs ds:=by
 have root':=root;cases root with
 |@lst _ xs _ n e q=>exact⟨xs,e,QgB root' ds xs (by simp) q⟩
structure Qd1 where
 nx:Sts->Prop
 rt:Qa->Prop
 rtF:Qa->Prop
 bk:Sts->Prop
 ct:Sts->Prop
 ex:XP
abbrev DS:=Qd1->Sts->Prop
structure Nx (K:PySem.W.Frag) (F:Fm) (σ:L2.St) (H:Hp) (δ:Sts) (R:Sts->Prop) (T:L2.St->Hp->Prop):Prop where
 go:∀δ',R δ'->∀σ' H',Rel K F σ' H' δ'->Stp F σ H δ σ' H' δ'->T σ' H'
structure Ends1 (K:PySem.W.Frag) (E:XK) (F:Fm) (σ:L2.St) (H:Hp) (δ:Sts) (DD:Qd1) (D:Ends):Prop where
 nx:Nx K F σ H δ DD.nx D.nx
 rt:∀d,DD.rt d->∀v H',Ke F H'->DA F.A0 H' v d->D.rt v H'
 rtF:∀d,DD.rtF d->∀v H',Ke F H'->DA F.A0 H' v d->FrV F.H0 H' v->D.rt v H'
 bk:Nx K F σ H δ DD.bk D.bk
 ct:Nx K F σ H δ DD.ct D.ct
 ex:Out F E DD.ex
def tS(K:PySem.W.Frag)(E:XK)(w:DS):TS:=λD σ H=>∃(F:Fm)(δ:Sts)(DD:Qd1),Rel K F σ H δ/\w DD δ/\Ends1 K E F σ H δ DD D
theorem Nx.step{K:PySem.W.Frag}{F:Fm}{σ σ1:L2.St}{H H1:Hp}{δ δ1:Sts}{R:Sts->Prop}{T:L2.St->Hp->Prop}(h:Nx K F σ H δ R T)(s:Stp F σ H δ σ1 H1 δ1):Nx K F σ1 H1 δ1 R T:=⟨λδ' hR σ' H' r st=>h.go δ' hR σ' H' r (s.trans st)⟩
theorem Ends1.step{K:PySem.W.Frag}{E:XK}{F:Fm}{σ σ1:L2.St}{H H1:Hp}{δ δ1:Sts}{DD:Qd1}{D:Ends}(h:Ends1 K E F σ H δ DD D)(s:Stp F σ H δ σ1 H1 δ1):Ends1 K E F σ1 H1 δ1 DD D:=⟨h.nx.step s,h.rt,h.rtF,h.bk.step s,h.ct.step s,h.ex⟩
section
variable{X:Cx}{E:XK}
theorem PS.imp{e:Z4}{t t':TS}(h:PS X e t)(i:∀D σ H,t' D σ H->t D σ H):PS X e t':=λpins s σ H D I q=>h pins s σ H D I (i D σ H q)
theorem PSs.imp{e:List Z4}{t t':TS}(h:PSs X e t)(i:∀D σ H,t' D σ H->t D σ H):PSs X e t':=λpins s σ H D I q=>h pins s σ H D I (i D σ H q)
def Qy9(a b:DS):DS:=λD δ=>a { D with nx:=b D } δ
def QtS:DS:=λD δ=>D.nx δ
theorem QoP:PSs X [] (tS X.K E QtS):=PSs.imp Qcy λD σ H ⟨F,δ,DD,rel,hw,en⟩=>en.nx.go δ hw σ H rel Stp.refl
theorem QsQ{st:Z4}{w:DS}(h:PS X st (tS X.K E w)):PSs X [st] (tS X.K E w):=Qab h
theorem QoU{st:Z4}{rest:List Z4}{w w':DS}(h:PS X st (tS X.K E w))(h':PSs X rest (tS X.K E w')):PSs X (st::rest) (tS X.K E (Qy9 w w')):=by
 refine PSs.imp (ZC h h') λD σ H ⟨F,δ,DD,rel,hw,en⟩=>?_
 exact⟨F,δ,_,rel,hw,⟨λδ' h' σ' H' r st=>⟨F,δ',DD,r,h',en.step st⟩⟩,en.rt,en.rtF,en.bk,en.ct,en.ex⟩
def Qw6(i:Nat)(we:DE):DS:=λD δ=>we δ (λd=>D.nx (δ.set i (.v d))) D.ex
def QtT(i:Nat)(we:DE):DS:=λD δ=>we δ (λd=>match d with
 |.list ds=>D.nx (δ.set i (.own ds))
 |_=>False) D.ex
def Qwn(i:Nat)(we:DE):DS:=λD δ=>we δ (λd=>match d with
 |.list [.int _]=>D.nx (δ.set i .pot)
 |_=>False) D.ex
variable{i:Nat}{e:Q2}{st:Z4}{we wi:DE}
theorem Qim(h:PS X st (Qof (tX .D X.K E we) (QeR i))):PS X st (tS X.K E (Qw6 i we)):=by
 refine PS.imp h λD σ H ⟨F,δ,DD,rel,hw,en⟩=>?_
 refine⟨F,δ,_,DD.ex,rel,hw,λd hd v H' rel' kp vk=>?_,en.ex⟩;exact en.nx.go _ hd _ H' (rel'.setv vk) ((Stp.kp kp).trans Stp.setv)
theorem QrY{F:Fm}{σ:L2.St}{δ:Sts}{i:Nat}{l:Addr}{x:Sl}{a:Addr}(h:Av F (σ.set i (some (.ref l))) (δ.set i x) a):Av F σ δ a∨a=l:=by
 rcases h with h | ⟨j,h1,h2⟩
 ·exact .inl (.inl h)
 ·by_cases z:j=i
  ·subst z;cases set_eq h1;exact .inr rfl
  ·rw[Qaq z] at h1 h2;exact .inl (.inr ⟨j,h1,h2⟩)
theorem Rel.seto{K:PySem.W.Frag}{F:Fm}{σ:L2.St}{H H':Hp}{δ:Sts}{l:Addr}{x:Sl}(r:Rel K F σ H δ)(r':Rel K F σ H' δ)(kp:Kp σ δ H H')(n:H l=none)(hx:∀A:Addr->Prop,(∀a,A a->Av F σ δ a∨H a=none)->(∀a,A a->Av F σ δ a∨a=l)->Qzl K F H' A (some (.ref l)) x) :
  Rel K F (σ.set i (some (.ref l))) H' (δ.set i x)/\Stp F σ H δ (σ.set i (some (.ref l))) H' (δ.set i x):=by
 have nA:∀a,Av F (σ.set i (some (.ref l))) (δ.set i x) a->Av F σ δ a∨H a=none:=λa z=>(QrY z).elim .inl λz=>.inr (by rw[z];exact n)
 have kk:∀a o,¬Av F σ δ a->H a=some o->H' a=some o:=λa o m e=>kp.1 a o (λz=>m (Yy z)) e
 refine⟨?_,⟨kk,nA⟩⟩;exact{
  len:=by rw[ZG,ZG];exact r.len
  dom:=r'.dom
  dom0:=r'.dom0
  pt0:=r'.pt0
  kx:=r'.kx
  sl:=λj o y h1 h2=>by
   by_cases z:j=i
   ·subst z;cases set_eq h1;cases set_eq h2;exact hx _ nA λa z=>QrY z
   ·rw[Qaq z] at h1 h2;have h:=r.sl j o y h1 h2;have h':=r'.sl j o y h1 h2;cases y with
    |no=>trivial
    |v d=>obtain⟨v',e,q'⟩:=h;exact⟨v',e,q'.mv kk nA⟩
    |own ds=>obtain⟨l',xs,rfl,e2,q',f⟩:=h;exact⟨l',xs,rfl,kp.1 _ _ (r.own_pot h2 h1) e2,q'.mv kk nA,f⟩
    |pk ds=>
     obtain⟨l',xs,rfl,e2,q',ys,f,f2⟩:=h;refine⟨l',xs,rfl,kp.1 _ _ ?_ e2,q'.mv kk nA,ys,f,f2⟩;rintro⟨j,j1,j2⟩;obtain⟨p,m,e1,_,w⟩:=r.sl j _ _ j1 j2;cases e1;rcases w with w | w
     ·exact f2 w
     ·rw[w] at f;cases f
    |pot=>exact h'
    |scr=>exact h'
  inj:=λj k a ds h1 h2 ⟨h3,h4⟩=>by
   have ne:∀(k:Nat),k≠i->σ[k]? = some (some (.ref l))->(δ[k]? = some .pot∨∃ds,δ[k]? = some (.own ds))->False:=λk _ h3 h4=>by
    obtain⟨xs,e⟩:=r.isl (a:=l) (.inr ⟨k,h3,h4⟩);rw[n] at e;cases e
   by_cases z:j=i
   ·subst z;cases set_eq h2;by_cases z2:k=j
    ·exact z2.symm
    ·rw[Qaq z2] at h3 h4;exact(ne k z2 h3 h4).elim
   ·rw[Qaq z] at h1 h2;by_cases z2:k=i
    ·subst z2;cases set_eq h3;exact(ne j z h2 (.inr ⟨ds,h1⟩)).elim
    ·rw[Qaq z2] at h3 h4;exact r.inj j k a ds h1 h2 ⟨h3,h4⟩ }
theorem Qm0{K:PySem.W.Frag}{F:Fm}{σ:L2.St}{H:Hp}{δ:Sts}(r:Rel K F σ H δ){l:Addr}(n:H l=none):F.H0 l=none:=by
 cases e:F.H0 l with
 |none=>rfl
 |some o=>
  by_cases z:F.pt l
  ·obtain⟨_,m,e'⟩:=r.pt0 l z;rw[n] at e';cases e'
  ·rw[r.kx l o z e] at n;cases n
theorem Qjs(h:PS X st (Qof (tX .F X.K E we) (QeR i))):PS X st (tS X.K E (QtT i we)):=by
 refine PS.imp h λD σ H ⟨F,δ,DD,rel,hw,en⟩=>?_
 refine⟨F,δ,_,DD.ex,rel,hw,λd hd v H' rel' kp ⟨vk,fr⟩=>?_,en.ex⟩;obtain⟨ds,rfl⟩:∃ds,d=.list ds:=by cases d<;>first | exact⟨_,rfl⟩ | exact(show False from hd).elim
 obtain⟨l,rfl⟩:∃l,v=.ref l:=by cases vk;exact⟨_,rfl⟩
 obtain⟨xs,e,q⟩:=DA.items vk;have n:=fr l rfl ⟨xs,e⟩;obtain⟨r2,st⟩:=rel.seto (i:=i) (x:=.own ds) rel' kp n λA hA hB=>⟨l,xs,rfl,e,q.mv (λ_ _ _ e=>e) λa z=>.inl (hB a z),Qm0 rel n⟩
 exact en.nx.go _ hd _ H' r2 st
theorem QoQ(h:PS X st (Qof (tX .F X.K E we) (QeR i))):PS X st (tS X.K E (Qwn i we)):=by
 refine PS.imp h λD σ H ⟨F,δ,DD,rel,hw,en⟩=>?_
 refine⟨F,δ,_,DD.ex,rel,hw,λd hd v H' rel' kp ⟨vk,fr⟩=>?_,en.ex⟩;split at hd
 ·cases vk with
  |@lst l xs ds na e q=>
   have n:=fr l rfl ⟨xs,e⟩;cases q with
   |cons q1 q2=>
    cases q1;cases q2;obtain⟨r2,st⟩:=rel.seto (i:=i) (x:=.pot) rel' kp n λA hA hB=>⟨l,_,rfl,e,.inr (Qm0 rel n)⟩
    exact en.nx.go _ hd _ H' r2 st
 ·exact hd.elim
def Qzi(we:DE)(wg:DG):DS:=λD δ=>we δ (λd=>wg d δ D.nx) D.ex
theorem QsV{ix:List Nat}{wg:DG}(h:PS X st (Qof (tX .D X.K E we) (tG ix X.K wg))):PS X st (tS X.K E (Qzi we wg)):=by
 refine PS.imp h λD σ H ⟨F,δ,DD,rel,hw,en⟩=>?_
 refine⟨F,δ,_,DD.ex,rel,hw,λd hd v H' rel' kp vk=>?_,en.ex⟩;exact⟨F,δ,d,_,rel',vk,hd,λδ' h' σ' r' st' _ _=>en.nx.go _ h' _ H' r' ((Stp.kp kp).trans st')⟩
def QyA(we:DE):DS:=λD δ=>we δ D.rt D.ex
def Qwp(we:DE):DS:=λD δ=>we δ D.rtF D.ex
theorem QtQ{F:Fm}{σ:L2.St}{δ:Sts}{H:Hp}{v:V}{d:Qa}(h:DA (Av F σ δ) H v d):DA F.A0 H v d:=h.mv (λ_ _ _ e=>e) λa z=>.inl (.inl z)
theorem QsN{e:Q2}{pos:Pos}(h:PE X e (tX .D X.K E we)):PS X (.Return (some e) pos) (tS X.K E (QyA we)):=by
 refine PS.imp (Qba h) λD σ H ⟨F,δ,DD,rel,hw,en⟩=>?_
 exact⟨F,δ,_,DD.ex,rel,hw,λd hd v H' rel' kp vk=>en.rt d hd v H' rel'.ke (QtQ vk),en.ex⟩
theorem QoR{e:Q2}{pos:Pos}(h:PE X e (tX .F X.K E we)):PS X (.Return (some e) pos) (tS X.K E (Qwp we)):=by
 refine PS.imp (Qba h) λD σ H ⟨F,δ,DD,rel,hw,en⟩=>?_
 exact⟨F,δ,_,DD.ex,rel,hw,λd hd v H' rel' kp vk=>en.rtF d hd v H' rel'.ke (QtQ vk.1) λl e1 e2=>Qm0 rel (vk.2 l e1 e2),en.ex⟩
def Qz0(i:Nat):DS:=λD δ=>match δ[i]? with
 |some (.own ds)=>D.rtF (.list ds)
 |some (.v d)=>D.rt d
 |_=>False
def dIf(t:DT)(a b:DS):DS:=λD δ=>t δ (λc=>if c=true then a D δ else b D δ) D.ex
theorem Qvf{c:Q2}{a b:List Z4}{pos:Pos}{t:DT}{w w':DS}(hc:PT X c (tT X.K E t))(ha:PSs X a (tS X.K E w))(hb:PSs X b (tS X.K E w')):PS X (.If c a b pos) (tS X.K E (dIf t w w')):=by
 refine PS.imp (Qik hc ha hb) λD σ H ⟨F,δ,DD,rel,hw,en⟩=>?_
 exact⟨F,δ,_,DD.ex,rel,hw,λb hb H' rel' kp=>Qcs hb (λz=>⟨F,δ,DD,rel',z,en.step (Stp.kp kp)⟩) λz=>⟨F,δ,DD,rel',z,en.step (Stp.kp kp)⟩,en.ex⟩
theorem Rel.mut{K:PySem.W.Frag}{F:Fm}{σ:L2.St}{H:Hp}{δ:Sts}(r:Rel K F σ H δ){l:Addr}{ds ds':List Qa}{ys:List V}(h:δ[i]? = some (.own ds))(hx:σ[i]? = some (some (.ref l)))(q:DAs (Av F σ δ) H ys ds') :
  Rel K F σ (upd H l (.lst ys)) (δ.set i (.own ds'))/\Stp F σ H δ σ (upd H l (.lst ys)) (δ.set i (.own ds')):=by
 have hl:Av F σ δ l:=.inr ⟨i,hx,.inr ⟨ds,h⟩⟩;obtain⟨l',xs0,e0,el,_,f⟩:=r.sl i _ _ hx h;cases e0;have lt:i < δ.length:=(QU.mp h).1;have ge:(δ.set i (.own ds'))[i]? = some (.own ds'):=by rw[Qav lt]
 have kk:∀a o,¬Av F σ δ a->H a=some o->upd H l (.lst ys) a=some o:=λa o n e=>by rw[JX (λz=>n (by rw[z];exact hl))];exact e
 have av:∀a,Av F σ (δ.set i (.own ds')) a->Av F σ δ a:=λa z=>by
  rcases z with z | ⟨j,h1,h2⟩
  ·exact .inl z
  ·by_cases z:j=i
   ·subst z;exact .inr ⟨j,h1,.inr ⟨ds,h⟩⟩
   ·rw[Qaq z] at h2;exact .inr ⟨j,h1,h2⟩
 have up:∀{b:Addr}{o:HO},b≠l->H b=some o->upd H l (.lst ys) b=some o:=λn e=>by rw[JX n];exact e
 refine⟨?_,⟨kk,λa z=>.inl (av a z)⟩⟩;exact{
  len:=by rw[ZG];exact r.len
  dom:=λa ha=>by
   by_cases z:a=l
   ·rw[z];exact⟨_,Jm⟩
   ·obtain⟨xs,e⟩:=r.dom a ha;exact⟨xs,up z e⟩
  dom0:=r.dom0
  pt0:=λp hp=>by
   obtain⟨h1,n,e⟩:=r.pt0 p hp;refine⟨h1,n,up (λz=>?_) e⟩;obtain⟨xs,e'⟩:=r.dom0 p h1;rw[z,f] at e';cases e'
  kx:=λb o n e=>up (λz=>by rw[z,f] at e;cases e) (r.kx b o n e)
  sl:=λj o y h1 h2=>by
   by_cases z:j=i
   ·subst z;rw[ge] at h2;cases h2;rw[hx] at h1;cases h1;exact⟨l,ys,rfl,Jm,q.mv kk λa z=>.inl (av a z),f⟩
   ·rw[Qaq z] at h2;have hh:=r.sl j o y h1 h2;cases y with
    |no=>trivial
    |v d=>obtain⟨v',e,q'⟩:=hh;exact⟨v',e,q'.mv kk λa z=>.inl (av a z)⟩
    |own es=>
     obtain⟨l',xs,rfl,e2,q',f'⟩:=hh;exact⟨l',xs,rfl,up (λz2=>z (r.inj j i l' es h2 h1 ⟨by rw[z2];exact hx,.inr ⟨ds,h⟩⟩)) e2,q'.mv kk λa z=>.inl (av a z),f'⟩
    |pk es=>
     obtain⟨l',xs,rfl,e2,q',ys',f',f2⟩:=hh;exact⟨l',xs,rfl,up (λz2=>by rw[z2,f] at f';cases f') e2,q'.mv kk λa z=>.inl (av a z),ys',f',f2⟩
    |pot=>
     obtain⟨p,n,rfl,e2,w⟩:=hh;refine⟨p,n,rfl,up (λz2=>?_) e2,w⟩;subst z2;exact r.own_pot h hx ⟨j,h1,h2⟩
    |scr=>exact hh
  inj:=λj k a es h1 h2 ⟨h3,h4⟩=>by
   have h4':δ[k]? = some .pot∨∃ds,δ[k]? = some (.own ds):=by
    by_cases z:k=i
    ·subst z;exact .inr ⟨ds,h⟩
    ·rw[Qaq z] at h4;exact h4
   by_cases z:j=i
   ·subst z;exact r.inj j k a ds h h2 ⟨h3,h4'⟩
   ·rw[Qaq z] at h1;exact r.inj j k a es h1 h2 ⟨h3,h4'⟩ }
def QyC(i:Nat)(we:DE):DS:=λD δ=>match δ[i]? with
 |some (.own ds)=>we δ (λd=>ds.length<1000000/\D.nx (δ.set i (.own (ds++[d])))) D.ex
 |_=>False
theorem QsW(h:PS X st (Qlb (tBM X.K "list" QlF (QhW i) (Qew (tX .D X.K E we) Qrb)))):PS X st (tS X.K E (QyC i we)):=by
 refine PS.imp h λD σ H ⟨F,δ,DD,rel,hw,en⟩=>?_
 unfold QyC at hw;split at hw
 ·rename_i ds hd
  obtain⟨x,hx⟩:=rel.lt hd;obtain⟨l,xs,rfl,e,q,f⟩:=rel.sl i _ _ hx hd;have np:=rel.own_pot hd hx;refine⟨.ref l,hx,.inl ⟨rfl,_,SqL.of e⟩,F,δ,_,DD.ex,rel,hw,λd ⟨hl,hn⟩ v H' rel' kp vk=>?_,en.ex⟩;have q':=kp.das q;refine⟨l,xs,v,rfl,rfl,kp.1 _ _ np e,QL (by rw[q.length];exact hl) Qgq,?_⟩;obtain⟨r2,st⟩:=rel'.mut hd hx (q'.app (.cons vk .nil));exact en.nx.go _ hn _ _ r2 ((Stp.kp kp).trans st)
 ·exact hw.elim
def QyB(i:Nat)(we:DE):DS:=λD δ=>match δ[i]? with
 |some (.own ds)=>we δ (λd=>match d with
  |.list es=>ds.length+es.length<=1000000/\D.nx (δ.set i (.own (ds++es)))
  |_=>False) D.ex
 |_=>False
theorem QsU(h:PS X st (Qlb (tBM X.K "list" QlE (QhW i) (Qew (tX .P X.K E we) Qrb)))):PS X st (tS X.K E (QyB i we)):=by
 refine PS.imp h λD σ H ⟨F,δ,DD,rel,hw,en⟩=>?_
 unfold QyB at hw;split at hw
 ·rename_i ds hd
  obtain⟨x,hx⟩:=rel.lt hd;obtain⟨l,xs,rfl,e,q,f⟩:=rel.sl i _ _ hx hd;have np:=rel.own_pot hd hx;refine⟨.ref l,hx,.inl ⟨rfl,_,SqL.of e⟩,F,δ,_,DD.ex,rel,hw,λd hd2 v H' rel' kp vk=>?_,en.ex⟩;cases d<;>first | exact(show False from hd2).elim | skip
  obtain⟨hl,hn⟩:=hd2;obtain⟨l2,ys,rfl,e2,q2⟩:=DP.list vk;have q':=kp.das q;refine⟨l,l2,xs,ys,rfl,rfl,kp.1 _ _ np e,e2,Jc (by rw[q.length,q2.length];exact hl) Qgq,?_⟩;obtain⟨r2,st⟩:=rel'.mut hd hx (q'.app q2);exact en.nx.go _ hn _ _ r2 ((Stp.kp kp).trans st)
 ·exact hw.elim
def Qzb(i:Nat)(wi we:DE):DS:=λD δ=>we δ (λd=>match δ[i]? with
 |some (.own ds)=>wi δ (λz=>match z with
  |.int k=>∃j,ixN ds.length k=some j/\D.nx (δ.set i (.own (ds.set j d)))
  |_=>False) D.ex
 |_=>False) D.ex
theorem QsO(h:PS X st (Qof (tX .D X.K E we) (gSub (QhW i) (tX .P X.K E wi) QuX))):PS X st (tS X.K E (Qzb i wi we)):=by
 refine PS.imp h λD σ H ⟨F,δ,DD,rel,hw,en⟩=>?_
 refine⟨F,δ,_,DD.ex,rel,hw,λd hd v H1 rel1 kp1 vk=>?_,en.ex⟩;split at hd
 ·rename_i ds hds
  obtain⟨x,hx⟩:=rel1.lt hds;obtain⟨l,xs,rfl,e,q,f⟩:=rel1.sl i _ _ hx hds;have np:=rel1.own_pot hds hx;refine⟨.ref l,hx,F,δ,_,DD.ex,rel1,hd,λz hz y H2 rel2 kp2 yk=>?_,en.ex⟩;cases z<;>first | exact(show False from hz).elim | skip
  obtain⟨j,hj,hn⟩:=hz;refine⟨l,xs,_,j,rfl,DP.int yk,kp2.1 _ _ np e,by rw[q.length];exact hj,?_⟩;obtain⟨r2,st⟩:=rel2.mut hds hx ((kp2.das q).set (kp2.da vk) j);exact en.nx.go _ hn _ _ r2 (((Stp.kp kp1).trans (Stp.kp kp2)).trans st)
 ·exact hd.elim
@[irreducible] def Quj(items:List Qa)(wg:DG)(wb:DS)(D:Qd1)(δ:Sts):Prop:=∃Iv:Nat->Sts->Prop,Iv 0 δ/\(∀(i:Nat) d δ,items[i]? = some d->Iv i δ->wg d δ λδ2=>wb { D with nx:=Iv (i+1),ct:=Iv (i+1),bk:=D.nx } δ2)/\∀δ,Iv items.length δ->D.nx δ
def dFor(wi:DI)(wg:DG)(wb:DS):DS:=λD δ=>wi δ (λitems=>Quj items wg wb D δ) D.ex
theorem QsT{tg iter:Q2}{body:List Z4}{pos:Pos}{ix:List Nat}{wi:DI}{wg:DG}{wb:DS}(hp:PassesOwn (model X.prog X.w) X.A X.env X.xe)(hc:X.calm=true)(hi:PI X tg iter (tI .D X.K E wi))(hg:PG X tg (tG ix X.K wg))(hb:PSs X body (tS X.K E wb))
  (hs:∀x,foldedSetIterable iter X.env x=pure x:=by intro _;rfl):PS X (.For tg iter body [] pos) (tS X.K E (dFor wi wg wb)):=by
 refine PS.imp (Qrs hp hc hi hg hb hs) λD σ H ⟨F,δ,DD,rel,hw,en⟩=>?_
 refine⟨F,δ,_,DD.ex,rel,hw,λitems hC J H1 rel1 kp1 ⟨ln,it⟩=>?_,en.ex⟩;unfold Quj at hC;obtain⟨Iv,i0,step,fin⟩:=hC;have en1:=en.step (Stp.kp (F:=F) kp1);refine⟨λi m σ' H'=>m=items.length - i/\i<=items.length/\∃δ',Iv i δ'/\Rel X.K F σ' H' δ'/\Stp F σ H1 δ σ' H' δ',⟨_,rfl,Qv _,δ,i0,rel1,Stp.refl⟩,?_⟩;rintro i m σ' H' ⟨rfl,hi',δ',iv,r',st'⟩;obtain⟨go,stop⟩:=it H' (Av F σ' δ') st'.1 st'.2 λa ha=>r'.isl ha
 by_cases hlt:i<items.length
 ·have hd:items[i]? = some items[i]:=Ql hlt;obtain⟨g1,g2⟩:=go i _ hd;refine .inr ⟨g1,λσ2 H2=>∃δ2,Iv (i+1) δ2/\Rel X.K F σ2 H2 δ2/\Stp F σ H1 δ σ2 H2 δ2,λσ2 H2 ⟨δ2,h2,r2,s2⟩=>⟨_,by omega,rfl,hlt,δ2,h2,r2,s2⟩,λx H3 y=>?_⟩;obtain⟨s3,dx⟩:=g2 x H3 y;have r3:=r'.same s3;have st3:Stp F σ H1 δ σ' H3 δ':=st'.trans (Stp.kp (Kp.same r' s3));refine⟨F,δ',_,_,r3,dx,step i _ δ' hd iv,λδ4 h4 σ4 r4 st4 _ _=>⟨F,δ4,_,r4,h4,?_⟩⟩;have st5:=st3.trans st4;exact⟨⟨λδ6 h6 σ6 H6 r6 s6=>⟨δ6,h6,r6,st5.trans s6⟩⟩,en.rt,en.rtF,(en1.step st5).nx,⟨λδ6 h6 σ6 H6 r6 s6=>⟨δ6,h6,r6,st5.trans s6⟩⟩,en.ex⟩
 ·have e:i=items.length:=by omega
  subst e;exact .inl ⟨stop,(en1.step st').nx.go δ' (fin δ' iv) σ' H' r' Stp.refl⟩
theorem Qgy{lo:Int}{n:Nat}{wg:DG}{wb:DS}{D:Qd1}{δ:Sts}(Iv:Nat->Sts->Prop)(h0:Iv 0 δ)
  (hs:∀(i:Nat) δ,i<n->Iv i δ->wg (.int (lo+i)) δ λδ2=>wb { D with nx:=Iv (i+1),ct:=Iv (i+1),bk:=D.nx } δ2)(hd:∀δ,Iv n δ->D.nx δ):Quj (Qed lo n) wg wb D δ:=by
 unfold Quj;exact⟨Iv,h0,λi d δ hd iv=>by obtain⟨hi,rfl⟩:=QbF hd;exact hs i δ hi iv,λδ iv=>hd δ (by rw[Qii] at iv;exact iv)⟩
theorem Qbx{items:List Qa}{wg:DG}{wb:DS}{D:Qd1}{δ:Sts}(Iv:Nat->Sts->Prop)(h0:Iv 0 δ)
  (hs:∀(i:Nat) d δ,items[i]? = some d->Iv i δ->wg d δ λδ2=>wb { D with nx:=Iv (i+1),ct:=Iv (i+1),bk:=D.nx } δ2)(hd:∀δ,Iv items.length δ->D.nx δ):Quj items wg wb D δ:=by
 unfold Quj;exact⟨Iv,h0,hs,hd⟩
def QrT(C:Addr)(we:DE):DS:=λD δ=>we δ (λ_=>D.ex C) D.ex
theorem Ql1{C:Addr}(h:PS X st (Rx.Qra E C (tX .P X.K E we))):PS X st (tS X.K E (QrT C we)):=by
 refine PS.imp h λD σ H ⟨F,δ,DD,rel,hw,en⟩=>?_
 exact⟨F,δ,_,DD.ex,rel,hw,λd hd v H' rel' kp vk=>en.ex C hd H' rel'.ke,en.ex⟩
def Qwt(we:DE):DS:=λD δ=>we δ (λ_=>D.nx δ) D.ex
theorem QoT(h:PS X st (Qlb (tX .P X.K E we))):PS X st (tS X.K E (Qwt we)):=by
 refine PS.imp h λD σ H ⟨F,δ,DD,rel,hw,en⟩=>?_
 exact⟨F,δ,_,DD.ex,rel,hw,λd hd v H' rel' kp vk=>en.nx.go δ hd σ H' rel' (Stp.kp kp),en.ex⟩
theorem QsR{w:DS}(h:PS X.nox st (tS X.K E0 w)):PS X st (tS X.K E λD δ=>w { D with ex:=XF } δ):=by
 refine PS.imp (Qva h) λD σ H ⟨F,δ,DD,rel,hw,en⟩=>?_
 exact⟨F,δ,_,rel,hw,en.nx,en.rt,en.rtF,en.bk,en.ct,Qhl⟩
end
def stD(N:List Str)(args:List Sl):Sts:=args++JI (N.length - args.length) .no
theorem Qfx{α β:Type}{R:α->β->Prop}:∀{xs:List α}{ys:List β},YK R xs ys->∀(i:Nat) x y,xs[i]? = some x->ys[i]? = some y->R x y
 |_,_,.nil,i,x,y,h,_=>by simp at h
 |_,_,.cons a b,0,x,y,h,h'=>by simp at h h';subst h h';exact a
 |_,_,.cons a b,i+1,x,y,h,h'=>Qfx b i x y (by simpa using h) (by simpa using h')
theorem Qg9{K:PySem.W.Frag}{N:List Str}{A pt:Addr->Prop}{H:Hp}{vs:List V}{args:List Sl}(dm:∀a,A a->∃xs,H a=some (.lst xs))(hp:∀p,pt p->A p/\∃n,H p=some (.lst [.int n]))(q:YK (QiX A pt H) vs args):Rel K ⟨H,A,pt⟩ (L2.start N vs) H (stD N args):=by
 have hl:vs.length=args.length:=q.length;have no:∀(i:Nat) x,(stD N args)[i]? = some x->(i<args.length/\args[i]? = some x)∨x=.no:=λi x h=>by
  unfold stD at h;by_cases z:i<args.length
  ·rw[Zz z] at h;exact .inl ⟨z,h⟩
  ·rw[JR (by omega),Qcb] at h;split at h
   ·exact .inr (Qy h).symm
   ·cases h
 have arg:∀(i:Nat) o x,(L2.start N vs)[i]? = some o->(stD N args)[i]? = some x->x≠.no->∃v,o=some v/\QiX A pt H v x:=λi o x h1 h2 hx=>by
  rcases no i x h2 with⟨z,e⟩ | e
  ·unfold L2.start at h1;rw[Zz (by rw[Qe];omega),Q5] at h1;obtain⟨v,hv,rfl⟩:=JU.mp h1;exact⟨v,rfl,Qfx q i v x hv e⟩
  ·exact absurd e hx
 have av:∀a,Av ⟨H,A,pt⟩ (L2.start N vs) (stD N args) a->A a:=λa z=>by
  rcases z with z | ⟨i,h1,h2⟩
  ·exact z
  ·rcases h2 with h2 | ⟨ds,h2⟩
   ·obtain⟨v,e,p,rfl,hp'⟩:=arg i _ _ h1 h2 (λz=>by cases z);cases e;exact(hp _ hp').1
   ·obtain⟨v,e,hh⟩:=arg i _ _ h1 h2 (λz=>by cases z);exact hh.elim
 exact{
  len:=by unfold L2.start stD;rw[Qd,Qd,Qe,QcK,QcK,hl]
  dom:=dm
  dom0:=dm
  pt0:=hp
  kx:=λ_ _ _ e=>e
  sl:=λi o x h1 h2=>by
   cases x with
   |no=>trivial
   |v d=>
    obtain⟨v,e,hh⟩:=arg i _ _ h1 h2 (λz=>by cases z);exact⟨v,e,DA.mv hh (λ_ _ _ e=>e) λa z=>.inl (av a z)⟩
   |pot=>
    obtain⟨v,e,p,rfl,hp'⟩:=arg i _ _ h1 h2 (λz=>by cases z);obtain⟨_,n,en⟩:=hp p hp';exact⟨p,n,e,en,.inl hp'⟩
   |own ds=>obtain⟨v,e,hh⟩:=arg i _ _ h1 h2 (λz=>by cases z);exact hh.elim
   |pk ds=>obtain⟨v,e,hh⟩:=arg i _ _ h1 h2 (λz=>by cases z);exact hh.elim
   |scr=>obtain⟨v,e,hh⟩:=arg i _ _ h1 h2 (λz=>by cases z);exact hh.elim
  inj:=λi j a ds h1 h2 _=>by
   obtain⟨v,e,hh⟩:=arg i _ _ h2 h1 (λz=>by cases z);exact hh.elim }
def QzI:Qa->Bool
 |.list _=>false
 |_=>true
def rtD:Bool->(Qa->Prop)->Qa->Prop
 |true,R,d=>QzI d=true/\R d
 |false,R,d=>R d
def Qm6(fr:Bool)(R:Qa->Prop)(EX:XP):Qd1:=⟨λ_=>R .none,rtD fr R,R,λ_=>False,λ_=>False,EX⟩
theorem Qm5{K:PySem.W.Frag}{E Ex:XK}{fr:Bool}{A pt:Addr->Prop}{H:Hp}{R:Qa->Prop}{EX EX':XP}{Q:VK}{σ:L2.St}{δ:Sts}(k:∀d,R d->∀v H',Kq pt H H'->DA A H' v d->(fr=true->FrV H H' v)->Q v H')(o:Out ⟨H,A,pt⟩ E EX') :
  Ends1 K E ⟨H,A,pt⟩ σ H δ (Qm6 fr R EX') { nx:=λ_ H'=>Q .non H',rt:=Q } where
 nx:=⟨λδ' hR σ' H' r st=>k _ hR _ H' r.ke .non λ_=>QtL⟩
 rt:=λd h v H' ke dv=>by
  cases fr with
  |false=>exact k d h v H' ke dv λz=>by cases z
  |true=>
   obtain⟨h1,h2⟩:=h;refine k d h2 v H' ke dv λz l e1 ⟨xs,e2⟩=>?_
   subst e1;cases dv with
   |@tup a ys ds n e q=>rw[e] at e2;cases e2
   |@lst a ys ds n e q=>cases h1
   |@dct a kvs ds n e q=>rw[e] at e2;cases e2
 rtF:=λd h v H' ke dv fr'=>k d h v H' ke dv λ_=>fr'
 bk:=⟨λ_ h=>h.elim⟩
 ct:=⟨λ_ h=>h.elim⟩
 ex:=o
section
variable{P:QB}{w:Jl}{K:PySem.W.Frag}{mg:Str->Option Value}{base:Za}
theorem okD{x qual:Str}{st:Z4}{f:Addr}{fd:QQ}{N ps:List Str}{k:Nat}{fD:DF}(fr:Bool)(F:Fun K x qual st f fd)(S:Jy N ps (Qt st))(len:∀args R EX,fD args R EX->args.length=ps.length)
  (hbody:∀(cdv:Value)(A:Q9)(outer:List Env)(s:Shared)(H:Hp)(E:XK),Room k (A.deeper (envOfC qual (Qt st) s.heap.objs.size f cdv)) ->
   ∃wd,PSs (cxOf CX0 P w K mg base N qual (Qt st) f cdv A outer s H E).nox (Js st) (tS K E0 wd)/\∀args R EX,fD args R EX->wd (Qm6 fr R XF) (stD N args)):FnOk P w K mg base CX0 (k+1) f fd ps (Ze fr fD):=by
 refine F.ok S (λvs H Q E h=>?_) λcdv A outer s H vs Q E hr h=>?_
 ·obtain⟨A,pt,args,R,EX,_,_,q,h,_⟩:=h;rw[q.length];exact len _ _ _ h
 ·obtain⟨wd,hp,hw⟩:=hbody cdv A outer s H E hr;obtain⟨A',pt,args,R,EX,dm,hpt,q,h,k,_⟩:=h;exact⟨_,hp,⟨H,A',pt⟩,_,_,Qg9 dm hpt q,hw args R EX h,Qm5 (Ex:=E) (EX:=EX) k Qhl⟩
theorem QzH{x qual:Str}{st:Z4}{f:Addr}{fd:QQ}{N ps:List Str}{k:Nat}{fD:DF}(fr:Bool)(F:Fun K x qual st f fd)(S:Jy N ps (Qt st))(len:∀args R EX,fD args R EX->args.length=ps.length)
  (hbody:∀(cdv:Value)(A:Q9)(outer:List Env)(s:Shared)(H:Hp)(E:XK),Room k (A.deeper (envOfC qual (Qt st) s.heap.objs.size f cdv)) ->
   ∃wd,PSs (cxOf (Rx.CXE P w) P w K mg base N qual (Qt st) f cdv A outer s H E) (Js st) (tS K E wd)/\∀args R EX,fD args R EX->wd (Qm6 fr R EX) (stD N args)):FnOk P w K mg base (Rx.CXE P w) (k+1) f fd ps (Ze fr fD):=by
 refine Rx.okE F S (λvs H Q E h=>?_) λcdv A outer s H vs Q E hr h=>?_
 ·obtain⟨A,pt,args,R,EX,_,_,q,h,_⟩:=h;rw[q.length];exact len _ _ _ h
 ·obtain⟨wd,hp,hw⟩:=hbody cdv A outer s H E hr;obtain⟨A',pt,args,R,EX,dm,hpt,q,h,k,kx⟩:=h;exact⟨_,hp,⟨H,A',pt⟩,_,_,Qg9 dm hpt q,hw args R EX h,Qm5 (Ex:=E) (EX:=EX) k λC hC H' ke=>kx C hC H' ke⟩
end
end Dl
namespace L2
def QyH(i j:Int):Prop:=0<j/\j<=10^40
theorem Qo9{X:Cx}:OpR X (binaryOp .FloorDiv) (rI QyH λi j=>.int (i / j)):=opI λi j _ _ _ _ _ hc q=>by
 have h1:(0:Int)<j:=hc.1;have h2:j<=10^40:=hc.2;refine floordiv_int (by omega) (by rw[Int.fdiv_eq_ediv_of_nonneg i (by omega)];exact q) (.inl (PyProof.noPylong_of_log2 ?_));have h3:j.natAbs<2^200:=by
  have:(10:Int)^40<2^200:=by decide
  omega
 have:=(Nat.log2_lt (by omega:j.natAbs≠0)).mpr h3;omega
end L2
namespace Rk
open L2 _root_.Rd
def Qja:Sp:=λvs H Q _=>∃p n f,vs=[.ref p,.int f]/\H p=some (.lst [.int n])/\0<f/\f<=10^40/\∀r m,0<=r->r<f->Q (.int r) (upd H p (.lst [.int m]))
end Rk
namespace Dl
open L2 _root_.Rd Rk
theorem Zl{X:Cx}{E:XK}:Qc8 CX0 X E:=λ_ _ _ _ _ _ _ h=>h.elim
theorem Room.u60{k:Nat}{A:Q9}(r:Room k A):A.units+60<cLine:=by have:=r.un;omega
theorem Room.i60{k:Nat}{A:Q9}(r:Room k A):A.in1.units+60<cLine:=by
 have:=r.un;show A.units+1+60<cLine;omega
section
variable{X:Cx}{E:XK}{CX:CXT}{k:Nat}{f:Addr}{fd:QQ}{ps:List Str}{x:Str}{p pos:Pos}{e:Q2}{es:List Q2}{fD:DF}
def Qg4:DF:=λargs R _=>∃f,args=[.pot,.v (.int f)]/\0<f/\f<=10^40/\∀r,0<=r->r<f->R (.int r)
theorem QuE{vs:List V}{H:Hp}{Q:VK}{Ex:XK}(h:Ze true Qg4 vs H Q Ex):Qja vs H Q Ex:=by
 obtain⟨A,pt,args,R,EX,dm,hp,q,⟨f,rfl,f0,f1,hR⟩,k,_⟩:=h;cases q with
 |cons q1 q2=>cases q2 with
  |cons q2 q3=>
   cases q3;obtain⟨p,rfl,pp⟩:=q1;cases q2;obtain⟨_,n,e⟩:=hp p pp;refine⟨p,n,f,rfl,e,f0,f1,λr m r0 r1=>k _ (hR r r0 r1) _ _ ⟨λb o nb eb=>?_,λz hz=>?_⟩ (.int _) λ_=>Qad⟩
   ·rw[JX (λz=>nb (by rw[z];exact pp))];exact eb
   ·by_cases y:z=p
    ·rw[y];exact⟨m,Jm⟩
    ·obtain⟨_,n',e'⟩:=hp z hz;exact⟨n',by rw[JX y];exact e'⟩
def Qx3:DF:=λargs R _=>∃c,args=[.v (.int c)]/\∀n,R (.list [.int n])
theorem Qx2{vs:List V}{H:Hp}{Q:VK}{Ex:XK}(h:Ze true Qx3 vs H Q Ex):QuK vs H Q Ex:=by
 obtain⟨A,pt,args,R,EX,dm,hp,q,⟨c,rfl,hR⟩,k,_⟩:=h;cases q with
 |cons q1 q2=>
  cases q2;cases q1;refine⟨c,rfl,λp n hn=>k _ (hR n) _ _ ⟨λb o _ eb=>Jk hn b o eb,λz hz=>?_⟩ (.lst (λz=>?_) Jm (.cons (.int _) .nil)) λ_=>QaS hn⟩
  ·obtain⟨_,n',e'⟩:=hp z hz;exact⟨n',Jk hn _ _ e'⟩
  ·obtain⟨xs,e⟩:=dm p z;rw[hn] at e;cases e
def isW:Qa->Bool
 |.int _=>true
 |_=>false
def Qev:DF:=λargs R _=>∃d,args=[.v d]/\R (.bool (isW d))
def Qso(n:Nat):DF:=λargs R _=>∃d,args=[.v d,.v d]/\nd d=true/\Qb3 n d=true/\R (.bool true)
theorem QuQ{n:Nat}{vs:List V}{H:Hp}{Q:VK}{Ex:XK}(h:Ze false (Qso n) vs H Q Ex):Qid (n+1) vs H Q Ex:=by
 obtain⟨A,pt,args,R,EX,dm,hp,q,⟨d,rfl,hn,hf,hR⟩,k,_⟩:=h;cases q with
 |cons q1 q2=>cases q2 with
  |cons q2 q3=>
   cases q3;exact⟨_,_,d,rfl,QhC d _ hn q1,QhC d _ hn q2,hf,λH' s=>k _ hR _ H' ⟨λb o _ e=>s b o e,λp hp'=>let ⟨_,n,e⟩:=hp p hp';⟨n,s _ _ e⟩⟩ (.bl _) λz=>by cases z⟩
theorem Qln{K:PySem.W.Frag}{F:Fm}{σ:L2.St}{H:Hp}{δ:Sts}(r:Rel K F σ H δ){a:Addr}{xs:List V}(h:SqL K F.H0 a xs)(n:¬F.pt a):SqL K H a xs:=by
 rcases h with h | h
 ·rcases h with h | ⟨o,h⟩
  ·exact .inl (.inl (r.kx _ _ n h))
  ·exact .inl (.inr ⟨o,r.kx _ _ n h⟩)
 ·exact .inr h
def QtU(i:Nat):DE:=λδ Q _=>match δ[i]? with
 |some .scr=>∀n:Nat,n<=63->Q (.int n)
 |_=>False
theorem Qs0{i:Nat}{a:Q2}(hg:Gl X "len")(hm:X.mg "len" = none)(h:PE X a (QhW i))(hs:notStar a=true:=by rfl):PE X (.Call (.Name "len" p) [a] [] pos) (tX .F X.K E (QtU i)):=by
 refine PE.imp (Zu Qat hg hm Qaj (Qdt h J4 hs) (he:=by rw[Yj hs])) λσ H Q ⟨F,δ,R,EX,rel,hw,k,o⟩=>?_
 unfold QtU at hw;split at hw
 ·rename_i hd
  obtain⟨x,hx⟩:=rel.lt hd;obtain⟨l,ns,rfl,sq,np,n63⟩:=rel.sl i _ _ hx hd;refine⟨_,hx,l,_,rfl,.inl (Qln rel sq np),?_⟩;rw[Qe];exact k _ (hw _ n63) _ H rel (Kp.refl rel) ⟨.int _,Qad⟩
 ·exact hw.elim
def QtW(i:Nat)(wb:DE):DE:=λδ Q EX=>match δ[i]? with
 |some .scr=>wb δ (λd=>match d with
  |.int k=>0<=k/\∀c,Q (.int c)
  |_=>False) EX
 |_=>False
theorem Qs3{i:Nat}{a b:Q2}{wb:DE}(G:FnOk X.prog X.w X.K X.mg X.base CX0 k f fd ps (QcU X.K))(hr:Room k X.A)(hg:Gl X x)(hm:X.mg x=some (.ref f))(hk:PySem.W.keepIn X.K (.ref f)=true)(hb:Binds X.K fd ps [])
  (ha:PE X a (QhW i))(h:PE X b (tX .P X.K E wb))(h1:notStar a=true:=by rfl)(h2:notStar b=true:=by rfl)(hdb:(x == ("__debug__" : Str))=false:=by decide) :
  PE X (.Call (.Name x p) [a,b] [] pos) (tX .F X.K E (QtW i wb)):=by
 refine PE.imp (QeG (E:=E) G hr hg hm hk hb .nil Zl (Qdt ha (Qdt h J4 h2) h1) hdb (Yj h1) (by rw[Yj h2];rfl)) λσ H Q ⟨F,δ,R,EX,rel,hw,k,o⟩=>?_
 unfold QtW at hw;split at hw
 ·rename_i hd
  obtain⟨x,hx⟩:=rel.lt hd;obtain⟨l,ns,rfl,sq,np,n63⟩:=rel.sl i _ _ hx hd;refine⟨_,hx,F,δ,_,EX,rel,hw,λd hd2 v H' rel' kp vk=>?_,o⟩;cases d<;>first | exact(show False from hd2).elim | skip
  rw[DP.int vk];exact⟨l,ns,_,rfl,Qln rel' sq np,YH n63 (by decide),hd2.1,λc=>k _ (hd2.2 c) _ H' rel' kp ⟨.int _,Qad⟩⟩
 ·exact hw.elim
end
section
variable{P:QB}{w:Jl}{K:PySem.W.Frag}{mg:Str->Option Value}{base:Za}
def Qfp(K:PySem.W.Frag):Sp:=λvs H Q _=>∃(a:Addr)(ns:List Int),vs=[.ref a]/\SqL K H a (ns.map V.int)/\ns.length<=63/\∀H',Q (.bl true) H'
def Qwe:Qd1:=⟨λ_=>False,λd=>d=.bool true,λd=>d=.bool true,λ_=>False,λ_=>False,XF⟩
theorem Qyf{x qual:Str}{st:Z4}{f:Addr}{fd:QQ}{N:List Str}{p:Str}{k:Nat}(F:Fun K x qual st f fd)(S:Jy N [p] (Qt st))
  (hbody:∀(cdv:Value)(A:Q9)(outer:List Env)(s:Shared)(H:Hp)(E:XK),Room k (A.deeper (envOfC qual (Qt st) s.heap.objs.size f cdv)) ->
   ∃wd,PSs (cxOf CX0 P w K mg base N qual (Qt st) f cdv A outer s H E).nox (Js st) (tS K E0 wd)/\wd Qwe (stD N [.scr])):FnOk P w K mg base CX0 (k+1) f fd [p] (Qfp K):=by
 refine F.ok S (λvs H Q E h=>?_) λcdv A outer s H vs Q E hr h=>?_
 ·obtain⟨a,ns,rfl,_⟩:=h;rfl
 ·obtain⟨wd,hp,hw⟩:=hbody cdv A outer s H E hr;obtain⟨a,ns,rfl,sq,n63,k⟩:=h;have get0:∀(i:Nat) o y,(L2.start N [V.ref a])[i]? = some o->(stD N [.scr])[i]? = some y->y≠.no->o=some (.ref a)/\y=.scr:=λi o y h1 h2 hy=>by
   cases i with
   |zero=>cases h1;cases h2;exact⟨rfl,rfl⟩
   |succ i=>
    unfold stD at h2;rw[JR (by simp),Qcb] at h2;split at h2
    ·exact absurd (Qy h2).symm hy
    ·cases h2
  have noav:∀b,¬Av (⟨H,λ_=>False,λ_=>False⟩:Fm) (L2.start N [V.ref a]) (stD N [.scr]) b:=λb z=>by
   rcases z with z | ⟨i,h1,h2⟩
   ·exact z
   ·rcases h2 with h2 | ⟨ds,h2⟩
    ·cases(get0 i _ _ h1 h2 (λz=>by cases z)).2
    ·cases(get0 i _ _ h1 h2 (λz=>by cases z)).2
  refine⟨_,hp,⟨H,λ_=>False,λ_=>False⟩,_,_,?_,hw,?_⟩
  ·exact{
    len:=by unfold L2.start stD;simp
    dom:=λ_ h=>h.elim
    dom0:=λ_ h=>h.elim
    pt0:=λ_ h=>h.elim
    kx:=λ_ _ _ e=>e
    sl:=λi o y h1 h2=>by
     cases y with
     |no=>trivial
     |scr=>
      obtain⟨rfl,_⟩:=get0 i _ _ h1 h2 (λz=>by cases z);exact⟨a,ns,rfl,sq,λz=>z,n63⟩
     |v d=>cases(get0 i _ _ h1 h2 (λz=>by cases z)).2
     |own d=>cases(get0 i _ _ h1 h2 (λz=>by cases z)).2
     |pk d=>cases(get0 i _ _ h1 h2 (λz=>by cases z)).2
     |pot=>cases(get0 i _ _ h1 h2 (λz=>by cases z)).2
    inj:=λi j b ds h1 h2 _=>by cases(get0 i _ _ h2 h1 (λz=>by cases z)).2 }
  ·exact{
    nx:=⟨λ_ h=>h.elim⟩
    rt:=λd h v H' ke dv=>by cases(show d=.bool true from h);cases dv;exact k H'
    rtF:=λd h v H' ke dv _=>by cases(show d=.bool true from h);cases dv;exact k H'
    bk:=⟨λ_ h=>h.elim⟩
    ct:=⟨λ_ h=>h.elim⟩
    ex:=Qhl }
end
theorem Qcu{α:Type}{p:α->Prop}:∀x∈([]:List α),p x:=λ_ h=>nomatch h
theorem QY{α:Type}{p:α->Prop}{a:α}{l:List α}(h:p a)(t:∀x∈l,p x):∀x∈a::l,p x:=λx hx=>by
 rcases QN.mp hx with z | z
 ·rw[z];exact h
 ·exact t x z
theorem QnI{b c:Bool}{R:Qa->Prop}(h:R (.bool (b&&c))):if b=true then R (.bool c) else R (.bool false):=by
 cases b
 ·exact QhY h
 ·exact QfI h
theorem QcF{b c:Bool}{R:Qa->Prop}{Pk:Prop}(h:R (.bool (b&&c)))(k:b=true->R (.bool c)->Pk):if b=true then Pk else R (.bool false):=by
 cases b
 ·exact QhY h
 ·exact QfI (k rfl h)
theorem ifF{c:Bool}{A B:Prop}(h:c=false)(k:B):if c=true then A else B:=by subst h;exact k
theorem ifC{c:Bool}{A B:Prop}(t:c=true->A)(f:c=false->B):if c=true then A else B:=by
 cases c
 ·exact f rfl
 ·exact t rfl
theorem all_map{α:Type}(l:List α)(g:α->Bool):(l.map g).all id=l.all g:=by
 rw[QkT];rfl
theorem QaW{ds:List Qa}{Q:Qa->Prop}{g:Qa->Bool}{items:List Qa}(h:ds=[.list (items.map λd=>.bool (g d))])(q:Q (.bool (items.all g))):Qw7 ds Q:=by
 subst h;unfold Qw7;refine⟨items.map g,?_,by rw[all_map];exact q⟩;rw[show items.map (λd=>YG (g d))=(items.map g).map YG by rw[Jj];rfl,Qnz]
end Dl
namespace L2
section
variable{X:Cx}
end
end L2
namespace Dl
open L2 _root_.Rd Rk
section
variable{X:Cx}{E:XK}
def QxS(d:Qa)(Q:Qa->Prop):Prop:=
 match d with
 |.list ds=>Q (.list ds.reverse)
 |_=>False
def QzZ(we ws:DE):DE:=λδ Q EX=>we δ (λd=>ws δ (λs=>(match s with | .int i=>i = -1 | _=>False)/\QxS d Q) EX) EX
def Qwr(w:DE):DE:=λδ Q EX=>w δ (λd=>match d with
 |.int j=>(-1000<=j/\j<=1000)/\Q (.list ((Jr j.toNat).map λ(i:Nat)=>.int i))
 |_=>False) EX
theorem QtP{A:Addr->Prop}{H:Hp}(l:List Nat):DAs A H (l.map λ(i:Nat)=>V.int (i:Nat)) (l.map λ(i:Nat)=>Qp (i:Nat)):=by
 induction l with
 |nil=>exact .nil
 |cons i l ih=>exact .cons (.int _) ih
variable{e:Q2}{w:DE}{p p2 pos pos2:Pos}
theorem Ql4(hg:Gl X "list")(hm:X.mg "list" = none)(hg2:Gl X "range")(hm2:X.mg "range" = none)(h:PE X e (tX .P X.K E w))(hc:X.calm=true:=by rfl)(hs:notStar e=true:=by rfl):PE X (.Call (.Name "list" p) [.Call (.Name "range" p2) [e] [] pos2] [] pos) (tX .F X.K E (Qwr w)):=by
 refine PE.imp (QeF (QiS hc) hg hm QcD (Qdt (QoH hg2 hm2 (Qdt h J4 hs) (by rw[Yj hs];rfl)) J4)) λσ H Q ⟨F,δ,R,EX,rel,hw,k,o⟩=>?_
 refine⟨F,δ,_,EX,rel,hw,λd hd v H1 rel1 kp1 vk=>?_,o⟩;cases d<;>first | exact(show False from hd).elim | skip
 obtain⟨⟨h1,h2⟩,hR⟩:=hd;rw[DP.int vk];refine⟨_,rfl,λr H2 s2 n2 e2=>⟨r,_,rfl,e2,h1,h2,λt H3 s3 n3 e3=>?_⟩⟩;have r2:=rel1.same s2;have K2:=kp1.trans (Kp.same rel1 s2);exact k _ hR _ H3 (r2.same s3) (K2.trans (Kp.same r2 s3)) ⟨Qc1 (λa ha=>r2.isl ha) s3 n3 e3 (QtP _),QaS (Qbl K2 n3)⟩
end
theorem QwH{ds:List Qa}{i:Int}(h0:0<=i)(h1:i<ds.length):∃d,d∈ds/\atI ds i=some d:=by
 obtain⟨j,rfl⟩:∃j:Nat,i=j:=⟨i.toNat,by omega⟩
 have hj:j<ds.length:=by omega
 exact⟨ds[j],Qcp hj,QaV (Ql hj)⟩
theorem Qhv{ds:List Qa}{i:Int}{Q:Qa->Prop}(h0:0<=i)(h1:i<ds.length)(q:∀d∈ds,Q d):∃d,atI ds i=some d/\Q d:=by
 obtain⟨d,hd,e⟩:=QwH h0 h1;exact⟨d,e,q d hd⟩
theorem QcB(xs:List Qa)(lo hi:Option Int):(cutD xs lo hi).length<=xs.length:=by
 unfold cutD;rw[Jo,Zn];omega
theorem Qam{xs:List Qa}{lo hi:Option Int}{d:Qa}(h:d∈cutD xs lo hi):d∈xs:=Qk4 (Qdd h)
structure QE (m:Md) (X:Cx) (E:XK) (e:Q2) (w:DE):Prop where h:PE X e (tX m X.K E w)
structure QT (X:Cx) (E:XK) (e:Q2) (w:DT):Prop where h:PT X e (tT X.K E w)
structure QW (X:Cx) (E:XK) (e:Q2) (w:DT):Prop where h:PW X e (tT X.K E w)
structure QTs (X:Cx) (E:XK) (es:List Q2) (w:DT):Prop where h:PTs X es (tT X.K E w)
structure QA (n:Nat) (m:Md) (X:Cx) (E:XK) (es:List Q2) (w:DAr):Prop where h:PA X es (tAr n m X.K E w)
structure QAs (X:Cx) (E:XK) (es:List Q2) (w:DSl):Prop where h:PA X es (tAs X.K E w)
structure QO (X:Cx) (E:XK) (o:Option Q2) (w:DO):Prop where h:PO X o (tO X.K E w)
structure QG (ix:List Nat) (X:Cx) (tg:Q2) (w:DG):Prop where h:PG X tg (tG ix X.K w)
structure QI (m:Md) (X:Cx) (E:XK) (tg it:Q2) (w:DI):Prop where h:PI X tg it (tI m X.K E w)
structure QS (X:Cx) (E:XK) (st:Z4) (w:DS):Prop where h:PS X st (tS X.K E w)
structure QSs (X:Cx) (E:XK) (sts:List Z4) (w:DS):Prop where h:PSs X sts (tS X.K E w)
section
variable{X:Cx}{E:XK}
theorem Ju{e:Q2}{w:DE}(h:QE .F X E e w):QE .D X E e w:=⟨toD h.h⟩
theorem JE{e:Q2}{w:DE}(h:QE .D X E e w):QE .P X E e w:=⟨toP h.h⟩
theorem Qx{e:Q2}{w:DE}(h:QE .F X E e w):QE .P X E e w:=⟨Qzr h.h⟩
theorem qv(i:Nat){x:Str}{pos:Pos}(hN:X.N[i]? = some x:=by rfl)(hv:Vis X.env.scope x:=by first | exact QZ rfl | exact Q8 (QZ rfl) | exact Q8 (Q8 rfl))(hd:(x == ("__debug__" : Str))=false:=by decide)(hcd:(x == ("__classdict__" : Str))=false:=by decide):QE .D X E (.Name x pos) (Qyy i):=⟨Qvg (pv i hN hv hd hcd)⟩
theorem qp(i:Nat){x:Str}{pos:Pos}(hN:X.N[i]? = some x:=by rfl)(hv:Vis X.env.scope x:=by first | exact QZ rfl | exact Q8 (QZ rfl) | exact Q8 (Q8 rfl))(hd:(x == ("__debug__" : Str))=false:=by decide)(hcd:(x == ("__classdict__" : Str))=false:=by decide):QE .P X E (.Name x pos) (dPk i):=⟨Qx7 (pv i hN hv hd hcd)⟩
theorem JF{i:Int}{j pos}:QE .D X E (.Constant (.int i) j pos) (dC (.int i)):=⟨Qvp⟩
theorem QeC{b:Bool}{j pos}:QE .D X E (.Constant (.bool b) j pos) (dC (.bool b)):=⟨Qya⟩
theorem QlK{j pos}:QE .D X E (.Constant .none j pos) (dC .none):=⟨Qvm⟩
theorem QeB{x:Str}{j pos}(h:YY (.str x)=true:=by decide +kernel):QE .D X E (.Constant (.str x) j pos) (dC (.str x)):=⟨Qvi h⟩
theorem Qu7{x:Str}(i:Int){u:Value}{pos:Pos}(hg:Gl X x)(hm:X.mg x=some u)(r:RelV (.int i) u)(hd:(x == ("__debug__" : Str))=false:=by decide):QE .D X E (.Name x pos) (dC (.int i)):=⟨Qvt (Qil hg hm r hd) λ_ _=>.int i⟩
theorem ZI{a b:Q2}{wa wb:DE}{pos:Pos}{r:R2}{rD:Qa->Qa->(Qa->Prop)->Prop}{op:Operator}(ho:OpR X (binaryOp op) r)(hd:OpD r rD)(ha:QE .P X E a wa)(hb:QE .P X E b wb):QE .F X E (.BinOp a op b pos) (dOp rD wa wb):=⟨Qvu ho hd ha.h hb.h⟩
theorem Qfc{a b:Q2}{wa wb:DE}{pos:Pos}{r:R2}{rD:Qa->Qa->(Qa->Prop)->Prop}{op:Qsc}(ho:OpR X (compareOp op) r)(hd:OpD r rD)(ha:QE .P X E a wa)(hb:QE .P X E b wb)(hm:behindInMarks op b=false):QE .F X E (.Compare a [op] [b] pos) (dOp rD wa wb):=⟨Qvs ho hd ha.h hb.h hm⟩
theorem QbR{a b:Q2}{wa wb:DE}{pos:Pos}{r:R2}{rD:Qa->Qa->(Qa->Prop)->Prop}{op:Qsc}(ho:OpR X (compareOp op) r)(hd:OpD r rD)(ha:QE .P X E a wa)(hb:QE .P X E b wb)(hm:behindInMarks op b=false):QT X E (.Compare a [op] [b] pos) (dTst (dOp rD wa wb)):=⟨QsM ho hd ha.h hb.h hm⟩
theorem Qdq{a b:Q2}{wa wb:DE}{pos:Pos}{r:R2}{rD:Qa->Qa->(Qa->Prop)->Prop}(ho:IxR X r)(hd:QwL r rD)(ha:QE .P X E a wa)(hb:QE .P X E b wb)(hs:QgJ b):QE .D X E (.Subscript a b pos) (dOp rD wa wb):=⟨Qx8 ho hd ha.h hb.h hs⟩
theorem Qgd{a:Q2}{wa:DE}{pos:Pos}(ha:QE .P X E a wa):QE .F X E (.UnaryOp .USub a pos) (dUn Qy1 wa):=⟨Qvn ha.h⟩
theorem Qw2{a b c:Q2}{wa wb wc:DE}{pos:Pos}{op op':Qsc}{p q:Int->Int->Bool}(ho:OpR X (compareOp op) (rI0 λi j=>.bl (p i j)))(ho':OpR X (compareOp op') (rI0 λi j=>.bl (q i j)))(ha:QE .P X E a wa)(hb:QE .P X E b wb)(hc:QE .P X E c wc)(hm:lastMarks [op,op'] [b,c]=false:=by with_unfolding_all rfl):QE .F X E (.Compare a [op,op'] [b,c] pos) (dCh p q wa wb wc):=⟨Qx9 ho ho' ha.h hb.h hc.h hm⟩
theorem Yh{e:Q2}{w:DE}(h:QE .P X E e w)(he:∀whole,isTrue e X.env whole=(do let v <- whole;standAt e.pos;holding [v] (truthy v)):=by intro _;rfl):QT X E e (dTst w):=⟨QsK h.h he⟩
theorem Qdr{a b:Q2}{rest:List Q2}{pos:Pos}{wa wb:DE}(ha:QE .P X E a wa)(hb:QE .D X E (.BoolOp .And (b::rest) pos) wb):QE .D X E (.BoolOp .And (a::b::rest) pos) (Qww wa wb):=⟨Qvv ha.h hb.h⟩
theorem QeA{a:Q2}{pos:Pos}{ta:DT}(ha:QT X E a ta):QW X E (.BoolOp .Or [a] pos) ta:=⟨QsJ ha.h⟩
theorem Qfb{a b:Q2}{rest:List Q2}{pos:Pos}{ta tb:DT}(ha:QT X E a ta)(hb:QW X E (.BoolOp .Or (b::rest) pos) tb):QW X E (.BoolOp .Or (a::b::rest) pos) (dOr ta tb):=⟨Qve ha.h hb.h⟩
theorem QsA{e:Q2}{t:DT}(h:QW X E e t):QT X E e t:=⟨PW.pt h.h⟩
theorem Yt{a:Q2}{pos:Pos}{ta:DT}(ha:QT X E a ta):QT X E (.UnaryOp .Not a pos) (Qzc ta):=⟨QsL ha.h⟩
theorem Qdp{op}{a:Q2}{pos:Pos}{w:DE}(h:QE .D X E a w):QE .D X E (.BoolOp op [a] pos) w:=⟨Qvk h.h⟩
theorem Qu5{a:Q2}{pos:Pos}{wa:DE}(ha:QE .P X E a wa):QE .D X E (.UnaryOp .Not a pos) (Qwq wa):=⟨Qvl ha.h⟩
theorem Qx0{c a b:Q2}{pos:Pos}{ta:DT}{wa wb:DE}(hc:QT X E c ta)(ha:QE .D X E a wa)(hb:QE .D X E b wb):QE .D X E (.IfExp c a b pos) (Qzh ta wa wb):=⟨Qvq hc.h ha.h hb.h⟩
theorem QR{m:Md}:QA 0 m X E [] Qzd:=⟨QsZ⟩
theorem Zg{n:Nat}{e:Q2}{es:List Q2}{we:DE}{wr:DAr}(he:QE .D X E e we)(hr:QA n .D X E es wr)(hs:notStar e=true:=by rfl):QA (n+1) .D X E (e::es) (Qnk we wr):=⟨Ql3 he.h hr.h hs⟩
theorem Qa3{n:Nat}{e:Q2}{es:List Q2}{we:DE}{wr:DAr}(he:QE .P X E e we)(hr:QA n .P X E es wr)(hs:notStar e=true:=by rfl):QA (n+1) .P X E (e::es) (Qnk we wr):=⟨Ql2 he.h hr.h hs⟩
theorem Yw{n:Nat}{es:List Q2}{w:DAr}{x1}{pos:Pos}(h:QA n .D X E es w)(hn:n<=1000:=by decide):QE .F X E (.Tuple es x1 pos) (Qy8 w):=⟨Qvh h.h hn⟩
theorem QaE{n:Nat}{es:List Q2}{w:DAr}{pos:Pos}(h:QA n .D X E es w)(hn:n<=1000:=by decide):QE .F X E (.List es pos) (Qze w):=⟨Qvo h.h hn⟩
theorem Qx1{pos:Pos}:QE .D X E (.Dict [] [] pos) (dC (.dict [])):=⟨Qvr⟩
theorem Zc{x:Str}{bid:String}{p pos:Pos}{e:Q2}{es:List Q2}{n:Nat}{wr:DAr}{r:List V->Hp->VK->Prop}{rD:List Qa->(Qa->Prop)->Prop}(hc:CallR X (.builtin bid) r)(hd:QdI r rD)(hg:Gl X x)(hm:X.mg x=none)(hv:bootBuiltins x=some (.builtin bid))(ha:QA n .P X E (e::es) wr)(hn:x ≠ "__name__" := by decide)(hdb:(x == ("__debug__" : Str))=false:=by decide)(he:starEach (e::es) X.env=(false,eval e X.env)::starEach es X.env:=by rfl)(hpl:(backTo pos (starEach es X.env)).any (·.1)=false:=by rfl):QE .F X E (.Call (.Name x p) (e::es) [] pos) (dCB rD wr):=⟨Qo5 hc hd hg hm hv ha.h hn hdb he hpl⟩
theorem YX{x:Str}{T:String}{p pos:Pos}{e:Q2}{es:List Q2}{n:Nat}{wr:DAr}{r:List V->Hp->VK->Prop}{rD:List Qa->(Qa->Prop)->Prop}(hc:CallR X (.type T) r)(hd:QdI r rD)(hg:Gl X x)(hm:X.mg x=none)(hv:bootBuiltins x=some (.type T))(ha:QA n .P X E (e::es) wr)(hn:x ≠ "__name__" := by decide)(hdb:(x == ("__debug__" : Str))=false:=by decide)(he:starEach (e::es) X.env=(false,eval e X.env)::starEach es X.env:=by rfl)(hpl:(backTo pos (starEach es X.env)).any (·.1)=false:=by rfl):QE .F X E (.Call (.Name x p) (e::es) [] pos) (dCB rD wr):=⟨Ql6 hc hd hg hm hv ha.h hn hdb he hpl⟩
theorem QbS{e:Q2}{we:DE}{p pos pos2:Pos}{x:Str}(tn:Tn)(hg:Gl X "isinstance")(hm:X.mg "isinstance" = none)(he:QE .P X E e we)(hg2:Gl X x)(hm2:X.mg x=none)(hv:bootBuiltins x=some (.type tn.s))(hn:x ≠ "__name__" := by decide)(hd:(x == ("__debug__" : Str))=false:=by decide)(h1:notStar e=true:=by rfl):QE .F X E (.Call (.Name "isinstance" p) [e,.Name x pos2] [] pos) (Qws tn we):=⟨Qs1 tn hg hm he.h (Qyb tn hg2 hm2 hv hn hd) h1 rfl⟩
theorem Yv  : QO X E none dNo:=⟨QoW⟩
theorem Yu{e:Q2}{we:DE}(he:QE .P X E e we):QO X E (some e) (dSo we):=⟨QoV he.h⟩
theorem Yx{e:Q2}{lo hi:Option Q2}{we:DE}{wl wh:DO}{p2 pos:Pos}(he:QE .P X E e we)(hl:QO X E lo wl)(hh:QO X E hi wh):QE .F X E (.Subscript e (.Slice lo hi none p2) pos) (dSl we wl wh):=⟨Qo2 he.h hl.h hh.h⟩
theorem Qsz{e st:Q2}{we ws:DE}{p2 pos:Pos}(he:QE .P X E e we)(hs:QE .P X E st ws):QE .F X E (.Subscript e (.Slice none none (some st) p2) pos) (Qza we ws):=⟨Qvj he.h hs.h⟩
theorem Qjk{e:Q2}{w:DE}{p p2 pos pos2:Pos}(hg:Gl X "list")(hm:X.mg "list" = none)(hg2:Gl X "range")(hm2:X.mg "range" = none)(h:QE .P X E e w)(hc:X.calm=true:=by rfl)(hs:notStar e=true:=by rfl):QE .F X E (.Call (.Name "list" p) [.Call (.Name "range" p2) [e] [] pos2] [] pos) (Qwr w):=⟨Ql4 hg hm hg2 hm2 h.h hc hs⟩
theorem JD  : QAs X E [] QyL:=⟨QsS⟩
theorem ZN{e:Q2}{es:List Q2}{we:DE}{wr:DSl}(he:QE .D X E e we)(hr:QAs X E es wr)(hs:notStar e=true:=by rfl):QAs X E (e::es) (sV we wr):=⟨Qx6 he.h hr.h hs⟩
theorem Y0(i:Nat){x:Str}{pos:Pos}{es:List Q2}{wr:DSl}(hr:QAs X E es wr)(hN:X.N[i]? = some x:=by rfl)(hv:Vis X.env.scope x:=by first | exact QZ rfl | exact Q8 (QZ rfl) | exact Q8 (Q8 rfl))(hd:(x == ("__debug__" : Str))=false:=by decide)(hcd:(x == ("__classdict__" : Str))=false:=by decide):QAs X E (.Name x pos::es) (QxR i wr):=⟨QsP (pv i hN hv hd hcd) hr.h rfl⟩
theorem J6{CX:CXT}{k:Nat}{f:Addr}{fd:QQ}{ps:List Str}{x:Str}{p pos:Pos}{e:Q2}{es:List Q2}{fD:DF}{wa:DSl}(G:FnOk X.prog X.w X.K X.mg X.base CX k f fd ps (Ze false fD))(hr:Room k X.A)(hg:Gl X x)(hm:X.mg x=some (.ref f))(hk:PySem.W.keepIn X.K (.ref f)=true)(hb:Binds X.K fd ps [])(hx:Qc8 CX X E)(ha:QAs X E (e::es) wa)(hdb:(x == ("__debug__" : Str))=false:=by decide)(he:starEach (e::es) X.env=(false,eval e X.env)::starEach es X.env:=by rfl)(hpl:(backTo pos (starEach es X.env)).any (·.1)=false:=by rfl):QE .D X E (.Call (.Name x p) (e::es) [] pos) (Qnl fD wa):=⟨Qs4 G hr hg hm hk hb hx ha.h hdb he hpl⟩
theorem Qaa{CX:CXT}{k:Nat}{f:Addr}{fd:QQ}{ps:List Str}{x:Str}{p pos:Pos}{e:Q2}{es:List Q2}{fD:DF}{wa:DSl}(G:FnOk X.prog X.w X.K X.mg X.base CX k f fd ps (Ze true fD))(hr:Room k X.A)(hg:Gl X x)(hm:X.mg x=some (.ref f))(hk:PySem.W.keepIn X.K (.ref f)=true)(hb:Binds X.K fd ps [])(hx:Qc8 CX X E)(ha:QAs X E (e::es) wa)(hdb:(x == ("__debug__" : Str))=false:=by decide)(he:starEach (e::es) X.env=(false,eval e X.env)::starEach es X.env:=by rfl)(hpl:(backTo pos (starEach es X.env)).any (·.1)=false:=by rfl):QE .F X E (.Call (.Name x p) (e::es) [] pos) (Qnl fD wa):=⟨Qo4 G hr hg hm hk hb hx ha.h hdb he hpl⟩
theorem Qu8{k:Nat}{f:Addr}{fd:QQ}{ps:List Str}{x y:Str}{p pos pos2:Pos}{b:Q2}{wb:DE}(i:Nat)(G:FnOk X.prog X.w X.K X.mg X.base CX0 k f fd ps (QcU X.K))(hr:Room k X.A)(hg:Gl X x)(hm:X.mg x=some (.ref f))(hk:PySem.W.keepIn X.K (.ref f)=true)(hb:Binds X.K fd ps [])(h:QE .P X E b wb)(hN:X.N[i]? = some y:=by rfl)(hv:Vis X.env.scope y:=by first | exact QZ rfl | exact Q8 (QZ rfl) | exact Q8 (Q8 rfl))(hd:(y == ("__debug__" : Str))=false:=by decide)(hcd:(y == ("__classdict__" : Str))=false:=by decide)(h2:notStar b=true:=by rfl)(hdb:(x == ("__debug__" : Str))=false:=by decide):QE .F X E (.Call (.Name x p) [.Name y pos2,b] [] pos) (QtW i wb):=⟨Qs3 G hr hg hm hk hb (pv i hN hv hd hcd) h.h rfl h2 hdb⟩
theorem Qu6{y:Str}{p pos pos2:Pos}(i:Nat)(hg:Gl X "len")(hm:X.mg "len" = none)(hN:X.N[i]? = some y:=by rfl)(hv:Vis X.env.scope y:=by first | exact QZ rfl | exact Q8 (QZ rfl) | exact Q8 (Q8 rfl))(hd:(y == ("__debug__" : Str))=false:=by decide)(hcd:(y == ("__classdict__" : Str))=false:=by decide):QE .F X E (.Call (.Name "len" p) [.Name y pos2] [] pos) (QtU i):=⟨Qs0 hg hm (pv i hN hv hd hcd) rfl⟩
theorem Zb(i:Nat){x:Str}{pos:Pos}(hN:X.N.Nodup)(hi:X.N[i]? = some x)(hx:Loc X.env.scope x)(hf:X.fn x=true∨X.env.scope.names.lookup x=some .local:=by first | exact .inl rfl | exact .inr rfl | assumption):QG [i] X (.Name x pos) (gN i):=⟨Qo1 (QeD hN hi hx hf)⟩
structure QGs (X:Cx) (es:List Q2) (is:List Nat):Prop where h:PGs X es (gNs is)
theorem QcY  : QGs X [] []:=⟨QlV⟩
theorem Yb(i:Nat){is:List Nat}{x:Str}{pos:Pos}{es:List Q2}(h:QGs X es is)(hN:X.N.Nodup)(hi:X.N[i]? = some x)(hx:Loc X.env.scope x)(hf:X.fn x=true∨X.env.scope.names.lookup x=some .local:=by first | exact .inl rfl | exact .inr rfl | assumption)(hs:(assignEach (.Name x pos::es) X.env).map (·.2)=assign (.Name x pos) X.env::(assignEach es X.env).map (·.2):=by rfl):QGs X (.Name x pos::es) (i::is):=⟨Qgh (QeD hN hi hx hf) h.h hs⟩
theorem QcX{es:List Q2}{k:Nat}{pos:Pos}{is:List Nat}(hc:X.calm=true)(h:QGs X es is)(hn:(assignEach es X.env).length=is.length:=by rfl)(hst:(assignEach es X.env).findIdx? (·.1)=none:=by rfl):QG is X (.Tuple es k pos) (gTN is):=⟨QsY (Qru hc h.h hn hst) rfl⟩
theorem Qdo{m:Md}{tg e:Q2}{w:DE}(h:QE m X E e w):QI m X E tg e (Qzg w):=⟨Qo0 h.h⟩
theorem Y1{m:Md}{tg e:Q2}{w:DE}(h:QE m X E e w):QI m X E tg e (Qzf w):=⟨QsX h.h⟩
theorem QaP{m:Md}{tg e:Q2}{w:DE}{p pos:Pos}(hg:Gl X "range")(hm:X.mg "range" = none)(h:QE .P X E e w)(hs:notStar e=true:=by rfl):QI m X E tg (.Call (.Name "range" p) [e] [] pos) (Qwo w):=⟨QoZ hg hm h.h hs⟩
theorem Qsx{m:Md}{e e':Q2}{w w':DE}{p pos tpos:Pos}{elts:List Q2}{x1}(hg:Gl X "zip")(hm:X.mg "zip" = none)(h:QE m X E e w)(h':QE m X E e' w')(hs:notStar e=true:=by rfl)(hs':notStar e'=true:=by rfl):QI m X E (.Tuple elts x1 tpos) (.Call (.Name "zip" p) [e,e'] [] pos) (Qy7 w w'):=⟨QoY hg hm h.h h'.h hs hs'⟩
theorem QlJ{m:Md}{e e':Q2}{w w':DE}{p pos tpos:Pos}{elts:List Q2}{x1}(hg:Gl X "zip")(hm:X.mg "zip" = none)(h:QE m X E e w)(h':QE m X E e' w')(hs:notStar e=true:=by rfl)(hs':notStar e'=true:=by rfl):QI m X E (.Tuple elts x1 tpos) (.Call (.Name "zip" p) [e,e'] [] pos) (Qy6 w w'):=⟨QoX hg hm h.h h'.h hs hs'⟩
theorem Zp  : QTs X E [] QrU:=⟨QoO⟩
theorem QlG{c:Q2}{t:DT}(h:QT X E c t):QTs X E [c] t:=⟨QoN h.h⟩
theorem Qai(M:List Str)(cap:List (Option Nat)){elt tg iter:Q2}{ifs:List Q2}{scope:Yp}{pos:Pos}{ix:List Nat}{wi:DI}{wg:DG}{wt:DT}{we:DE}(hi:QI .P X E tg iter wi)(hb:∀cl ex s3 H3 C,QG ix (blk X M scope cl ex s3 H3 C) tg wg/\QTs (blk X M scope cl ex s3 H3 C) E0 ifs wt/\QE .D (blk X M scope cl ex s3 H3 C) E0 elt we)(hc:X.calm=true:=by rfl)(ok:QcC X.N X.env.scope M scope cap=true:=by rfl)(hf:Qa4 cap ix=true:=by rfl)(hs:∀x,foldedSetIterable iter X.env x=pure x:=by intro _;rfl):QE .F X E (.ListComp elt [⟨tg,iter,ifs,0⟩] scope pos) (dComp cap wi wg wt we):=⟨Qs2 hc ok hf hi.h (λcl ex s3 H3 C=>⟨(hb cl ex s3 H3 C).1.h,(hb cl ex s3 H3 C).2.1.h,(hb cl ex s3 H3 C).2.2.h⟩) hs⟩
theorem ZS  : QSs X E [] QtS:=⟨QoP⟩
theorem Q7{st:Z4}{w:DS}(h:QS X E st w):QSs X E [st] w:=⟨QsQ h.h⟩
theorem QK{st:Z4}{rest:List Z4}{w w':DS}(h:QS X E st w)(h':QSs X E rest w'):QSs X E (st::rest) (Qy9 w w'):=⟨QoU h.h h'.h⟩
theorem Z1(i:Nat){x:Str}{e:Q2}{pos pos':Pos}{we:DE}(he:QE .D X E e we)(hN:X.N.Nodup)(hi:X.N[i]? = some x:=by rfl)(hx:Loc X.env.scope x:=by first | exact QZ rfl | exact Q8 rfl)(hs:swapsWith e (some (.Name x pos')) pos.line X.env=pure false:=by rfl)(hf:X.fn x=true∨X.env.scope.names.lookup x=some .local:=by first | exact .inl rfl | exact .inr rfl | assumption):QS X E (.Assign [.Name x pos'] e pos) (Qw6 i we):=⟨Qim (QaQ hN hi hx he.h hs hf)⟩
theorem Qdn(i:Nat){x:Str}{e:Q2}{pos pos':Pos}{we:DE}(he:QE .F X E e we)(hN:X.N.Nodup)(hi:X.N[i]? = some x:=by rfl)(hx:Loc X.env.scope x:=by first | exact QZ rfl | exact Q8 rfl)(hs:swapsWith e (some (.Name x pos')) pos.line X.env=pure false:=by rfl)(hf:X.fn x=true∨X.env.scope.names.lookup x=some .local:=by first | exact .inl rfl | exact .inr rfl | assumption):QS X E (.Assign [.Name x pos'] e pos) (QtT i we):=⟨Qjs (QaQ hN hi hx he.h hs hf)⟩
theorem Qsw(i:Nat){x:Str}{e:Q2}{pos pos':Pos}{we:DE}(he:QE .F X E e we)(hN:X.N.Nodup)(hi:X.N[i]? = some x:=by rfl)(hx:Loc X.env.scope x:=by first | exact QZ rfl | exact Q8 rfl)(hs:swapsWith e (some (.Name x pos')) pos.line X.env=pure false:=by rfl)(hf:X.fn x=true∨X.env.scope.names.lookup x=some .local:=by first | exact .inl rfl | exact .inr rfl | assumption):QS X E (.Assign [.Name x pos'] e pos) (Qwn i we):=⟨QoQ (QaQ hN hi hx he.h hs hf)⟩
theorem Qu4{tg e:Q2}{pos:Pos}{ix:List Nat}{we:DE}{wg:DG}(he:QE .D X E e we)(hg:QG ix X tg wg)(hs:swapsWithSole [tg] e pos.line X.env=pure false:=by rfl)(hw:swappedStores [tg] e X.env=pure none:=by rfl)(h1:(assignEach [tg] X.env).map (·.2)=[assign tg X.env]:=by rfl):QS X E (.Assign [tg] e pos) (Qzi we wg):=⟨QsV (QlQ he.h hg.h hs hw h1)⟩
theorem ZK{e:Q2}{pos:Pos}{we:DE}(h:QE .D X E e we):QS X E (.Return (some e) pos) (QyA we):=⟨QsN h.h⟩
theorem QaN{e:Q2}{pos:Pos}{we:DE}(h:QE .F X E e we):QS X E (.Return (some e) pos) (Qwp we):=⟨QoR h.h⟩
theorem QaO{c:Q2}{a b:List Z4}{pos:Pos}{t:DT}{w w':DS}(hc:QT X E c t)(ha:QSs X E a w)(hb:QSs X E b w'):QS X E (.If c a b pos) (dIf t w w'):=⟨Qvf hc.h ha.h hb.h⟩
theorem Qrp{y:Str}{e:Q2}{we:DE}{apos cpos pos npos:Pos}(i:Nat)(he:QE .D X E e we)(hN:X.N[i]? = some y:=by rfl)(hv:Vis X.env.scope y:=by first | exact QZ rfl | exact Q8 (QZ rfl) | exact Q8 (Q8 rfl))(hd:(y == ("__debug__" : Str))=false:=by decide)(hcd:(y == ("__classdict__" : Str))=false:=by decide)(hst:notStar e=true:=by rfl)(hbase:attributeBase (.Name y npos) "append" X.env (eval (.Name y npos) X.env)=eval (.Name y npos) X.env:=by rfl)(hfew:((backTo cpos (starEach [e] X.env)).all (λx => !x.1)&&(backToKw cpos (keywordEach [] X.env)).all (λx=>x.1.isSome)&&decide ([e].length+([]:List Qe9).length+(if([]:List Qe9).isEmpty then 0 else 1)<30))=true:=by rfl)(hline:(apos.endLine == cpos.line)=true:=by rfl)(hsw:swapsWith (.Call (.Attribute (.Name y npos) "append" apos) [e] [] cpos) none pos.line X.env=pure false:=by rfl):QS X E (.Expr (.Call (.Attribute (.Name y npos) "append" apos) [e] [] cpos) pos) (QyC i we):=⟨QsW (Qgg (Ql0 PySem.F.plainAttrs_list PySem.F.slot_list_append PySem.F.type_list_append Qht (pv i hN hv hd hcd) (Qdt he.h J4 hst) hbase hfew hline (Yj hst) rfl) hsw)⟩
theorem Qro{y:Str}{e:Q2}{we:DE}{apos cpos pos npos:Pos}(i:Nat)(he:QE .P X E e we)(hN:X.N[i]? = some y:=by rfl)(hv:Vis X.env.scope y:=by first | exact QZ rfl | exact Q8 (QZ rfl) | exact Q8 (Q8 rfl))(hd:(y == ("__debug__" : Str))=false:=by decide)(hcd:(y == ("__classdict__" : Str))=false:=by decide)(hst:notStar e=true:=by rfl)(hbase:attributeBase (.Name y npos) "extend" X.env (eval (.Name y npos) X.env)=eval (.Name y npos) X.env:=by rfl)(hfew:((backTo cpos (starEach [e] X.env)).all (λx => !x.1)&&(backToKw cpos (keywordEach [] X.env)).all (λx=>x.1.isSome)&&decide ([e].length+([]:List Qe9).length+(if([]:List Qe9).isEmpty then 0 else 1)<30))=true:=by rfl)(hline:(apos.endLine == cpos.line)=true:=by rfl)(hsw:swapsWith (.Call (.Attribute (.Name y npos) "extend" apos) [e] [] cpos) none pos.line X.env=pure false:=by rfl):QS X E (.Expr (.Call (.Attribute (.Name y npos) "extend" apos) [e] [] cpos) pos) (QyB i we):=⟨QsU (Qgg (Ql0 PySem.F.plainAttrs_list PySem.F.slot_list_extend PySem.F.type_list_extend QmD (pv i hN hv hd hcd) (Qdt he.h J4 hst) hbase hfew hline (Yj hst) rfl) hsw)⟩
theorem Qu2{y:Str}{e k:Q2}{we wk:DE}{pos spos npos:Pos}(i:Nat)(he:QE .D X E e we)(hk:QE .P X E k wk)(hN:X.N[i]? = some y:=by rfl)(hv:Vis X.env.scope y:=by first | exact QZ rfl | exact Q8 (QZ rfl) | exact Q8 (Q8 rfl))(hd:(y == ("__debug__" : Str))=false:=by decide)(hcd:(y == ("__classdict__" : Str))=false:=by decide) (ha:∀v,assign (.Subscript (.Name y npos) k spos) X.env v=(do
   let ov <- holding [v] (eval (.Name y npos) X.env)
   let iv <- holding [v,ov] (eval k X.env)
   standAt spos
   holding [v,ov,iv] (setItem ov iv v)
   release [v,ov,iv] []):=by intro _;rfl) (hs:swapsWithSole [.Subscript (.Name y npos) k spos] e pos.line X.env=pure false:=by rfl) (hw:swappedStores [.Subscript (.Name y npos) k spos] e X.env=pure none:=by rfl) (h1:(assignEach [.Subscript (.Name y npos) k spos] X.env).map (·.2)=[assign (.Subscript (.Name y npos) k spos) X.env]:=by rfl):QS X E (.Assign [.Subscript (.Name y npos) k spos] e pos) (Qzb i wk we):=⟨QsO (QlQ he.h (Qrv (pv i hN hv hd hcd) hk.h Qje ha) hs hw h1)⟩
theorem Qcr{tg iter:Q2}{body:List Z4}{pos:Pos}{ix:List Nat}{wi:DI}{wg:DG}{wb:DS}(hp:PassesOwn (model X.prog X.w) X.A X.env X.xe)(hc:X.calm=true)(hi:QI .D X E tg iter wi)(hg:QG ix X tg wg)(hb:QSs X E body wb)(hs:∀x,foldedSetIterable iter X.env x=pure x:=by intro _;rfl):QS X E (.For tg iter body [] pos) (dFor wi wg wb):=⟨QsT hp hc hi.h hg.h hb.h hs⟩
theorem Qgc{x:Str}{C:Addr}{e0:Q2}{we:DE}{np cpos pos:Pos}(hxe:∀e s1,wpAny (model X.prog X.w) X.A (leaving X.env e) (λ_ s2=>Rx.CXE X.prog X.w X.outer X.H₀ X.s₀ E e s2) (λe' s2=>Rx.CXE X.prog X.w X.outer X.H₀ X.s₀ E e' s2) s1->X.xe e s1)(hm:X.mg x=some (.ref C))(q:PySem.W.excIn X.K C Rx.mroV "ValueError.__new__" = true)(ha:QE .P X E e0 we)(hstk:X.stack=X.env::X.outer:=by rfl)(hfr:X.env.frame=some X.env.locals:=by rfl)(hex:X.ex=[]:=by rfl)(hc:X.calm=true:=by rfl)(hg:Gl X x:=by rfl)(he:starEach [e0] X.env=[(false,eval e0 X.env)]:=by rfl)(hd:(x == ("__debug__" : Str))=false:=by decide):QS X E (.Raise (some (.Call (.Name x np) [e0] [] cpos)) none pos) (QrT C we):=⟨Ql1 (Rx.QoC hxe hstk hfr hex hc hg hm q ha.h he hd)⟩
theorem QlI{e:Q2}{we:DE}{pos:Pos}(he:QE .P X E e we)(hs:swapsWith e none pos.line X.env=pure false:=by rfl):QS X E (.Expr e pos) (Qwt we):=⟨QoT (Qgg he.h hs)⟩
theorem Qu3{st:Z4}{w:DS}(h:QS X.nox E0 st w):QS X E st (λD δ=>w { D with ex:=XF } δ):=⟨QsR h.h⟩
end
section
variable{P:QB}{w:Jl}{K:PySem.W.Frag}{mg:Str->Option Value}{base:Za}
theorem okQ{x qual:Str}{st:Z4}{f:Addr}{fd:QQ}{N ps:List Str}{k:Nat}{fD:DF}(fr:Bool)(F:Fun K x qual st f fd)(S:Jy N ps (Qt st))(len:∀args R EX,fD args R EX->args.length=ps.length)
  (hbody:∀(cdv:Value)(A:Q9)(outer:List Env)(s:Shared)(H:Hp)(E:XK),Room k (A.deeper (envOfC qual (Qt st) s.heap.objs.size f cdv)) ->
   ∃wd,QSs (cxOf CX0 P w K mg base N qual (Qt st) f cdv A outer s H E).nox E0 (Js st) wd/\∀args R EX,fD args R EX->wd (Qm6 fr R XF) (stD N args)):FnOk P w K mg base CX0 (k+1) f fd ps (Ze fr fD):=
 okD fr F S len λcdv A outer s H E hr=>let ⟨wd,h,q⟩:=hbody cdv A outer s H E hr;⟨wd,h.h,q⟩
theorem QvN{x qual:Str}{st:Z4}{f:Addr}{fd:QQ}{N ps:List Str}{k:Nat}{fD:DF}(fr:Bool)(F:Fun K x qual st f fd)(S:Jy N ps (Qt st))(len:∀args R EX,fD args R EX->args.length=ps.length)
  (hbody:∀(cdv:Value)(A:Q9)(outer:List Env)(s:Shared)(H:Hp)(E:XK),Room k (A.deeper (envOfC qual (Qt st) s.heap.objs.size f cdv)) ->
   ∃wd,QSs (cxOf (Rx.CXE P w) P w K mg base N qual (Qt st) f cdv A outer s H E) E (Js st) wd/\∀args R EX,fD args R EX->wd (Qm6 fr R EX) (stD N args)):FnOk P w K mg base (Rx.CXE P w) (k+1) f fd ps (Ze fr fD):=
 QzH fr F S len λcdv A outer s H E hr=>let ⟨wd,h,q⟩:=hbody cdv A outer s H E hr;⟨wd,h.h,q⟩
theorem QzG{x qual:Str}{st:Z4}{f:Addr}{fd:QQ}{N:List Str}{p:Str}{k:Nat}(F:Fun K x qual st f fd)(S:Jy N [p] (Qt st))
  (hbody:∀(cdv:Value)(A:Q9)(outer:List Env)(s:Shared)(H:Hp)(E:XK),Room k (A.deeper (envOfC qual (Qt st) s.heap.objs.size f cdv)) ->
   ∃wd,QSs (cxOf CX0 P w K mg base N qual (Qt st) f cdv A outer s H E).nox E0 (Js st) wd/\wd Qwe (stD N [.scr])):FnOk P w K mg base CX0 (k+1) f fd [p] (Qfp K):=
 Qyf F S λcdv A outer s H E hr=>let ⟨wd,h,q⟩:=hbody cdv A outer s H E hr;⟨wd,h.h,q⟩
end
structure GOk (wg:DG):Prop where h:∀d δ Q,wg d δ Q->wg d δ λδ'=>(∀(j:Nat) x,δ'[j]? = some x->(∃e,x=.v e)∨δ[j]? = some x)/\Q δ'
theorem Qgx(i:Nat):GOk (gN i):=⟨λd δ Q h=>⟨λj x e=>by
 by_cases z:j=i
 ·subst z;exact .inl ⟨d,set_eq e⟩
 ·rw[Qaq z] at e;exact .inr e,h⟩⟩
theorem QiH{cap:List (Option Nat)}{ix:List Nat}(hf:Qa4 cap ix=true){i:Nat}(hi:i∈ix):cap[i]? = some none:=by
 have:=Q4.mp hf i hi;split at this
 ·assumption
 ·cases this
theorem Qc2{cap:List (Option Nat)}{ix:List Nat}(hf:Qa4 cap ix=true){δ:Sts}{i:Nat}{x:Sl}(h:(QdZ cap δ)[i]? = some x)(hx:x≠.no):i∉ix:=λz=>by
 rcases QgE h with⟨_,e⟩ | ⟨j,hj,_⟩
 ·exact hx e
 ·rw[QiH hf z] at hj;cases hj
section
variable{K:PySem.W.Frag}{σ σ4:L2.St}{δ δ4:Sts}{cap:List (Option Nat)}{ix:List Nat}{A1:Addr->Prop}{H3 H5 H6:Hp}
theorem QmX(hP:∀a,Z3 σ δ a->A1 a)(hf:Qa4 cap ix=true)(j4:∀j,j∉ix->σ4[j]? = (Qde cap σ)[j]?)(gk:∀(j:Nat) x,δ4[j]? = some x->(∃e,x=.v e)∨(QdZ cap δ)[j]? = some x){a:Addr}(h:Av (inF A1 cap σ δ H3) σ4 δ4 a):A1 a:=by
 rcases h with z | ⟨i,h1,h2⟩
 ·exact z
 ·refine(QjE (cap:=cap) (H:=H3) hP).mp ?_
  rcases h2 with h2 | ⟨ds,h2⟩
  ·rcases gk i _ h2 with⟨e,z⟩ | z
   ·cases z
   ·exact .inr ⟨i,by rw[<- j4 i (Qc2 hf z (λz=>by cases z))];exact h1,.inl z⟩
  ·rcases gk i _ h2 with⟨e,z⟩ | z
   ·cases z
   ·exact .inr ⟨i,by rw[<- j4 i (Qc2 hf z (λz=>by cases z))];exact h1,.inr ⟨ds,z⟩⟩
theorem QmV(hP:∀a,Z3 σ δ a->A1 a)(hf:Qa4 cap ix=true)(j4:∀j,j∉ix->σ4[j]? = (Qde cap σ)[j]?)(gk:∀(j:Nat) x,δ4[j]? = some x->(∃e,x=.v e)∨(QdZ cap δ)[j]? = some x)
  (ri:Rel K (inF A1 cap σ δ H6) (Qde cap σ) H6 (QdZ cap δ))(r5:Rel K (inF A1 cap σ δ H3) σ4 H5 δ4)(kk:∀a o,¬A1 a->H5 a=some o->H6 a=some o):Rel K (inF A1 cap σ δ H6) σ4 H6 δ4 where
 len:=r5.len
 dom:=ri.dom
 dom0:=ri.dom0
 pt0:=ri.pt0
 kx:=ri.kx
 sl:=λi o x h1 h2=>by
  have iv:∀{a:Addr},Av (inF A1 cap σ δ H6) σ4 δ4 a->A1 a:=λ{a} z=>QmX hP hf j4 gk z
  rcases gk i x h2 with⟨d,rfl⟩ | hx
  ·obtain⟨v,e,q⟩:=r5.sl i o _ h1 h2;exact⟨v,e,q.mv (λa o n e=>kk a o (λz=>n (.inl z)) e) λa z=>.inl (.inl (iv z))⟩
  ·by_cases hn:x=.no
   ·subst hn;trivial
   ·have h1':(Qde cap σ)[i]? = some o:=by rw[<- j4 i (Qc2 hf hx hn)];exact h1
    have h:=ri.sl i o x h1' hx;cases x with
    |no=>trivial
    |v d=>obtain⟨v',e,q'⟩:=h;exact⟨v',e,q'.mv (λ_ _ _ e=>e) λa z=>.inl (.inl (iv z))⟩
    |own ds=>obtain⟨l,xs,e,e2,q',f⟩:=h;exact⟨l,xs,e,e2,q'.mv (λ_ _ _ e=>e) λa z=>.inl (.inl (iv z)),f⟩
    |pk ds=>obtain⟨l,xs,e,e2,q',f⟩:=h;exact⟨l,xs,e,e2,q'.mv (λ_ _ _ e=>e) λa z=>.inl (.inl (iv z)),f⟩
    |pot=>exact h
    |scr=>exact h
 inj:=λi j a ds h1 h2 _=>by
  rcases gk i _ h1 with⟨e,z⟩ | z
  ·cases z
  ·rcases QgE z with⟨_,e⟩ | ⟨j,hj,e⟩
   ·cases e
   ·exfalso
    cases e2:δ[j]? with
    |none=>rw[e2] at e;cases e
    |some y=>rw[e2] at e;cases y<;>cases e
end
theorem Qi6{K:PySem.W.Frag}{F:Fm}{σ:L2.St}{δ:Sts}{H1 H3:Hp}{cap:List (Option Nat)}{ix:List Nat}{wg:DG}{wt:DT}{A1:Addr->Prop}{x:V}{d:Qa}{inner:L2.St->Hp->(Hp->Prop)->Prop}{kk:Hp->Prop}{T:Sts->Prop}{N:Prop}(gok:GOk wg)
  (hf:Qa4 cap ix=true)(rel:Rel K F σ H1 δ)(hA:∀a,Av F σ δ a->A1 a)(hN:∀a,A1 a->Av F σ δ a∨H1 a=none)(dm:∀a,A1 a->∃xs,H3 a=some (.lst xs))(kp:Kp σ δ H1 H3)(dx:DA A1 H3 x d)
  (h:wg d (QdZ cap δ) λδ4=>wt δ4 (λb=>if b=true then T δ4 else N) XF)
  (hT:∀σ4 δ4 H5,T δ4->Rel K (inF A1 cap σ δ H3) σ4 H5 δ4->Kp σ δ H3 H5->(∀j,j∉ix->σ4[j]? = (Qde cap σ)[j]?)->σ4.length=(Qde cap σ).length->(∀(j:Nat) x,δ4[j]? = some x->(∃e,x=.v e)∨(QdZ cap δ)[j]? = some x)->inner σ4 H5 kk)(hF:N->∀H5,Kp σ δ H3 H5->kk H5) :
  bOf (Qde cap σ) (tG ix K wg) (tT K E0 wt) inner x H3 kk:=by
 have ri:=QjD (cap:=cap) rel hA hN dm kp;have iv:∀{a:Addr},Av (inF A1 cap σ δ H3) (Qde cap σ) (QdZ cap δ) a->A1 a:=λ{a}=>(QjE λa z=>hA a (Yy z)).mp
 refine⟨inF A1 cap σ δ H3,QdZ cap δ,d,_,ri,dx.mv (λ_ _ _ e=>e) λa z=>.inl (iv z),gok.h _ _ _ h,λδ4 ⟨g4,h4⟩ σ4 r4 st4 l4 j4=>⟨QrX hf l4 j4,inF A1 cap σ δ H3,δ4,_,XF,r4,h4,λb hb H5 r5 kp5=>?_,Qhl⟩⟩;have pots:∀{b:Addr},Z3 σ4 δ4 b->Z3 σ δ b:=λz=>Qgw r4 (λb o _ e1 e2=>by rw[e2] at e1;cases e1) z
 have K5:Kp σ δ H3 H5:=by
  refine⟨λb o n e=>kp5.1 b o (λz=>n (pots z)) e,λb hb=>?_⟩;by_cases z:Z3 σ4 δ4 b
  ·exact kp5.2 b z
  ·obtain⟨n,e⟩:=kp.2 b hb;exact⟨n,kp5.1 _ _ z e⟩
 exact Qcs hb (λz=>hT σ4 δ4 H5 z r5 K5 j4 l4 g4) λz=>hF z H5 K5
theorem Qm7{K:PySem.W.Frag}{σ σ4:L2.St}{δ δ4:Sts}{H1 H3 H5:Hp}{cap:List (Option Nat)}{we:DE}{A1:Addr->Prop}{p:Addr}{acc:List Qa}{kk:Hp->Prop}{G:Qa->Prop}
  (hpA:A1 p)(hP:∀a,Z3 σ δ a->A1 a)(hp1:H1 p=none)(hpn:¬Z3 σ δ p)(lp:Lp σ δ A1 p H1 H5 acc)(hl:acc.length<sizeLine)(r5:Rel K (inF A1 cap σ δ H3) σ4 H5 δ4)(pots:∀b,Z3 σ4 δ4 b->Z3 σ δ b)
  (h:we δ4 G XF)(hk:∀e,G e->∀H',Lp σ δ A1 p H1 H' (acc++[e])->(∀b o,¬A1 b->H5 b=some o->H' b=some o)->kk H'):Qui p (tX .D K E0 we) σ4 H5 kk:=by
 refine⟨inF A1 cap σ δ H3,δ4,G,XF,r5,h,λe he v H6 r6 kp6 dv=>?_,Qhl⟩;have k56:Kp σ δ H5 H6:=by
  refine⟨λb o n e=>kp6.1 b o (λz=>n (pots b z)) e,λb hb=>?_⟩;by_cases z:Z3 σ4 δ4 b
  ·exact kp6.2 b z
  ·obtain⟨n,e⟩:=lp.kp.2 b hb;exact⟨n,kp6.1 _ _ z e⟩
 obtain⟨k6,ys,e6,q6⟩:=lp.step hP hpn k56;have up:∀{b:Addr}{o:HO},¬A1 b->H6 b=some o->upd H6 p (.lst (ys++[v])) b=some o:=λ{b o} n e=>by rw[JX (λz=>n (by rw[z];exact hpA))];exact e
 refine⟨ys,e6,by rw[q6.length];exact hl,hk e he _ ⟨⟨λb o n e=>?_,λb hb=>?_⟩,ys++[v],Jm,DAs.app (q6.mv (λ_ _=>up) λa z=>.inl z) (.cons (DA.mv dv (λa o n e=>up (λz=>n (.inl z)) e) λa z=>.inl (.inl z)) .nil)⟩ λb o n e=>up n (kp6.1 b o (λz=>n (hP b (pots b z))) e)⟩
 ·rw[JX (λz=>by rw[z,hp1] at e;cases e)];exact k6.1 b o n e
 ·rw[JX (λz=>hpn (by rw[<- z];exact hb))];exact k6.2 b hb
def Qks:Nat:=1000000
@[irreducible] def InR(items2:List Qa)(wg2:DG)(wt2:DT)(we:DE)(δ4:Sts)(acc:List Qa)(N:List Qa->Prop):Prop:=∃Jv:Nat->List Qa->Prop,Jv 0 acc /\
 (∀(j:Nat) acc2 d2,items2[j]? = some d2->Jv j acc2->acc2.length<Qks/\wg2 d2 δ4 λδ5=>wt2 δ5 (λb=>if b=true then we δ5 (λe=>Jv (j+1) (acc2++[e])) XF else Jv (j+1) acc2) XF)/\∀acc2,Jv items2.length acc2->N acc2
@[irreducible] def QeZ(items:List Qa)(wg:DG)(wt:DT)(wi2:DI)(wg2:DG)(wt2:DT)(we:DE)(δ:Sts)(Q:Qa->Prop):Prop:=∃Iv:Nat->List Qa->Prop,Iv 0 [] /\
 (∀(i:Nat) acc d,items[i]? = some d->Iv i acc->wg d δ λδ4=>wt δ4 (λb=>if b=true then wi2 δ4 (λitems2=>InR items2 wg2 wt2 we δ4 acc (Iv (i+1))) XF else Iv (i+1) acc) XF)/\∀acc,Iv items.length acc->Q (.list acc)
def QjO(cap:List (Option Nat))(wi:DI)(wg:DG)(wt:DT)(wi2:DI)(wg2:DG)(wt2:DT)(we:DE):DE:=λδ Q EX=>wi δ (λitems=>QeZ items wg wt wi2 wg2 wt2 we (QdZ cap δ) Q) EX
section
variable{X:Cx}{E:XK}
theorem Qjz:Qks<=sizeLine:=Jc (by decide) Qgq
theorem Qo3{M:List Str}{cap:List (Option Nat)}{elt tg iter tg2 iter2:Q2}{ifs ifs2:List Q2}{scope:Yp}{pos:Pos}{ix ix2:List Nat}{wi wi2:DI}{wg wg2:DG}{wt wt2:DT}{we:DE}(gok:GOk wg)(hc:X.calm=true)(ok:QcC X.N X.env.scope M scope cap=true)(hf:Qa4 cap ix=true)(hf2:Qa4 cap ix2=true)(hd:ix2.all (λi => !ix.contains i)=true)
  (hi:PI X tg iter (tI .P X.K E wi))(hb:∀cl ex s3 H3 C,PG (blk X M scope cl ex s3 H3 C) tg (tG ix X.K wg)/\PTs (blk X M scope cl ex s3 H3 C) ifs (tT X.K E0 wt)/\PI (blk X M scope cl ex s3 H3 C) tg2 iter2 (tI .D X.K E0 wi2)/\PG (blk X M scope cl ex s3 H3 C) tg2 (tG ix2 X.K wg2)/\PTs (blk X M scope cl ex s3 H3 C) ifs2 (tT X.K E0 wt2)/\PE (blk X M scope cl ex s3 H3 C) elt (tX .D X.K E0 we))
  (hs:∀x,foldedSetIterable iter X.env x=pure x:=by intro _;rfl)(hs2:∀env x,foldedSetIterable iter2 env x=pure x:=by intro _ _;rfl):PE X (.ListComp elt [⟨tg,iter,ifs,0⟩,⟨tg2,iter2,ifs2,0⟩] scope pos) (tX .F X.K E (QjO cap wi wg wt wi2 wg2 wt2 we)):=by
 refine PE.imp (QlZ hc ok hi hb hs hs2) λσ H Q ⟨F,δ,R,EX,rel,hw,k,o⟩=>?_
 refine⟨F,δ,_,EX,rel,hw,λitems hC J H1 rel1 kp1 ⟨ln,it⟩ p hp=>?_,o⟩;unfold QeZ at hC;obtain⟨Iv,i0,step,fin⟩:=hC;have hpn:¬Z3 σ δ p:=λz=>by obtain⟨xs,e⟩:=rel1.isl (Yy (F:=F) z);rw[hp] at e;cases e
 let A1:Addr->Prop:=λa=>Av F σ δ a∨a=p
 have hP:∀a,Z3 σ δ a->A1 a:=λa z=>.inl (Yy z)
 have hN:∀a,A1 a->Av F σ δ a∨H1 a=none:=λa z=>z.elim .inl λz=>.inr (by rw[z];exact hp)
 have dmK:∀{H2:Hp},Kp σ δ H1 H2->(∃ys,H2 p=some (.lst ys))->∀a,A1 a->∃xs,H2 a=some (.lst xs):=λ{H2} k2 e2 a z=>by
  rcases z with z | z
  ·exact(rel1.kp k2).isl z
  ·rw[z];exact e2
 refine Qb1 items.length (λi H2=>i<=items.length/\∃acc,Iv i acc/\Lp σ δ A1 p H1 H2 acc) ⟨Qv _,[],i0,Kp.same rel1 (Jk hp),[],Jm,.nil⟩ (λi H2 hi ⟨_,acc,iv,lp⟩=>?_) λH2 ⟨_,acc,iv,lp⟩=>?_
 ·obtain⟨k2,ys,e2,q2⟩:=lp;obtain⟨go,_⟩:=it H2 A1 (λb o n e=>k2.1 b o n e) hN (dmK k2 ⟨ys,e2⟩);have hd':items[i]? = some items[i]:=Ql hi;obtain⟨g1,g2⟩:=go i _ hd';refine⟨g1,λx H3 y kk hk=>?_⟩;obtain⟨s3,dx⟩:=g2 x H3 y;have k23:=Kp.same (rel1.kp k2) s3;have lp3:Lp σ δ A1 p H1 H3 acc:=Lp.step hP hpn ⟨k2,ys,e2,q2⟩ k23;refine Qi6 gok hf rel1 (λa z=>.inl z) hN (dmK lp3.kp ⟨ys,s3 _ _ e2⟩) lp3.kp dx (step i acc _ hd' iv) (λσ4 δ4 H5 h5 r5 k5 j4 l4 g4=>?_) λh5 H5 k5=>hk _ ⟨hi,acc,h5,lp3.step hP hpn k5⟩
  have av4:∀{H:Hp}{a:Addr},Av (inF A1 cap σ δ H) σ4 δ4 a->A1 a:=λ{H a} z=>QmX hP hf j4 g4 z
  refine⟨inF A1 cap σ δ H3,δ4,_,XF,r5,h5,λitems2 hJ J2 H7 rel7 kp7 ⟨ln2,it2⟩=>?_,Qhl⟩;unfold InR at hJ;obtain⟨Jv,z0,step2,fin2⟩:=hJ;have pots4:∀{b:Addr},Z3 σ4 δ4 b->Z3 σ δ b:=λ{b} z=>by
   obtain⟨j,z1,z2⟩:=z;rcases g4 j _ z2 with⟨e,z⟩ | z
   ·cases z
   ·exact Qb6 ⟨j,by rw[<- j4 j (Qc2 hf z (λz=>by cases z))];exact z1,z⟩
  have k57:Kp σ δ H5 H7:=by
   refine⟨λb o n e=>kp7.1 b o (λz=>n (pots4 z)) e,λb hb=>?_⟩;by_cases z:Z3 σ4 δ4 b
   ·exact kp7.2 b z
   ·obtain⟨n,e⟩:=k5.2 b hb;exact⟨n,kp7.1 _ _ z e⟩
  refine Qb1 items2.length (λj H8=>j<=items2.length/\∃acc2,Jv j acc2/\Lp σ δ A1 p H1 H8 acc2/\∀b o,¬A1 b->H7 b=some o->H8 b=some o) ⟨Qv _,acc,z0,(lp3.step hP hpn k5).step hP hpn k57,λ_ _ _ e=>e⟩ (λj H8 hj ⟨_,acc2,jv,lp8,s78⟩=>?_) λH8 ⟨_,acc2,jv,lp8,s78⟩=>?_
  ·obtain⟨ys8,e8,q8⟩:=lp8.at_;obtain⟨go2,_⟩:=it2 H8 A1 (λb o n e=>s78 b o (λz=>n (.inl z)) e) (λb z=>.inl (.inl z)) (dmK lp8.kp ⟨ys8,e8⟩);have hd2:items2[j]? = some items2[j]:=Ql hj;obtain⟨g3,g5⟩:=go2 j _ hd2;refine⟨g3,λx2 H9 y2 kk2 hk2=>?_⟩;obtain⟨s9,dx2⟩:=g5 x2 H9 y2;have k89:=Kp.same (rel1.kp lp8.kp) s9;have lp9:Lp σ δ A1 p H1 H9 acc2:=lp8.step hP hpn k89;have ri:=QjD (cap:=cap) rel1 (λa z=>.inl z) hN (dmK lp9.kp ⟨ys8,s9 _ _ e8⟩) lp9.kp;have r9:=QmV hP hf j4 g4 ri r5 λa o n e=>s9 _ _ (s78 a o n (k57.1 a o (λz=>n (hP a z)) e))
   obtain⟨hl2,hw2⟩:=step2 j acc2 _ hd2 jv;refine⟨inF A1 cap σ δ H9,δ4,_,_,r9,dx2.mv (λ_ _ _ e=>e) λa z=>.inl (av4 z),hw2,λδ5 h6 σ5 r10 st5 l5 j5=>⟨Qk7 l5 λi v e=>?_,inF A1 cap σ δ H9,δ5,_,XF,r10,h6,λb hb H10 r11 kp11=>?_,Qhl⟩⟩
   ·by_cases z:i∈ix2
    ·have n1:i∉ix:=λz2=>by
      have:=Q4.mp hd i z;simp[z2] at this
     rw[j4 i n1] at e;rcases Qem e with⟨_,e2⟩ | ⟨j,hj2,_⟩
     ·cases e2
     ·rw[QiH hf2 z] at hj2;cases hj2
    ·rw[j5 i z];exact e
   ·have pots:∀{b:Addr},Z3 σ5 δ5 b->Z3 σ δ b:=λz=>Qgw r10 (λb o _ e1 e2=>by rw[e2] at e1;cases e1) z
    have K10:Kp σ δ H9 H10:=by
     refine⟨λb o n e=>kp11.1 b o (λz=>n (pots z)) e,λb hb=>?_⟩;by_cases z:Z3 σ5 δ5 b
     ·exact kp11.2 b z
     ·obtain⟨n,e⟩:=lp9.kp.2 b hb;exact⟨n,kp11.1 _ _ z e⟩
    have s710:∀b o,¬A1 b->H7 b=some o->H10 b=some o:=λb o n e=>K10.1 b o (λz=>n (hP b z)) (s9 _ _ (s78 b o n e))
    refine Qcs hb (λz=>?_) λz=>hk2 _ ⟨hj,acc2,z,lp9.step hP hpn K10,s710⟩
    exact Qm7 (.inr rfl) hP hp hpn (lp9.step hP hpn K10) (QL hl2 Qjz) r11 (λb=>pots) z λe he H' lp' kk'=>hk2 _ ⟨hj,acc2++[e],he,lp',λb o n e=>kk' b o n (s710 b o n e)⟩
  ·obtain⟨ys8,e8,q8⟩:=lp8.at_;obtain⟨_,st2⟩:=it2 H8 A1 (λb o n e=>s78 b o (λz=>n (.inl z)) e) (λb z=>.inl (.inl z)) (dmK lp8.kp ⟨ys8,e8⟩);exact⟨st2,hk _ ⟨hi,acc2,fin2 acc2 jv,lp8⟩⟩
 ·obtain⟨k2,ys,e2,q2⟩:=lp;obtain⟨_,st⟩:=it H2 A1 (λb o n e=>k2.1 b o n e) hN (dmK k2 ⟨ys,e2⟩);refine⟨st,k _ (fin acc iv) (.ref p) H2 (rel1.kp k2) (kp1.trans k2) ⟨.lst (λz=>?_) e2 (q2.mv (λ_ _ _ e=>e) λa z=>.inl (.inl z)),λl e1 _=>?_⟩⟩
  ·obtain⟨xs,e⟩:=rel1.isl z;rw[hp] at e;cases e
  ·cases e1;exact Qbl kp1 hp
end
section
variable{X:Cx}{E:XK}
theorem QlL(M:List Str)(cap:List (Option Nat)){elt tg iter tg2 iter2:Q2}{ifs ifs2:List Q2}{scope:Yp}{pos:Pos}{ix ix2:List Nat}{wi wi2:DI}{wg wg2:DG}{wt wt2:DT}{we:DE}(gok:GOk wg)(hi:QI .P X E tg iter wi)(hb:∀cl ex s3 H3 C,QG ix (blk X M scope cl ex s3 H3 C) tg wg/\QTs (blk X M scope cl ex s3 H3 C) E0 ifs wt/\QI .D (blk X M scope cl ex s3 H3 C) E0 tg2 iter2 wi2/\QG ix2 (blk X M scope cl ex s3 H3 C) tg2 wg2/\QTs (blk X M scope cl ex s3 H3 C) E0 ifs2 wt2/\QE .D (blk X M scope cl ex s3 H3 C) E0 elt we)(hc:X.calm=true:=by rfl)(ok:QcC X.N X.env.scope M scope cap=true:=by rfl)(hf:Qa4 cap ix=true:=by rfl)(hf2:Qa4 cap ix2=true:=by rfl)(hd:ix2.all (λi => !ix.contains i)=true:=by rfl)(hs:∀x,foldedSetIterable iter X.env x=pure x:=by intro _;rfl)(hs2:∀env x,foldedSetIterable iter2 env x=pure x:=by intro _ _;rfl) :
  QE .F X E (.ListComp elt [⟨tg,iter,ifs,0⟩,⟨tg2,iter2,ifs2,0⟩] scope pos) (QjO cap wi wg wt wi2 wg2 wt2 we):=⟨Qo3 gok hc ok hf hf2 hd hi.h (λcl ex s3 H3 C=>⟨(hb cl ex s3 H3 C).1.h,(hb cl ex s3 H3 C).2.1.h,(hb cl ex s3 H3 C).2.2.1.h,(hb cl ex s3 H3 C).2.2.2.1.h,(hb cl ex s3 H3 C).2.2.2.2.1.h,(hb cl ex s3 H3 C).2.2.2.2.2.h⟩) hs hs2⟩
end
theorem Qwz{items:List Qa}{wg wg2:DG}{wt wt2:DT}{wi2:DI}{we:DE}{δ:Sts}{Q:Qa->Prop}(G:Qa->List Qa)(hl:(items.flatMap G).length<Qks)
  (h:∀d∈items,∀(acc:List Qa)(N:List Qa->Prop),acc.length+(G d).length<Qks->N (acc++G d)->wg d δ λδ4=>wt δ4 (λb=>if b=true then wi2 δ4 (λitems2=>InR items2 wg2 wt2 we δ4 acc N) XF else N acc) XF)(q:Q (.list (items.flatMap G))) :
  QeZ items wg wt wi2 wg2 wt2 we δ Q:=by
 unfold QeZ;refine⟨λi acc=>acc=(items.take i).flatMap G,by simp,λi acc d hd e=>?_,λacc e=>by rw[e,J5];exact q⟩;have e:acc=(items.take i).flatMap G:=e;have hs:(items.take (i+1)).flatMap G=(items.take i).flatMap G++G d:=by
  rw[JV,hd,ZV];simp
 refine h d (QM hd) acc _ ?_ (by show acc++G d=_;rw[hs,e])
 have h1:(items.flatMap G).length=((items.take (i+1)).flatMap G).length+((items.drop (i+1)).flatMap G).length:=by
  rw[<- Qd,<- ZV,Jw]
 rw[hs,<- e,Qd] at h1;omega
theorem Qyn{items2:List Qa}{wg2:DG}{wt2:DT}{we:DE}{δ4:Sts}{acc:List Qa}{N:List Qa->Prop}(G:Qa->Option Qa)(hl:acc.length+items2.length<Qks)
  (h:∀d∈items2,∀(k1:Prop)(k2:Qa->Prop),(G d=none->k1)->(∀e,G d=some e->k2 e)->wg2 d δ4 λδ5=>wt2 δ5 (λb=>if b=true then we δ5 k2 XF else k1) XF)(q:N (acc++items2.filterMap G)) :
  InR items2 wg2 wt2 we δ4 acc N:=by
 unfold InR;refine⟨λi acc2=>acc2=acc++(items2.take i).filterMap G,by simp,λi acc2 d hd e=>?_,λacc2 e=>by rw[e,J5];exact q⟩;have e:acc2=acc++(items2.take i).filterMap G:=e;have hs:(items2.take (i+1)).filterMap G=(items2.take i).filterMap G++(G d).toList:=by
  rw[JV,hd,QkR];cases e2:G d<;>simp[e2]
 refine⟨?_,h d (QM hd) _ _ (λe2=>?_) λe' e2=>?_⟩
 ·have:=List.length_filterMap_le G (items2.take i);have h2:(items2.take i).length<=items2.length:=by rw[Jo];exact QfR _ _
  rw[e,Qd];omega
 ·show acc2=acc++(items2.take (i+1)).filterMap G;rw[hs,e2,e];simp
 ·show acc2++[e']=acc++(items2.take (i+1)).filterMap G;rw[hs,e2,e];simp
theorem QmW{items2:List Qa}{wg2:DG}{we:DE}{δ4:Sts}{acc:List Qa}{N:List Qa->Prop}(G:Qa->Qa)(hl:acc.length+items2.length<Qks)
  (h:∀d∈items2,∀(k2:Qa->Prop),k2 (G d)->wg2 d δ4 λδ5=>we δ5 k2 XF)(q:N (acc++items2.map G)):InR items2 wg2 QrU we δ4 acc N:=by
 refine Qyn (λd=>some (G d)) hl (λd hd k1 k2 _ h2=>?_) (by rw[show items2.filterMap (λd=>some (G d))=items2.map G from by rw[<- List.filterMap_eq_map];rfl];exact q);have hh:=h d hd k2 (h2 _ rfl);simp only[QrU,if_true];exact hh
def QlB:List V->Hp->VK->Prop:=λxs H Q=>∃l ns,xs=[.ref l]/\H l=some (.lst ((ns:List Int).map V.int))/\ns.length<64 /\
 ∀t ms H2,Same H H2->H t=none->H2 t=some (.lst ((ms:List Int).map V.int))->ms.Perm ns->ms.Pairwise (·<=·)->Q (.ref t) H2
section
open Rs PySem.W PySem.Calls
variable{X:Cx}
theorem QiR:CallR X (.builtin "sorted") QlB:=by
 intro pins s σ H xs us Q I r h;obtain⟨l,ns,rfl,hl,h64,q⟩:=h;obtain⟨u,rfl,ru⟩:=vals1 r;cases ru;obtain⟨hz,its,n,rv,ho⟩:=I.hok l _ hl;have li:=rv.length;rw[Qe] at li;refine QdL (.inl rfl) ho rfl rfl (by omega) λh' kp P E' hP=>?_
 have hn:(h'.push (seqObj "list" its.toArray 0)).get? h'.objs.size=some (seqObj "list" its.toArray 0):=QP _ rfl;refine list_sort_tree (s:={ s with heap:=h'.push (seqObj "list" its.toArray 0) }) hn (Qgv rv) (by omega) λout ns' ia pm pw=>hP _ ?_
 have I1:Inv X pins σ H { s with heap:=h' }:=I.kept (t':=s.toks) kp;have hf:H h'.objs.size=none:=I1.hok.fresh (Qk _);obtain⟨e,he⟩:∃e,(sortedHeap (h'.push (seqObj "list" its.toArray 0)) h'.objs.size its out).get? h'.objs.size=some (seqObj "list" out e):=sortedHeap_at hn
 have rv':=QgI ia;have lp:=pm.length_eq;have I2:Inv X pins σ (upd H h'.objs.size (.lst (ns'.map V.int))) { s with heap:=sortedHeap (h'.push (seqObj "list" its.toArray 0)) h'.objs.size its out }:=
  I1.laid (t':=s.toks) (λb x e'=>(sortedHeap_old (QJ (Qs e')) (QL (Qs e') (by rw[size_push'];exact Nat.le_succ _))).trans (Qf _ e')) (Qk _) (show ObjOk X.prog X.w _ _ _ (.lst _) from⟨by rw[Qe];exact Z5 (Rk.Qbk (by omega)),out.toList,e,rv',by rw[he]⟩)
 exact⟨.ref h'.objs.size,_,I2,rfl,q _ ns' _ (Jk hf) hf Jm pm pw⟩
def Qrn(K:PySem.W.Frag):List V->Hp->VK->Prop:=λxs H Q=>Qrm K xs H Q∨QlB xs H Q
theorem QdF:CallR X (.builtin "sorted") (Qrn X.K):=by
 intro pins s σ H xs us Q I r h;rcases h with h | h
 ·exact QkJ pins s σ H xs us Q I r h
 ·exact QiR pins s σ H xs us Q I r h
end
@[irreducible] def Qll:List Qa->(Qa->Prop)->Prop
 |[.list ds],Q=>∃ns,Qb8 ds=some ns/\ns.length<64/\∀ms:List Int,ms.Perm ns->ms.Pairwise (·<=·)->Q (.list (ms.map .int))
 |[.tuple ds],Q=>∃ns,Qb8 ds=some ns/\ns.length<64/\∀ms:List Int,ms.Perm ns->ms.Pairwise (·<=·)->Q (.list (ms.map .int))
 |_,_=>False
theorem Qgu{A:Addr->Prop}{H:Hp}:∀ms:List Int,DAs A H (ms.map V.int) (ms.map .int)
 |[]=>.nil
 |m::ms=>.cons (.int m) (Qgu ms)
theorem QiP{K:PySem.W.Frag}:QdI (Qrn K) Qll:=λA P H vs ds R Q ln dm q h k=>by
 unfold Qll at h;split at h
 ·obtain⟨v,rfl,hv⟩:=pd1 q;obtain⟨bs,hb,h64,hR⟩:=h;rw[Qgt hb] at hv;obtain⟨l,xs,rfl,e,qq⟩:=hv.list;rw[Qej qq] at e;exact .inr ⟨l,bs,rfl,e,h64,λt ms H2 s n e2 pm pw=>k _ (hR ms pm pw) _ H2 s (Qc1 dm s n e2 (Qgu ms)) (QaS n)⟩
 ·obtain⟨v,rfl,hv⟩:=pd1 q;obtain⟨bs,hb,h64,hR⟩:=h;rw[Qgt hb] at hv;obtain⟨l,xs,rfl,e,qq⟩:=hv.tuple;rw[Qej qq] at e;exact .inl ⟨l,bs,rfl,SqT.of e,h64,λt ms H2 s n e2 pm pw=>k _ (hR ms pm pw) _ H2 s (Qc1 dm s n e2 (Qgu ms)) (QaS n)⟩
 ·exact h.elim
theorem Qie{ds:List Qa}{Q:Qa->Prop}{ns:List Int}(h:Qb8 ds=some ns)(h64:ns.length<64)(k:∀ms:List Int,ms.Perm ns->ms.Pairwise (·<=·)->Q (.list (ms.map .int))):Qll [.list ds] Q/\Qll [.tuple ds] Q:=by
 unfold Qll;exact⟨⟨ns,h,h64,k⟩,ns,h,h64,k⟩
def Qz1(a b:DI):DI:=λδ R EX=>a δ R EX∨b δ R EX
theorem QxZ{X:Cx}{E:XK}{m:Md}{tg e:Q2}{a b:DI}(h:QI m X E tg e a)(h':QI m X E tg e b):QI m X E tg e (Qz1 a b):=⟨λpins s σ H R I ⟨F,δ,R',EX,rel,hw,k,o⟩=>by
 rcases hw with hw | hw
 ·exact h.h pins s σ H R I ⟨F,δ,R',EX,rel,hw,k,o⟩
 ·exact h'.h pins s σ H R I ⟨F,δ,R',EX,rel,hw,k,o⟩⟩
end Dl
namespace PySem
namespace AutoSeq1
open PyProof
set_option maxRecDepth 8000 in
theorem QkE(l:Addr)(items:Array Value)(n:Nat)(b:Addr)(items2:Array Value)(n2:Nat)(dc:Option Addr)(sl:Array (Option Value))(hs0:¬(!items.isEmpty&&Zx (items.size+items2.size))=true)(hs1:items.size<=sizeLine)(hs2:items.size+items2.size<=sizeLine+1) :
  Meets (QcQ.«list.extend» ⟨[.ref l,.ref b],[]⟩) (λ_ R s=>s.heap.get? l=some { cls:=.type "list",dict:=none,data:=.seq items n,slots:=#[] }/\s.heap.get? b=some { cls:=.type "tuple",dict:=dc,data:=.seq items2 n2,slots:=sl }/\R (.ok (.ret ZH)) { s with heap:=s.heap.update l (Yg λx=>x++items2),toks:=s.toks }):=
 .of_wp λprog w A R s h=>by
  obtain⟨hp,g,d,tk,os⟩:=s;obtain⟨hl,hb,h⟩:=h;have f1:=idx_int;have f2:=sub_tuple_tuple;have f3:=sub_list_list;have f4:=sub_tuple_list;have f5:=sub_list_tuple;have hz':(items++items2).size<=sizeLine+1:=by rw[Array.size_append];exact hs2
  wp_walk using (wpAny_updateSeq hl rfl (hz:=hs1) (_hz':=hz')),QdQ hl,QdQ hb;exact⟨_,rfl,h⟩
end AutoSeq1
end PySem
namespace L2
def Qjj:V->List V->Hp->VK->Prop:=λx vs H Q=>∃l b xs zs,x=.ref l/\vs=[.ref b]/\H l=some (.lst xs)/\H b=some (.tup zs)/\xs.length+zs.length<=sizeLine/\Q .non (upd H l (.lst (xs++zs)))
theorem Qko{X:Cx}:MtM X "list.extend" Qjj:=by
 intro pins s σ H x vs v us Q I rx rv h;obtain⟨l,b,xs,zs,rfl,rfl,hH,hB,hz,q⟩:=h;cases rx;obtain⟨u,rfl,ru⟩:=rv.one;cases ru;obtain⟨z,its,n,r,hl,e⟩:=I.lstM hH;obtain⟨z2,its2,r2,⟨cls,dc,dt,sl⟩,e2,hc,n2,hd⟩:=I.hok b _ hB;cases(show cls=_ from hc);cases(show dt=_ from hd);have hl2:=r2.length;have hsz:its.toArray.size+its2.toArray.size<=sizeLine:=by rw[Qu,Qu];omega
 have hlong:¬(!its.toArray.isEmpty&&Zx (its.toArray.size+its2.toArray.size))=true:=by
  rw[Qgk hsz,Qdh];exact QF
 refine QbO Que ⟨_,e,rfl⟩ Qsb (Qp7 _ _)
  (AutoSeq1.QkE l its.toArray n b its2.toArray n2 dc sl hlong (by rw[Qu];omega) (by omega)) ⟨e,e2,?_⟩
 refine⟨.non,_,I.lset (its':=its++its2) hH e (by simp) (r.append r2) ?_,rfl,q⟩;rw[Qd];omega
end L2
namespace Dl
open L2 _root_.Rd Rk
section
variable{X:Cx}{E:XK}
def QtV(i:Nat)(we:DE):DS:=λD δ=>match δ[i]? with
 |some (.own ds)=>we δ (λd=>match d with
  |.tuple es=>ds.length+es.length<=1000000/\D.nx (δ.set i (.own (ds++es)))
  |_=>False) D.ex
 |_=>False
theorem QoS{i:Nat}{we:DE}{st:Z4}(h:PS X st (Qlb (tBM X.K "list" Qjj (QhW i) (Qew (tX .P X.K E we) Qrb)))):PS X st (tS X.K E (QtV i we)):=by
 refine PS.imp h λD σ H ⟨F,δ,DD,rel,hw,en⟩=>?_
 unfold QtV at hw;split at hw
 ·rename_i ds hd
  obtain⟨x,hx⟩:=rel.lt hd;obtain⟨l,xs,rfl,e,q,f⟩:=rel.sl i _ _ hx hd;have np:=rel.own_pot hd hx;refine⟨.ref l,hx,.inl ⟨rfl,_,SqL.of e⟩,F,δ,_,DD.ex,rel,hw,λd hd2 v H' rel' kp vk=>?_,en.ex⟩;cases d<;>first | exact(show False from hd2).elim | skip
  obtain⟨hl,hn⟩:=hd2;obtain⟨l2,ys,rfl,e2,q2⟩:=DP.tuple vk;have q':=kp.das q;refine⟨l,l2,xs,ys,rfl,rfl,kp.1 _ _ np e,e2,Jc (by rw[q.length,q2.length];exact hl) Qgq,?_⟩;obtain⟨r2,st⟩:=rel'.mut hd hx (q'.app q2);exact en.nx.go _ hn _ _ r2 ((Stp.kp kp).trans st)
 ·exact hw.elim
theorem QlH{y:Str}{e:Q2}{we:DE}{apos cpos pos npos:Pos}(i:Nat)(he:QE .P X E e we)(hN:X.N[i]? = some y:=by rfl)(hv:Vis X.env.scope y:=by first | exact QZ rfl | exact Q8 (QZ rfl) | exact Q8 (Q8 rfl))(hd:(y == ("__debug__" : Str))=false:=by decide)(hcd:(y == ("__classdict__" : Str))=false:=by decide)(hst:notStar e=true:=by rfl)(hbase:attributeBase (.Name y npos) "extend" X.env (eval (.Name y npos) X.env)=eval (.Name y npos) X.env:=by rfl)(hfew:((backTo cpos (starEach [e] X.env)).all (λx => !x.1)&&(backToKw cpos (keywordEach [] X.env)).all (λx=>x.1.isSome)&&decide ([e].length+([]:List Qe9).length+(if([]:List Qe9).isEmpty then 0 else 1)<30))=true:=by rfl)(hline:(apos.endLine == cpos.line)=true:=by rfl)(hsw:swapsWith (.Call (.Attribute (.Name y npos) "extend" apos) [e] [] cpos) none pos.line X.env=pure false:=by rfl):QS X E (.Expr (.Call (.Attribute (.Name y npos) "extend" apos) [e] [] cpos) pos) (QtV i we):=⟨QoS (Qgg (Ql0 PySem.F.plainAttrs_list PySem.F.slot_list_extend PySem.F.type_list_extend Qko (pv i hN hv hd hcd) (Qdt he.h J4 hst) hbase hfew hline (Yj hst) rfl) hsw)⟩
end
theorem QhD{K:PySem.W.Frag}{E:XK}{cap:List (Option Nat)}{ix:List Nat}{wi:DI}{wg:DG}{wt:DT}{we:DE}(hf:Qa4 cap ix=true)(σ:L2.St)(H:Hp)(Q:VK)(h:tX .F K E (dComp cap wi wg wt we) σ H Q) :
  tComp cap (tI .P K E wi) (tG ix K wg) (tT K E0 wt) (tX .D K E0 we) σ H Q:=by
 obtain⟨F,δ,R,EX,rel,hw,k,o⟩:=h;refine⟨F,δ,_,EX,rel,hw,λitems hC J H1 rel1 kp1 ⟨ln,it⟩ p hp=>?_,o⟩;unfold QiW at hC;obtain⟨Iv,i0,step,fin⟩:=hC;have hpn:¬Z3 σ δ p:=λz=>by obtain⟨xs,e⟩:=rel1.isl (Yy (F:=F) z);rw[hp] at e;cases e
 let A1:Addr->Prop:=λa=>Av F σ δ a∨a=p
 have hP:∀a,Z3 σ δ a->A1 a:=λa z=>.inl (Yy z)
 have hN:∀a,A1 a->Av F σ δ a∨H1 a=none:=λa z=>z.elim .inl λz=>.inr (by rw[z];exact hp)
 have dmK:∀{H2:Hp},Kp σ δ H1 H2->(∃ys,H2 p=some (.lst ys))->∀a,A1 a->∃xs,H2 a=some (.lst xs):=λ{H2} k2 e2 a z=>by
  rcases z with z | z
  ·exact(rel1.kp k2).isl z
  ·rw[z];exact e2
 refine Qb1 items.length (λi H2=>i<=items.length/\∃acc,Iv i acc/\acc.length<=i/\Lp σ δ A1 p H1 H2 acc) ⟨Qv _,[],i0,Qk _,Kp.same rel1 (Jk hp),[],Jm,.nil⟩ (λi H2 hi ⟨_,acc,iv,hl,lp⟩=>?_) λH2 ⟨_,acc,iv,hl,lp⟩=>?_
 ·obtain⟨k2,ys,e2,q2⟩:=lp;obtain⟨go,_⟩:=it H2 A1 (λb o n e=>k2.1 b o n e) hN (dmK k2 ⟨ys,e2⟩);have hd:items[i]? = some items[i]:=Ql hi;obtain⟨g1,g2⟩:=go i _ hd;refine⟨g1,λx H3 y kk hk=>?_⟩;obtain⟨s3,dx⟩:=g2 x H3 y;have k23:=Kp.same (rel1.kp k2) s3;have lp3:Lp σ δ A1 p H1 H3 acc:=Lp.step hP hpn ⟨k2,ys,e2,q2⟩ k23;refine Qh9 hf rel1 (λa z=>.inl z) hN (dmK lp3.kp ⟨ys,s3 _ _ e2⟩) lp3.kp dx (step i acc _ hd iv) (λσ4 δ4 H5 h5 r5 k5 pots=>?_) λh5 H5 k5=>hk _ ⟨hi,acc,h5,by omega,lp3.step hP hpn k5⟩
  exact QrQ (.inr rfl) hP hp hpn (lp3.step hP hpn k5) (by omega) r5 pots h5 λe he H' lp'=>hk _ ⟨hi,acc++[e],he,by rw[Qd];show _+1<=_;omega,lp'⟩
 ·obtain⟨k2,ys,e2,q2⟩:=lp;obtain⟨_,st⟩:=it H2 A1 (λb o n e=>k2.1 b o n e) hN (dmK k2 ⟨ys,e2⟩);refine⟨st,k _ (fin acc iv) (.ref p) H2 (rel1.kp k2) (kp1.trans k2) ⟨.lst (λz=>?_) e2 (q2.mv (λ_ _ _ e=>e) λa z=>.inl (.inl z)),λl e1 _=>?_⟩⟩
  ·obtain⟨xs,e⟩:=rel1.isl z;rw[hp] at e;cases e
  ·cases e1;exact Qbl kp1 hp
theorem Qy5{K:PySem.W.Frag}{E:XK}{w:DE}(σ:L2.St)(H:Hp)(Q:VK)(h:tX .D K E w σ H Q):tX .F K E w σ H Q:=by
 obtain⟨F,δ,R,EX,rel,hw,k,o⟩:=h;exact⟨F,δ,R,EX,rel,hw,λd hd v H' r kp vk=>k d hd v H' r kp vk.1,o⟩
section
variable{X:Cx}{E:XK}
theorem Qov(M:List Str)(cap:List (Option Nat))(i:Nat){elt tg iter:Q2}{ifs:List Q2}{scope:Yp}{pos py spos:Pos}{y:Str}{ix:List Nat}{wi:DI}{wg:DG}{wt:DT}{we:DE}(hN:X.N.Nodup)(hi:QI .P X E tg iter wi)(hb:∀cl ex s3 H3 C,QG ix (blk X M scope cl ex s3 H3 C) tg wg/\QTs (blk X M scope cl ex s3 H3 C) E0 ifs wt/\QE .D (blk X M scope cl ex s3 H3 C) E0 elt we)(hiy:X.N[i]? = some y:=by rfl)(hly:X.env.scope.names.lookup y=some .local:=by rfl)(hc:X.calm=true:=by rfl)(ok:QcC X.N X.env.scope M scope cap=true:=by rfl)(hf:Qa4 cap ix=true:=by rfl)(hs:∀x,foldedSetIterable iter X.env x=pure x:=by intro _;rfl)(hsw:swapsWith (.ListComp elt [⟨tg,iter,ifs,0⟩] scope pos) (some (.Name y py)) spos.line X.env=pure true:=by rfl):QS X E (.Assign [.Name y py] (.ListComp elt [⟨tg,iter,ifs,0⟩] scope pos) spos) (QtT i (dComp cap wi wg wt we)):=
 ⟨Qjs (PS.imp (Qjp hN hiy hly hc ok hi.h (λcl ex s3 H3 C=>⟨(hb cl ex s3 H3 C).1.h,(hb cl ex s3 H3 C).2.1.h,(hb cl ex s3 H3 C).2.2.h⟩) hs hsw) λD σ H q=>QhD (E:=E) hf σ H _ q)⟩
theorem Qij(M:List Str)(cap:List (Option Nat))(i:Nat){elt tg iter:Q2}{ifs:List Q2}{scope:Yp}{pos py spos:Pos}{y:Str}{ix:List Nat}{wi:DI}{wg:DG}{wt:DT}{we:DE}(hN:X.N.Nodup)(hi:QI .P X E tg iter wi)(hb:∀cl ex s3 H3 C,QG ix (blk X M scope cl ex s3 H3 C) tg wg/\QTs (blk X M scope cl ex s3 H3 C) E0 ifs wt/\QE .D (blk X M scope cl ex s3 H3 C) E0 elt we)(hiy:X.N[i]? = some y:=by rfl)(hly:X.env.scope.names.lookup y=some .local:=by rfl)(hc:X.calm=true:=by rfl)(ok:QcC X.N X.env.scope M scope cap=true:=by rfl)(hf:Qa4 cap ix=true:=by rfl)(hs:∀x,foldedSetIterable iter X.env x=pure x:=by intro _;rfl)(hsw:swapsWith (.ListComp elt [⟨tg,iter,ifs,0⟩] scope pos) (some (.Name y py)) spos.line X.env=pure true:=by rfl):QS X E (.Assign [.Name y py] (.ListComp elt [⟨tg,iter,ifs,0⟩] scope pos) spos) (Qw6 i (dComp cap wi wg wt we)):=
 ⟨Qim (PS.imp (PS.imp (Qjp hN hiy hly hc ok hi.h (λcl ex s3 H3 C=>⟨(hb cl ex s3 H3 C).1.h,(hb cl ex s3 H3 C).2.1.h,(hb cl ex s3 H3 C).2.2.h⟩) hs hsw) λD σ H q=>QhD (E:=E) hf σ H _ q) λD σ H q=>Qy5 σ H _ q)⟩
end
theorem QkI{K:PySem.W.Frag}{E:XK}{cap:List (Option Nat)}{ix ix2:List Nat}{wi wi2:DI}{wg wg2:DG}{wt wt2:DT}{we:DE}(gok:GOk wg)(hf:Qa4 cap ix=true)(hf2:Qa4 cap ix2=true)(hd:ix2.all (λi => !ix.contains i)=true)(σ:L2.St)(H:Hp)(Q:VK)(h:tX .F K E (QjO cap wi wg wt wi2 wg2 wt2 we) σ H Q) :
  Qlc cap (tI .P K E wi) (tG ix K wg) (tT K E0 wt) (tI .D K E0 wi2) (tG ix2 K wg2) (tT K E0 wt2) (tX .D K E0 we) σ H Q:=by
 obtain⟨F,δ,R,EX,rel,hw,k,o⟩:=h;refine⟨F,δ,_,EX,rel,hw,λitems hC J H1 rel1 kp1 ⟨ln,it⟩ p hp=>?_,o⟩;unfold QeZ at hC;obtain⟨Iv,i0,step,fin⟩:=hC;have hpn:¬Z3 σ δ p:=λz=>by obtain⟨xs,e⟩:=rel1.isl (Yy (F:=F) z);rw[hp] at e;cases e
 let A1:Addr->Prop:=λa=>Av F σ δ a∨a=p
 have hP:∀a,Z3 σ δ a->A1 a:=λa z=>.inl (Yy z)
 have hN:∀a,A1 a->Av F σ δ a∨H1 a=none:=λa z=>z.elim .inl λz=>.inr (by rw[z];exact hp)
 have dmK:∀{H2:Hp},Kp σ δ H1 H2->(∃ys,H2 p=some (.lst ys))->∀a,A1 a->∃xs,H2 a=some (.lst xs):=λ{H2} k2 e2 a z=>by
  rcases z with z | z
  ·exact(rel1.kp k2).isl z
  ·rw[z];exact e2
 refine Qb1 items.length (λi H2=>i<=items.length/\∃acc,Iv i acc/\Lp σ δ A1 p H1 H2 acc) ⟨Qv _,[],i0,Kp.same rel1 (Jk hp),[],Jm,.nil⟩ (λi H2 hi ⟨_,acc,iv,lp⟩=>?_) λH2 ⟨_,acc,iv,lp⟩=>?_
 ·obtain⟨k2,ys,e2,q2⟩:=lp;obtain⟨go,_⟩:=it H2 A1 (λb o n e=>k2.1 b o n e) hN (dmK k2 ⟨ys,e2⟩);have hd':items[i]? = some items[i]:=Ql hi;obtain⟨g1,g2⟩:=go i _ hd';refine⟨g1,λx H3 y kk hk=>?_⟩;obtain⟨s3,dx⟩:=g2 x H3 y;have k23:=Kp.same (rel1.kp k2) s3;have lp3:Lp σ δ A1 p H1 H3 acc:=Lp.step hP hpn ⟨k2,ys,e2,q2⟩ k23;refine Qi6 gok hf rel1 (λa z=>.inl z) hN (dmK lp3.kp ⟨ys,s3 _ _ e2⟩) lp3.kp dx (step i acc _ hd' iv) (λσ4 δ4 H5 h5 r5 k5 j4 l4 g4=>?_) λh5 H5 k5=>hk _ ⟨hi,acc,h5,lp3.step hP hpn k5⟩
  have av4:∀{H:Hp}{a:Addr},Av (inF A1 cap σ δ H) σ4 δ4 a->A1 a:=λ{H a} z=>QmX hP hf j4 g4 z
  refine⟨inF A1 cap σ δ H3,δ4,_,XF,r5,h5,λitems2 hJ J2 H7 rel7 kp7 ⟨ln2,it2⟩=>?_,Qhl⟩;unfold InR at hJ;obtain⟨Jv,z0,step2,fin2⟩:=hJ;have pots4:∀{b:Addr},Z3 σ4 δ4 b->Z3 σ δ b:=λ{b} z=>by
   obtain⟨j,z1,z2⟩:=z;rcases g4 j _ z2 with⟨e,z⟩ | z
   ·cases z
   ·exact Qb6 ⟨j,by rw[<- j4 j (Qc2 hf z (λz=>by cases z))];exact z1,z⟩
  have k57:Kp σ δ H5 H7:=by
   refine⟨λb o n e=>kp7.1 b o (λz=>n (pots4 z)) e,λb hb=>?_⟩;by_cases z:Z3 σ4 δ4 b
   ·exact kp7.2 b z
   ·obtain⟨n,e⟩:=k5.2 b hb;exact⟨n,kp7.1 _ _ z e⟩
  refine Qb1 items2.length (λj H8=>j<=items2.length/\∃acc2,Jv j acc2/\Lp σ δ A1 p H1 H8 acc2/\∀b o,¬A1 b->H7 b=some o->H8 b=some o) ⟨Qv _,acc,z0,(lp3.step hP hpn k5).step hP hpn k57,λ_ _ _ e=>e⟩ (λj H8 hj ⟨_,acc2,jv,lp8,s78⟩=>?_) λH8 ⟨_,acc2,jv,lp8,s78⟩=>?_
  ·obtain⟨ys8,e8,q8⟩:=lp8.at_;obtain⟨go2,_⟩:=it2 H8 A1 (λb o n e=>s78 b o (λz=>n (.inl z)) e) (λb z=>.inl (.inl z)) (dmK lp8.kp ⟨ys8,e8⟩);have hd2:items2[j]? = some items2[j]:=Ql hj;obtain⟨g3,g5⟩:=go2 j _ hd2;refine⟨g3,λx2 H9 y2 kk2 hk2=>?_⟩;obtain⟨s9,dx2⟩:=g5 x2 H9 y2;have k89:=Kp.same (rel1.kp lp8.kp) s9;have lp9:Lp σ δ A1 p H1 H9 acc2:=lp8.step hP hpn k89;have ri:=QjD (cap:=cap) rel1 (λa z=>.inl z) hN (dmK lp9.kp ⟨ys8,s9 _ _ e8⟩) lp9.kp;have r9:=QmV hP hf j4 g4 ri r5 λa o n e=>s9 _ _ (s78 a o n (k57.1 a o (λz=>n (hP a z)) e))
   obtain⟨hl2,hw2⟩:=step2 j acc2 _ hd2 jv;refine⟨inF A1 cap σ δ H9,δ4,_,_,r9,dx2.mv (λ_ _ _ e=>e) λa z=>.inl (av4 z),hw2,λδ5 h6 σ5 r10 st5 l5 j5=>⟨Qk7 l5 λi v e=>?_,inF A1 cap σ δ H9,δ5,_,XF,r10,h6,λb hb H10 r11 kp11=>?_,Qhl⟩⟩
   ·by_cases z:i∈ix2
    ·have n1:i∉ix:=λz2=>by
      have:=Q4.mp hd i z;simp[z2] at this
     rw[j4 i n1] at e;rcases Qem e with⟨_,e2⟩ | ⟨j,hj2,_⟩
     ·cases e2
     ·rw[QiH hf2 z] at hj2;cases hj2
    ·rw[j5 i z];exact e
   ·have pots:∀{b:Addr},Z3 σ5 δ5 b->Z3 σ δ b:=λz=>Qgw r10 (λb o _ e1 e2=>by rw[e2] at e1;cases e1) z
    have K10:Kp σ δ H9 H10:=by
     refine⟨λb o n e=>kp11.1 b o (λz=>n (pots z)) e,λb hb=>?_⟩;by_cases z:Z3 σ5 δ5 b
     ·exact kp11.2 b z
     ·obtain⟨n,e⟩:=lp9.kp.2 b hb;exact⟨n,kp11.1 _ _ z e⟩
    have s710:∀b o,¬A1 b->H7 b=some o->H10 b=some o:=λb o n e=>K10.1 b o (λz=>n (hP b z)) (s9 _ _ (s78 b o n e))
    refine Qcs hb (λz=>?_) λz=>hk2 _ ⟨hj,acc2,z,lp9.step hP hpn K10,s710⟩
    exact Qm7 (.inr rfl) hP hp hpn (lp9.step hP hpn K10) (QL hl2 Qjz) r11 (λb=>pots) z λe he H' lp' kk'=>hk2 _ ⟨hj,acc2++[e],he,lp',λb o n e=>kk' b o n (s710 b o n e)⟩
  ·obtain⟨ys8,e8,q8⟩:=lp8.at_;obtain⟨_,st2⟩:=it2 H8 A1 (λb o n e=>s78 b o (λz=>n (.inl z)) e) (λb z=>.inl (.inl z)) (dmK lp8.kp ⟨ys8,e8⟩);exact⟨st2,hk _ ⟨hi,acc2,fin2 acc2 jv,lp8⟩⟩
 ·obtain⟨k2,ys,e2,q2⟩:=lp;obtain⟨_,st⟩:=it H2 A1 (λb o n e=>k2.1 b o n e) hN (dmK k2 ⟨ys,e2⟩);refine⟨st,k _ (fin acc iv) (.ref p) H2 (rel1.kp k2) (kp1.trans k2) ⟨.lst (λz=>?_) e2 (q2.mv (λ_ _ _ e=>e) λa z=>.inl (.inl z)),λl e1 _=>?_⟩⟩
  ·obtain⟨xs,e⟩:=rel1.isl z;rw[hp] at e;cases e
  ·cases e1;exact Qbl kp1 hp
section
variable{X:Cx}{E:XK}
theorem Qow(M:List Str)(cap:List (Option Nat))(i:Nat){elt tg iter tg2 iter2:Q2}{ifs ifs2:List Q2}{scope:Yp}{pos py spos:Pos}{y:Str}{ix ix2:List Nat}{wi wi2:DI}{wg wg2:DG}{wt wt2:DT}{we:DE}(hN:X.N.Nodup)(gok:GOk wg)(hi:QI .P X E tg iter wi)(hb:∀cl ex s3 H3 C,QG ix (blk X M scope cl ex s3 H3 C) tg wg/\QTs (blk X M scope cl ex s3 H3 C) E0 ifs wt/\QI .D (blk X M scope cl ex s3 H3 C) E0 tg2 iter2 wi2/\QG ix2 (blk X M scope cl ex s3 H3 C) tg2 wg2/\QTs (blk X M scope cl ex s3 H3 C) E0 ifs2 wt2/\QE .D (blk X M scope cl ex s3 H3 C) E0 elt we)(hiy:X.N[i]? = some y:=by rfl)(hly:X.env.scope.names.lookup y=some .local:=by rfl)(hc:X.calm=true:=by rfl)(ok:QcC X.N X.env.scope M scope cap=true:=by rfl)(hf:Qa4 cap ix=true:=by rfl)(hf2:Qa4 cap ix2=true:=by rfl)(hd:ix2.all (λi => !ix.contains i)=true:=by rfl)(hs:∀x,foldedSetIterable iter X.env x=pure x:=by intro _;rfl)(hs2:∀env x,foldedSetIterable iter2 env x=pure x:=by intro _ _;rfl)(hsw:swapsWith (.ListComp elt [⟨tg,iter,ifs,0⟩,⟨tg2,iter2,ifs2,0⟩] scope pos) (some (.Name y py)) spos.line X.env=pure true:=by rfl):QS X E (.Assign [.Name y py] (.ListComp elt [⟨tg,iter,ifs,0⟩,⟨tg2,iter2,ifs2,0⟩] scope pos) spos) (Qw6 i (QjO cap wi wg wt wi2 wg2 wt2 we)):=
 ⟨Qim (PS.imp (PS.imp (QlP hN hiy hly hc ok hi.h (λcl ex s3 H3 C=>⟨(hb cl ex s3 H3 C).1.h,(hb cl ex s3 H3 C).2.1.h,(hb cl ex s3 H3 C).2.2.1.h,(hb cl ex s3 H3 C).2.2.2.1.h,(hb cl ex s3 H3 C).2.2.2.2.1.h,(hb cl ex s3 H3 C).2.2.2.2.2.h⟩) hs hs2 hsw) λD σ H q=>QkI (E:=E) gok hf hf2 hd σ H _ q) λD σ H q=>Qy5 σ H _ q)⟩
end
theorem QeK(L:List (Int×Int)):nds (L.map Rk.pairD)=true:=QbH.mpr λd hd=>by
 obtain⟨i,_,rfl⟩:=Qw.mp hd;rfl
def rkD:Qa->Nat
 |.int _=>0
 |.tuple _=>1
 |_=>2
def Qe3(i j:Int):Ordering:=if i<j then .lt else if i=j then .eq else .gt
def Qz3(i j:Nat):Ordering:=if i<j then .lt else if i=j then .eq else .gt
def thn(o:Ordering)(p:Ordering):Ordering:=match o with
 |.eq=>p
 |o=>o
mutual
def Qb5:Qa->Qa->Ordering
 |.int i,.int j=>Qe3 i j
 |.tuple a,.tuple b=>QbL a b
 |x,y=>Qz3 (rkD x) (rkD y)
def QbL:List Qa->List Qa->Ordering
 |[],[]=>.eq
 |[],_::_=>.lt
 |_::_,[]=>.gt
 |x::xs,y::ys=>thn (Qb5 x y) (QbL xs ys)
end
def isL:Ordering->Bool
 |.lt=>true
 |_=>false
def ltD(x y:Qa):Bool:=isL (Qb5 x y)
def Qtt(x y:List Qa):Bool:=isL (QbL x y)
def sw:Ordering->Ordering
 |.lt=>.gt
 |.gt=>.lt
 |.eq=>.eq
def QfJ:Ordering->Bool
 |.gt=>false
 |_=>true
theorem QuD(a b:Ordering):sw (thn a b)=thn (sw a) (sw b):=by cases a<;>rfl
theorem QtX(i j:Int):Qe3 j i=sw (Qe3 i j):=by
 unfold Qe3;by_cases h:i<j
 ·rw[if_neg (by omega),if_neg (by omega),if_pos h];rfl
 ·by_cases h2:i=j
  ·rw[if_neg (by omega),if_pos h2.symm,if_neg h,if_pos h2];rfl
  ·rw[if_pos (by omega),if_neg h,if_neg h2];rfl
theorem QtY(i j:Int):QfJ (Qe3 i j)=decide (i<=j):=by
 unfold Qe3;by_cases h:i<j
 ·rw[if_pos h];exact(decide_eq_true (by omega)).symm
 ·by_cases h2:i=j
  ·rw[if_neg h,if_pos h2];exact(decide_eq_true (by omega)).symm
  ·rw[if_neg h,if_neg h2];exact(decide_eq_false (by omega)).symm
mutual
theorem QdD:∀(x y:Qa),Qb5 y x=sw (Qb5 x y)
 |.int i,.int j=>QtX i j
 |.tuple a,.tuple b=>QjS a b
 |.int _,.tuple _=>rfl
 |.tuple _,.int _=>rfl
 |.int _,.none=>rfl
 |.int _,.bool _=>rfl
 |.int _,.str _=>rfl
 |.int _,.list _=>rfl
 |.int _,.dict _=>rfl
 |.tuple _,.none=>rfl
 |.tuple _,.bool _=>rfl
 |.tuple _,.str _=>rfl
 |.tuple _,.list _=>rfl
 |.tuple _,.dict _=>rfl
 |.none,y=>by cases y<;>rfl
 |.bool _,y=>by cases y<;>rfl
 |.str _,y=>by cases y<;>rfl
 |.list _,y=>by cases y<;>rfl
 |.dict _,y=>by cases y<;>rfl
theorem QjS:∀(xs ys:List Qa),QbL ys xs=sw (QbL xs ys)
 |[],[]=>rfl
 |[],_::_=>rfl
 |_::_,[]=>rfl
 |x::xs,y::ys=>by
  show thn (Qb5 y x) (QbL ys xs)=sw (thn (Qb5 x y) (QbL xs ys));rw[QdD x y,QjS xs ys,QuD]
end
theorem QvX{a c:Ordering}(hab:QfJ a=true)(h:QfJ (sw c)=true->QfJ (sw a)=true)(ha:a=.lt):c=.lt:=by
 subst ha;cases c with
 |lt=>rfl
 |eq=>cases h rfl
 |gt=>cases h rfl
mutual
theorem QgD:∀(x y z:Qa),QfJ (Qb5 x y)=true->QfJ (Qb5 y z)=true->QfJ (Qb5 x z)=true
 |.int i,.int j,.int k,h1,h2=>by
  have h1:QfJ (Qe3 i j)=true:=h1;have h2:QfJ (Qe3 j k)=true:=h2;show QfJ (Qe3 i k)=true;rw[QtY] at h1 h2 ⊢;have a:=of_decide_eq_true h1;have b:=of_decide_eq_true h2;exact decide_eq_true (by omega)
 |.tuple a,.tuple b,.tuple c,h1,h2=>QjR a b c h1 h2
 |.int _,y,.tuple _,h1,h2=>rfl
 |.int _,.tuple _,.int _,h1,h2=>by cases h2
 |.tuple _,.int _,z,h1,h2=>by cases h1
 |.tuple _,.tuple _,.int _,h1,h2=>by cases h2
 |.int _,y,.none,_,_=>rfl
 |.int _,y,.bool _,_,_=>rfl
 |.int _,y,.str _,_,_=>rfl
 |.int _,y,.list _,_,_=>rfl
 |.int _,y,.dict _,_,_=>rfl
 |.tuple _,y,.none,_,_=>rfl
 |.tuple _,y,.bool _,_,_=>rfl
 |.tuple _,y,.str _,_,_=>rfl
 |.tuple _,y,.list _,_,_=>rfl
 |.tuple _,y,.dict _,_,_=>rfl
 |.int _,.none,.int _,h1,h2=>by cases h2
 |.int _,.bool _,.int _,h1,h2=>by cases h2
 |.int _,.str _,.int _,h1,h2=>by cases h2
 |.int _,.list _,.int _,h1,h2=>by cases h2
 |.int _,.dict _,.int _,h1,h2=>by cases h2
 |.tuple _,.none,.int _,h1,h2=>by cases h2
 |.tuple _,.bool _,.int _,h1,h2=>by cases h2
 |.tuple _,.str _,.int _,h1,h2=>by cases h2
 |.tuple _,.list _,.int _,h1,h2=>by cases h2
 |.tuple _,.dict _,.int _,h1,h2=>by cases h2
 |.tuple _,.none,.tuple _,h1,h2=>by cases h2
 |.tuple _,.bool _,.tuple _,h1,h2=>by cases h2
 |.tuple _,.str _,.tuple _,h1,h2=>by cases h2
 |.tuple _,.list _,.tuple _,h1,h2=>by cases h2
 |.tuple _,.dict _,.tuple _,h1,h2=>by cases h2
 |.none,y,z,h1,h2=>by cases y<;>cases z<;>first | rfl | (cases h1;done) | (cases h2;done)
 |.bool _,y,z,h1,h2=>by cases y<;>cases z<;>first | rfl | (cases h1;done) | (cases h2;done)
 |.str _,y,z,h1,h2=>by cases y<;>cases z<;>first | rfl | (cases h1;done) | (cases h2;done)
 |.list _,y,z,h1,h2=>by cases y<;>cases z<;>first | rfl | (cases h1;done) | (cases h2;done)
 |.dict _,y,z,h1,h2=>by cases y<;>cases z<;>first | rfl | (cases h1;done) | (cases h2;done)
 termination_by x y z=>sizeOf x+sizeOf y+sizeOf z
theorem QjR:∀(xs ys zs:List Qa),QfJ (QbL xs ys)=true->QfJ (QbL ys zs)=true->QfJ (QbL xs zs)=true
 |[],_,[],_,_=>rfl
 |[],_,_::_,_,_=>rfl
 |_::_,[],_,h1,_=>by cases h1
 |_::_,_::_,[],_,h2=>by cases h2
 |x::xs,y::ys,z::zs,h1,h2=>by
  have h1:QfJ (thn (Qb5 x y) (QbL xs ys))=true:=h1;have h2:QfJ (thn (Qb5 y z) (QbL ys zs))=true:=h2;show QfJ (thn (Qb5 x z) (QbL xs zs))=true;have a1:QfJ (Qb5 x y)=true:=by cases e:Qb5 x y<;>rw[e] at h1<;>first | rfl | cases h1
  have a2:QfJ (Qb5 y z)=true:=by cases e:Qb5 y z<;>rw[e] at h2<;>first | rfl | cases h2
  have a3:=QgD x y z a1 a2;cases e1:Qb5 x y with
  |gt=>rw[e1] at a1;cases a1
  |lt=>
   have:Qb5 x z=.lt:=QvX (a:=Qb5 x y) a1 (λq=>by
    rw[<- QdD x z] at q;rw[<- QdD x y];exact QgD y z x a2 q) e1
   rw[this];rfl
  |eq=>
   cases e2:Qb5 y z with
   |gt=>rw[e2] at a2;cases a2
   |lt=>
    have:Qb5 x z=.lt:=QvX (a:=Qb5 y z) a2 (λq=>by
     rw[<- QdD x z] at q;rw[<- QdD y z];exact QgD z x y q a1) e2
    rw[this];rfl
   |eq=>
    rw[e1] at h1;rw[e2] at h2;cases e3:Qb5 x z with
    |gt=>rw[e3] at a3;cases a3
    |lt=>rfl
    |eq=>exact QjR xs ys zs h1 h2
 termination_by x y z=>sizeOf x+sizeOf y+sizeOf z
end
theorem Qv6(o:Ordering):isL (sw o) = !QfJ o:=by cases o<;>rfl
theorem QmF(x y:Qa):ltD y x = !QfJ (Qb5 x y):=by unfold ltD;rw[QdD x y,Qv6]
theorem Qpx(x y:Qa)(h:ltD x y=true):ltD y x=false:=by
 rw[QmF];unfold ltD at h;cases e:Qb5 x y<;>rw[e] at h<;>first | rfl | cases h
theorem QrJ(x y z:Qa)(h1:ltD y x=false)(h2:ltD z y=false):ltD z x=false:=by
 rw[QmF] at h1 h2 ⊢;rw[QgD x y z (by simpa using h1) (by simpa using h2)];rfl
mutual
def Qh0:Qa->Qa->Bool
 |.int _,.int _=>true
 |.tuple a,.tuple b=>Qc5 a b
 |_,_=>false
def Qc5:List Qa->List Qa->Bool
 |x::xs,y::ys=>Qh0 x y&&Qc5 xs ys
 |_,_=>true
end
def isE:Ordering->Bool
 |.eq=>true
 |_=>false
theorem QtG(a b:Ordering):isE (thn a b)=(isE a&&isE b):=by cases a<;>rfl
mutual
theorem Qm4:∀(x y:Qa),Qh0 x y=true->Ja x y=isE (Qb5 x y)
 |.int i,.int j,_=>by
  show(i == j)=isE (Qe3 i j);unfold Qe3;by_cases h:i=j
  ·subst h;simp[isE]
  ·rw[beq_eq_false_iff_ne.mpr h];split
   ·rfl
   ·rfl
 |.tuple a,.tuple b,h=>Qm3 a b h
 |.int _,.tuple _,h=>by cases h
 |.tuple _,.int _,h=>by cases h
 |.int _,.none,h=>by cases h
 |.int _,.bool _,h=>by cases h
 |.int _,.str _,h=>by cases h
 |.int _,.list _,h=>by cases h
 |.int _,.dict _,h=>by cases h
 |.tuple _,.none,h=>by cases h
 |.tuple _,.bool _,h=>by cases h
 |.tuple _,.str _,h=>by cases h
 |.tuple _,.list _,h=>by cases h
 |.tuple _,.dict _,h=>by cases h
 |.none,y,h=>by cases y<;>cases h
 |.bool _,y,h=>by cases y<;>cases h
 |.str _,y,h=>by cases y<;>cases h
 |.list _,y,h=>by cases y<;>cases h
 |.dict _,y,h=>by cases y<;>cases h
theorem Qm3:∀(xs ys:List Qa),Qc5 xs ys=true->Qua xs ys=isE (QbL xs ys)
 |[],[],_=>rfl
 |[],_::_,_=>rfl
 |_::_,[],_=>rfl
 |x::xs,y::ys,h=>by
  have h:=Qo.mp (show(Qh0 x y&&Qc5 xs ys)=true from h);show(Ja x y&&Qua xs ys)=isE (thn (Qb5 x y) (QbL xs ys));rw[Qm4 x y h.1,Qm3 xs ys h.2,QtG]
end
end Dl
namespace Rt
open PySem.Calls Dl
theorem QeT:∀{ds:List Qa}{d:Qa},d∈ds->d.depth<=QV ds
 |x::ds,d,h=>by
  show d.depth<=max x.depth (QV ds);rcases QN.mp h with z | z
  ·subst z;exact Nat.le_max_left _ _
  ·exact Jc (QeT z) (QfS _ _)
theorem readsAll_len{h:Za}:∀{vs:List Value}{ds:List Qa}{as:List Addr},YT h vs ds as->vs.length=ds.length
 |_,_,_,.nil=>rfl
 |_,_,_,.cons _ r=>by rw[QC,QC,readsAll_len r]
section
open PySem.SeqAt
open PySem.AutoSeq1 (wpAny_loadPart')
open PySem.MeetsSeq PySem.MeetsSeq2 PySem.MeetsSeq3
theorem QdK{l b:Addr}{items items2:Array Value}{n n2:Nat}{dd dd2:Option Addr}{sl sl2:Array (Option Value)}{ds es:List Qa}{as bs:List Addr}{N:Nat}(hk:Qc5 ds es=true)(hc1:Jd ds=true)(hc2:Jd es=true)(hd:QV ds<=N)
  (ih:∀(x y:Qa)(A:Q9)(s:Shared)(v u:Value)(p q:List Addr),Qbs s.heap v x p->Qbs s.heap u y q->x.canLay0=true->y.canLay0=true->Qh0 x y=true->x.depth<=N->A.units+2*N+2<cLine->∀(prog:QB)(w:Jl)(E Q:Value->Shared->Prop),Q (.bool (ltD x y)) s->wpAny (model prog w) A (richCompare .Lt v u) Q E s) :
  Meets (QcQ.«tuple.__lt__» ⟨[.ref l,.ref b],[]⟩)
   (λA R s=>s.heap.get? l=some { cls:=.type "tuple",dict:=dd,data:=.seq items n,slots:=sl }/\s.heap.get? b=some { cls:=.type "tuple",dict:=dd2,data:=.seq items2 n2,slots:=sl2 }/\YT s.heap items.toList ds as/\YT s.heap items2.toList es bs/\A.units+2*N+4<cLine /\
    R (.ok (.ret (.bool (Qtt ds es)))) s):=
 .of_wp λprog w A R s h=>by
  obtain⟨hp,g,d,tk,os⟩:=s;obtain⟨hl,hb,hr1,hr2,hu,h⟩:=h;have f2:=AutoSeq1.sub_tuple_tuple;have hu1:A.in1.units+2*N+2<cLine:=by show A.units+1+2*N+2<cLine;omega
  have z1:items.size=ds.length:=by rw[<- readsAll_len hr1];simp
  have z2:items2.size=es.length:=by rw[<- readsAll_len hr2];simp
  wp_walk using QdQ hl,QdQ hb,wpAny_forIn_list _ (λrest b s'=>b.1=none/\s'=⟨hp,g,d,tk,os⟩/\∃(vs ws:List Value)(xs ys:List Qa)(p q:List Addr),rest=vs.zip ws /\
   YT hp vs xs p/\YT hp ws ys q/\Qc5 xs ys=true/\Jd xs=true/\Jd ys=true/\QV xs<=N/\xs.length+items2.size=ys.length+items.size/\R (.ok (.ret (.bool (Qtt xs ys)))) ⟨hp,g,d,tk,os⟩) _
  case turn=>
   rintro⟨y,x⟩ rest b s' ⟨hb',rfl,vs,ws,xs,ys,p,q,hz,hvi,hwi,hkk,c1,c2,hdd,hlen,hR⟩;cases hvi with
   |nil=>rw[List.zip_nil_left] at hz;cases hz
   |@cons v0 vs0 d1 ds1 as1 as2 r1 hvi'=>
    cases hwi with
    |nil=>rw[List.zip_nil_right] at hz;cases hz
    |@cons u0 us0 d2 ds2 bs1 bs2 r2 hwi'=>
     rw[Qd5] at hz;injection hz with hyx hrest
     injection hyx with hy hx
     subst hy hx;have hkk:=Qo.mp (show(Qh0 d1 d2&&Qc5 ds1 ds2)=true from hkk);simp only[Jd,JJ] at c1 c2;have dm1:d1.depth<=N:=Jc (QeT (ds:=d1::ds1) (.head _)) hdd;have dm2:QV ds1<=N:=Jc (show QV ds1<=max d1.depth (QV ds1) from QfS _ _) hdd;simp only[QC] at hlen;have he:=Qe5 d1 d2 A.in1 ⟨hp,g,d,tk,os⟩ y x _ _ r1 r2 c1.1 c2.1 (by omega);have hR:R (.ok (.ret (.bool (isL (thn (Qb5 d1 d2) (QbL ds1 ds2)))))) ⟨hp,g,d,tk,os⟩:=hR;rw[Qm4 d1 d2 hkk.1] at he;have hri:=λE Q=>ih d1 d2 A.in1 ⟨hp,g,d,tk,os⟩ y x _ _ r1 r2 c1.1 c2.1 hkk.1 dm1 hu1 prog w E Q
     unfold ltD at hri;cases e1:Qb5 d1 d2 with
     |lt=>
      rw[e1] at he hR hri;refine wpAny_bind (he prog w _ _ ?_)
      wp_walk using hri
      exact⟨_,rfl,hR⟩
     |gt=>
      rw[e1] at he hR hri;refine wpAny_bind (he prog w _ _ ?_)
      wp_walk using hri
      exact⟨_,rfl,hR⟩
     |eq=>
      rw[e1] at he hR;refine wpAny_bind (he prog w _ _ ?_)
      wp_walk
      exact⟨rfl,rfl,_,_,_,_,_,_,hrest,hvi',hwi',hkk.2,c1.2,c2.2,dm2,by omega,hR⟩
  case fin=>
   rintro⟨b1,b2⟩ s' ⟨hb',rfl,vs,ws,xs,ys,p,q,hz,hvi,hwi,hkk,c1,c2,hdd,hlen,hR⟩;simp only at hb';subst hb';have hv:Qtt xs ys=decide (items.size<items2.size):=by
    cases hvi with
    |nil=>
     cases hwi with
     |nil=>
      simp only[Qak] at hlen;exact(decide_eq_false (by omega)).symm
     |cons r2 hw=>
      simp only[Qak,QC] at hlen;exact(decide_eq_true (by omega)).symm
    |cons r1 hv=>
     cases hwi with
     |nil=>
      simp only[Qak,QC] at hlen;exact(decide_eq_false (by omega)).symm
     |cons r2 hw=>
      rw[Qd5] at hz;cases hz
   rw[hv] at hR
   wp_walk
   exact⟨_,rfl,by simpa [QxC] using hR⟩
  case h=>
   exact⟨rfl,rfl,items.toList,items2.toList,ds,es,as,bs,rfl,hr1,hr2,hk,hc1,hc2,hd,by omega,h⟩
end
end Rt
namespace Rt
open PySem.Calls PySem.W Dl
mutual
def okK:Qa->Bool
 |.int _=>true
 |.tuple ds=>Qeg ds
 |_=>false
def Qeg:List Qa->Bool
 |[]=>true
 |d::ds=>okK d&&Qeg ds
end
mutual
theorem Qdm{h h':Za}(k:∀b o,h.get? b=some o->h'.get? b=some o):∀(d:Qa)(v:Value)(as:List Addr),okK d=true->Qbs h v d as->Qbs h' v d as
 |.int _,_,_,_,.int i t=>.int i t
 |.tuple ds,_,_,hk,.tuple (vs:=vs) e c d r=>.tuple (k _ _ e) c d (QaD k ds _ _ hk r)
 |.none,_,_,hk,_=>by cases hk
 |.bool _,_,_,hk,_=>by cases hk
 |.str _,_,_,hk,_=>by cases hk
 |.list _,_,_,hk,_=>by cases hk
 |.dict _,_,_,hk,_=>by cases hk
theorem QaD{h h':Za}(k:∀b o,h.get? b=some o->h'.get? b=some o):∀(ds:List Qa)(vs:List Value)(as:List Addr),Qeg ds=true->YT h vs ds as->YT h' vs ds as
 |[],_,_,_,.nil=>.nil
 |d::ds,_,_,hk,.cons r rs=>by
  have hk:=Qo.mp (show(okK d&&Qeg ds)=true from hk);exact .cons (Qdm k d _ _ hk.1 r) (QaD k ds _ _ hk.2 rs)
end
theorem Qsq:∀(N:Nat)(x y:Qa)(A:Q9)(s:Shared)(v u:Value)(p q:List Addr),Qbs s.heap v x p->Qbs s.heap u y q->x.canLay0=true->y.canLay0=true->Qh0 x y=true->x.depth<=N->A.units+2*N+2<cLine->∀(prog:QB)(w:Jl)(E Q:Value->Shared->Prop),Q (.bool (ltD x y)) s->wpAny (model prog w) A (richCompare .Lt v u) Q E s:=by
 intro N;have intz:∀(i j:Int)(A:Q9)(s:Shared)(v u:Value)(p q:List Addr),Qbs s.heap v (.int i) p->Qbs s.heap u (.int j) q->∀(prog:QB)(w:Jl)(E Q:Value->Shared->Prop),Q (.bool (ltD (.int i) (.int j))) s->wpAny (model prog w) A (richCompare .Lt v u) Q E s:=by
  intro i j A s v u p q r1 r2 prog w E Q h;cases r1;cases r2;refine HT.Qot A s i _ j _ prog w E Q ?_
  have e:ltD (.int i) (.int j)=decide (i<j):=by
   show isL (Qe3 i j)=_;unfold Qe3;by_cases z:i<j
   ·rw[if_pos z,decide_eq_true z];rfl
   ·rw[if_neg z,decide_eq_false z];split<;>rfl
  rw[e] at h;exact h
 induction N with
 |zero=>
  intro x y A s v u p q r1 r2 c1 c2 hk hd hu prog w E Q h;cases x<;>cases y<;>first | (cases hk;done) | skip
  ·exact intz _ _ A s v u p q r1 r2 prog w E Q h
  ·unfold Jt at hd;omega
 |succ N ih=>
  intro x y A s v u p q r1 r2 c1 c2 hk hd hu prog w E Q h;cases x<;>cases y<;>first | (cases hk;done) | skip
  ·exact intz _ _ A s v u p q r1 r2 prog w E Q h
  ·rename_i ds es
   cases r1 with
   |@tuple a o vs n _ _ ho hc hd' ra=>
    cases r2 with
    |@tuple b o2 vs2 n2 _ _ ho2 hc2 hd2 rb=>
     obtain⟨cls,dd,data,sl⟩:=o;obtain⟨cls2,dd2,data2,sl2⟩:=o2;simp only at hc hd' hc2 hd2;subst hc hd' hc2 hd2;have dd3:QV ds<=N:=by unfold Jt at hd;omega
     exact richCompare_meets_room (op:=.Lt) ⟨_,ho,rfl⟩ ⟨_,ho2,rfl⟩ PySem.F.slot_tuple_lt PySem.F.entry_tuple_lt (PySem.F.args_tuple_lt_2 _ _) (QdK (N:=N) hk c1 c2 dd3 ih)
      ⟨ho,ho2,ra,rb,by omega,show ZP (Qtt ds es)≠Value.notImplemented/\Q (.bool (Qtt ds es)) s from⟨(λx=>nomatch x),h⟩⟩ (by omega)
theorem Qkk{N:Nat}{ds es:List Qa}{A:Q9}{s:Shared}{v u:Value}{p q:List Addr}(r1:Qbs s.heap v (.tuple ds) p)(r2:Qbs s.heap u (.tuple es) q)(c1:Jd ds=true)(c2:Jd es=true)(hk:Qc5 ds es=true)(hd:QV ds<=N)(hu:A.units+2*N+4<cLine){prog:QB}{w:Jl}{E:Value->Shared->Prop}{C:Bool->Shared->Prop}(h:C (Qtt ds es) s):wpAny (model prog w) A (oneLt' true v u) C E s:=by
 cases r1 with
 |@tuple a o vs n _ _ ho hc hd' ra=>
  cases r2 with
  |@tuple b o2 vs2 n2 _ _ ho2 hc2 hd2 rb=>
   obtain⟨cls,dd,data,sl⟩:=o;obtain⟨cls2,dd2,data2,sl2⟩:=o2;simp only at hc hd' hc2 hd2;subst hc hd' hc2 hd2;rw[oneLt'_eq];simp only[if_true];refine wpAny_bind (wpAny_cRoomFor (by omega) ?_);refine wpAny_bind (wpAny_callSpecialIfBound?_slot ⟨_,ho,rfl⟩ PySem.F.slot_tuple_lt (QbO PySem.F.slot_tuple_lt ⟨_,ho,rfl⟩ PySem.F.entry_tuple_lt (PySem.F.args_tuple_lt_2 _ _) (QdK (N:=N) hk c1 c2 hd λx y=>Qsq N x y) ⟨ho,ho2,ra,rb,hu,?_⟩));exact Yn h
section
variable{prog:QB}{w:Jl}{A:Q9}{E:Value->Shared->Prop}{s:Shared}
theorem QrD{N:Nat}{x y:Qa}{v u:Value}{p q:List Addr}(r1:Qbs s.heap v x p)(r2:Qbs s.heap u y q)(c1:x.canLay0=true)(c2:y.canLay0=true)(hk:Qh0 x y=true)(hd:x.depth<=N)(hu:A.units+2*N+2<cLine){C:Bool->Shared->Prop}(h:C (ltD x y) s):wpAny (model prog w) A (oneLt' false v u) C E s:=by
 refine kat_one v u ?_
 exact Qsq N x y A s v u p q r1 r2 c1 c2 hk hd hu prog w E _ h
theorem ltD_int(i j:Int):ltD (.int i) (.int j)=decide (i<j):=by
 show isL (Qe3 i j)=_;unfold Qe3;by_cases z:i<j
 ·rw[if_pos z,decide_eq_true z];rfl
 ·rw[if_neg z,decide_eq_false z];split<;>rfl
def QtJ:List Qa->Prop
 |.int _::_=>True
 |_=>False
theorem QrM{b:Bool}{n1 n2 N:Nat}{C:Bool->Shared->Prop}(hu:A.units+2*N+2<cLine):∀(vs us:List Value)(xs ys:List Qa)(p q:List Addr)(i:Nat),YT s.heap vs xs p->YT s.heap us ys q->Jd xs=true->Jd ys=true->Qc5 xs ys=true->QV xs<=N->(b=true->i=0->QtJ xs)->xs.length+n2=ys.length+n1 ->
  C (Qtt xs ys) s->KatLex prog w A b (decide (n1<n2)) C (vs.zip us) i s
 |[],us,xs,ys,p,q,i,r1,r2,c1,c2,hk,hd,hb,hl,h=>by
  cases r1;refine kat_nil ?_
  cases r2 with
  |nil=>rw[show decide (n1<n2)=false from decide_eq_false (by simp at hl;omega)];exact h
  |cons r rs=>rw[show decide (n1<n2)=true from decide_eq_true (by simp at hl;omega)];exact h
 |v::vs,[],xs,ys,p,q,i,r1,r2,c1,c2,hk,hd,hb,hl,h=>by
  cases r2;cases r1;refine kat_nil ?_
  rw[show decide (n1<n2)=false from decide_eq_false (by simp at hl;omega)];exact h
 |v::vs,u::us,xs,ys,p,q,i,r1,r2,c1,c2,hk,hd,hb,hl,h=>by
  cases r1 with
  |@cons _ _ d1 ds1 as1 as2 r1 rs1=>
   cases r2 with
   |@cons _ _ d2 ds2 bs1 bs2 r2 rs2=>
    have hk:=Qo.mp (show(Qh0 d1 d2&&Qc5 ds1 ds2)=true from hk);simp only[Jd,JJ] at c1 c2;have dm1:d1.depth<=N:=Jc (QeT (ds:=d1::ds1) (.head _)) hd;have dm2:QV ds1<=N:=Jc (show QV ds1<=max d1.depth (QV ds1) from QfS _ _) hd;have h:C (isL (thn (Qb5 d1 d2) (QbL ds1 ds2))) s:=h;have one:C (ltD d1 d2) s->wpAny (model prog w) A (oneLt' (b&&i == 0) v u) C (λ_ _=>False) s:=λhc=>by
     cases e:(b&&i == 0) with
     |false=>exact QrD (N:=N) r1 r2 c1.1 c2.1 hk.1 dm1 hu hc
     |true=>
      have e:=Qo.mp e;have hh:=hb e.1 (beq_iff_eq.mp e.2);cases d1<;>first | exact hh.elim | skip
      cases d2<;>first | (cases hk.1;done) | skip
      cases r1;cases r2;rw[ltD_int] at hc;exact oneLt_int hc
    refine kat_cons (Qe5 d1 d2 A s v u _ _ r1 r2 c1.1 c2.1 (by omega) prog w _ _ ?_);rw[Qm4 d1 d2 hk.1];cases e1:Qb5 d1 d2 with
    |lt=>rw[e1] at h;exact kat_no (one (by unfold ltD;rw[e1];exact h))
    |gt=>rw[e1] at h;exact kat_no (one (by unfold ltD;rw[e1];exact h))
    |eq=>
     rw[e1] at h;refine kat_yes (QrM hu vs us ds1 ds2 _ _ (i+1) rs1 rs2 c1.2 c2.2 hk.2 dm2 (λ_ z=>by omega) (by simp only[QC] at hl;omega) h)
def QpX(ds:List Qa)(κ:YB):Prop:=κ=general'∨κ=oneType'∨κ=tuples' false∨(κ=tuples' true/\∀d∈ds,∃es,d=.tuple es/\QtJ es)
theorem Qv0{N:Nat}{ds:List Qa}{κ:YB}{x y:Qa}{v u:Value}{p q:List Addr}(su:QpX ds κ)(hx:x∈ds)(r1:Qbs s.heap v x p)(r2:Qbs s.heap u y q)(c1:x.canLay0=true)(c2:y.canLay0=true)(hk:Qh0 x y=true)(tb:∀b,κ=tuples' b->∃es,x=.tuple es)(hd:x.depth<=N)(hu:A.units+2*N+4<cLine){C:Bool->Shared->Prop}(h:C (ltD x y) s) :
  wpAny (model prog w) A (keyLt' κ v u) C E s:=by
 have tup:∀b,κ=tuples' b->(b=true->∃es,x=.tuple es/\QtJ es)->wpAny (model prog w) A (keyLt' κ v u) C E s:=λb hb hh=>by
  subst hb;obtain⟨es,rfl⟩:=tb b rfl;cases y<;>first | (cases hk;done) | skip
  rename_i fs
  cases r1 with
  |@tuple a o vs n _ _ ho hc hd' ra=>
   cases r2 with
   |@tuple b2 o2 vs2 n2 _ _ ho2 hc2 hd2 rb=>
    have dd3:QV es<=N:=by unfold Jt at hd;omega
    refine kat_lt ho hd' ho2 hd2 (QrM (N:=N) (by omega) _ _ es fs _ _ 0 ra rb c1 c2 hk dd3 (λe _=>?_) ?_ h)
    ·obtain⟨es',e',hh⟩:=hh e;cases e';exact hh
    ·have e1:=readsAll_len ra;have e2:=readsAll_len rb;rw[Qq] at e1 e2;omega
 rcases su with rfl | rfl | rfl | ⟨rfl,hall⟩
 ·exact QrD (N:=N) r1 r2 c1 c2 hk hd (by omega) h
 ·cases x<;>cases y<;>first | (cases hk;done) | skip
  ·cases r1;cases r2;rw[ltD_int] at h;exact oneLt_int h
  ·have dd3:∀{es:List Qa},(Qay es).depth<=N->QV es<=N:=λ{es} h=>by unfold Jt at h;omega
   exact Qkk (N:=N) r1 r2 c1 c2 hk (dd3 hd) hu h
 ·exact tup false rfl λe=>by cases e
 ·exact tup true rfl λ_=>hall x hx
end
section
variable{M:Qj2}{A:Q9}{E:Value->Shared->Prop}{s:Shared}
theorem QfC{α β:Type}{f:α->Sem β}{g:α->β}:∀(l:List α){Q:List β->Shared->Prop},(∀v∈l,∀(Q':β->Shared->Prop),Q' (g v) s->wpAny M A (f v) Q' E s)->Q (l.map g) s->wpAny M A (l.mapM f) Q E s
 |[],_,_,h=>by rw[List.mapM_nil];exact Qg h
 |x::l,Q,hf,h=>by
  rw[List.mapM_cons];exact wpAny_bind (hf x (.head _) _ (wpAny_bind (QfC l (Q:=λbs s'=>wpAny M A (pure (g x::bs)) Q E s') (λv hv=>hf v (.tail _ hv)) (Qg h))))
end
def QhZ(h:Za)(v:Value):Option Value:=match v with
 |.ref a=>(match h.get? a with
  |some o=>(match o.data with
   |.seq xs _=>xs[0]?
   |_=>none)
  |none=>none)
 |_=>none
def tyV(h:Za)(v:Value):Value:=match v with
 |.int _ _=>.type "int"
 |.ref a=>(match h.get? a with
  |some o=>o.cls
  |none=>.none)
 |_=>.none
theorem YF:∀{ds:List Qa},Qeg ds=true->∀d∈ds,okK d=true
 |x::ds,h,d,hd=>by
  have h:=Qo.mp (show(okK x&&Qeg ds)=true from h);rcases QN.mp hd with z | z
  ·rw[z];exact h.1
  ·exact YF h.2 d z
theorem Qir:∀{ds:List Qa},(∀d∈ds,okK d=true)->Qeg ds=true
 |[],_=>rfl
 |x::ds,h=>by
  show(okK x&&Qeg ds)=true;rw[h x (.head _),Qir λd hd=>h d (.tail _ hd)];rfl
theorem ZZ{h:Za}:∀{vs:List Value}{ds:List Qa}{as:List Addr},YT h vs ds as->∀v∈vs,∃d∈ds,∃bs,Qbs h v d bs
 |_,_,_,.cons (d:=d) r rs,v,hv=>by
  rcases QN.mp hv with z | z
  ·rw[z];exact⟨d,.head _,_,r⟩
  ·obtain⟨d',hd,bs,r'⟩:=ZZ rs v z;exact⟨d',.tail _ hd,bs,r'⟩
theorem QcW{h:Za}:∀{vs:List Value}{ds:List Qa}{as:List Addr},YT h vs ds as->∀d∈ds,∃v∈vs,∃bs,Qbs h v d bs
 |_,_,_,.cons (d:=d) (v:=v) r rs,d',hd=>by
  rcases QN.mp hd with z | z
  ·rw[z];exact⟨v,.head _,_,r⟩
  ·obtain⟨v',hv,bs,r'⟩:=QcW rs d' z;exact⟨v',.tail _ hv,bs,r'⟩
section
variable{prog:QB}{w:Jl}{A:Q9}{E:Value->Shared->Prop}{s:Shared}
theorem Qh8{v:Value}{d:Qa}{bs:List Addr}(r:Qbs s.heap v d bs)(hk:okK d=true){Q:Value->Shared->Prop}(q:Q (tyV s.heap v) s):wpAny (model prog w) A (typeOf v) Q E s:=by
 cases r<;>first | (cases hk;done) | skip
 ·exact Qg q
 ·rename_i a o vs n xs ho hc hd ra
  refine wpAny_typeOf_ref ho ?_
  have e:tyV s.heap (.ref a)=o.cls:=by unfold tyV;simp only[ho]
  rw[e] at q;exact q
theorem QjC{vs:List Value}{ds:List Qa}{as:List Addr}{Q:YB->Shared->Prop}(ra:YT s.heap vs ds as)(hk:Qeg ds=true)(ht:∀d∈ds,∃es,d=.tuple es)(h:∀κ,QpX ds κ->Q κ s):wpAny (model prog w) A (keyKind' vs.toArray) Q E s:=by
 have rd:=ZZ ra;have fs:∀v∈vs,∀(Q':Option Value->Shared->Prop),Q' (QhZ s.heap v) s->wpAny (model prog w) A (firstOfTuple' v) Q' E s:=λv hv Q' q=>by
  obtain⟨d,hd,bs,r⟩:=rd v hv;obtain⟨es,rfl⟩:=ht d hd;cases r with
  |@tuple a o xs n _ _ ho hc hd' r'=>
   rw[kas_first_eq];refine wpAny_bind (wpAny_typeOf_ref ho ?_);rw[hc];rw[if_neg (by decide)];refine wpAny_bind (listItems_at ho hd' (Qg ?_));have e:QhZ s.heap (.ref a)=xs[0]? := by unfold QhZ;simp only[ho,hd']
   rw[<- e];exact q
 rw[keyKind'_eq,Qaz,map_eq_pure_bind];refine wpAny_bind (wpAny_bind (QfC (g:=QhZ s.heap) vs fs (Qg ?_)));by_cases z:((vs.map (QhZ s.heap)).toArray.all λx=>x.isSome)=true
 ·rw[if_pos z];refine wpAny_bind (wpAny_rule ?_);have hfm:((vs.map (QhZ s.heap)).toArray.filterMap id)=(vs.filterMap (QhZ s.heap)).toArray:=by simp[Qn9]
  have heads:∀u∈vs.filterMap (QhZ s.heap),∃d bs,Qbs s.heap u d bs/\okK d=true:=λu hu=>by
   obtain⟨v,hv,e⟩:=YD.mp hu;obtain⟨d,hd,bs,r⟩:=rd v hv;obtain⟨es,rfl⟩:=ht d hd;have ko:=YF hk _ hd;cases r with
   |@tuple a o xs n _ _ ho hc hd' r'=>
    have e2:QhZ s.heap (.ref a)=xs[0]? := by unfold QhZ;simp only[ho,hd']
    rw[e2] at e;have hm:u∈xs.toList:=by rw[<- ZF] at e;exact QM e
    obtain⟨d2,hd2,bs2,r2⟩:=ZZ r' u hm;exact⟨d2,bs2,r2,YF ko _ hd2⟩
  rw[hfm,QjX,Qaz,map_eq_pure_bind];refine wpAny_bind (wpAny_bind (wpAny_bind (QfC (g:=tyV s.heap) _ (λu hu Q' q=>?_) (Qg ?_))))
  ·obtain⟨d,bs,r,ko⟩:=heads u hu;exact Qh8 r ko q
  ·have fin:∀o:Option Value,(o.any (· != YN "tuple")=true->∀u∈vs.filterMap (QhZ s.heap),tyV s.heap u≠YN "tuple")->Q (tuples' (o.any (· != YN "tuple"))) s:=λo ho=>by
    cases e:o.any (· != YN "tuple") with
    |false=>exact h _ (.inr (.inr (.inl rfl)))
    |true=>
     refine h _ (.inr (.inr (.inr ⟨rfl,λd hd=>?_⟩)));obtain⟨es,rfl⟩:=ht d hd;obtain⟨v,hv,bs,r⟩:=QcW ra _ hd;refine⟨es,rfl,?_⟩;have ko:=YF hk _ hd;cases r with
     |@tuple a oo xs n _ _ ho' hc hd' r'=>
      have e2:QhZ s.heap (.ref a)=xs[0]? := by unfold QhZ;simp only[ho',hd']
      have some1:(QhZ s.heap (.ref a)).isSome=true:=by
       have z':=Qd7.mp z (QhZ s.heap (JP a)) (by simp;exact⟨_,hv,rfl⟩);exact z'
      rw[e2] at some1;obtain⟨u,hu⟩:=QgY.mp some1;have hl:=(Array.getElem?_eq_some_iff.mp hu).1;have nt:=ho e u (YD.mpr ⟨_,hv,by rw[e2];exact hu⟩);have hu':xs.toList[0]? = some u:=by rw[ZF];exact hu
      cases hx:xs.toList with
      |nil=>rw[hx] at hu';cases hu'
      |cons u0 us=>
       rw[hx] at hu' r';have e0:u0=u:=by simpa using hu'
       subst e0;cases r' with
       |@cons _ _ d1 ds1 as1 as2 r1 rs1=>
        have ko1:=(Qo.mp (show(okK d1&&Qeg ds1)=true from ko)).1;cases r1<;>first | (cases ko1;done) | skip
        ·trivial
        ·rename_i a2 o2 vs2 n2 xs2 ho2 hc2 hd2 ra2
         exfalso
         apply nt
         unfold tyV;simp only[ho2];exact hc2
   cases hg:((vs.filterMap (QhZ s.heap)).map (tyV s.heap)).toArray[0]? with
   |none=>exact Qg (Qg (fin none λe=>by cases e))
   |some t=>
    dsimp only
    refine Qg (Qg (fin _ λe u hu=>?_));split at e
    ·rename_i hall
     have ne:(t != YN "tuple")=true:=e;have te:(tyV s.heap u == t)=true:=by
      have:=Qd7.mp hall (tyV s.heap u) (by simp;exact⟨u,by simpa using YD.mp hu,rfl⟩);exact this
     rw[eq_of_beq te]
     simpa using ne
    ·cases e
 ·rw[if_neg z];split
  ·exact Qg (h _ (.inl rfl))
  ·rw[QjX,Qaz,map_eq_pure_bind];refine wpAny_bind (wpAny_bind (wpAny_bind (QfC (g:=tyV s.heap) _ (λv hv Q' q=>?_) (Qg ?_))))
   ·obtain⟨d,hd,bs,r⟩:=rd v hv;exact Qh8 r (YF hk _ hd) q
   ·have fin:∀b:Bool,wpAny (model prog w) A (pure (if b=true then oneType' else general')) Q E s:=λb=>by
     cases b
     ·exact Qg (h _ (.inl rfl))
     ·exact Qg (h _ (.inr (.inl rfl)))
    split
    ·exact Qg (fin _)
    ·exact Qg (fin _)
end
end Rt
namespace Rt
open PySem.Calls PySem.W Dl Rs
section
variable{prog:QB}{w:Jl}{A:Q9}{E:Value->Shared->Prop}{s:Shared}
def prs(vs:List Value):Array Keyed:=vs.toArray.zip vs.toArray
theorem Qee(vs:List Value):(prs vs).toList=vs.zip vs:=by unfold prs;rw[Array.toList_zip]
theorem QsF(vs:List Value):(prs vs).toList.map (·.2)=vs:=by rw[Qee];exact List.map_snd_zip (Qk _)
theorem QcT:∀{vs:List Value}{p:Keyed},p∈vs.zip vs->p.1=p.2/\p.2∈vs
 |v::vs,p,h=>by
  rw[Qd5] at h;rcases QN.mp h with z | z
  ·rw[z];exact⟨rfl,.head _⟩
  ·exact⟨(QcT z).1,.tail _ (QcT z).2⟩
theorem Qgp{a:Addr}{vs:List Value}{n:Nat}{P:PySem.Fin->Shared->Prop}(ho:s.heap.get? a=some (seqObj "list" vs.toArray n))(hz:vs.length<=sizeLine){c:Keyed->Keyed->Bool}(oc:Ord c)
  (hkind:∀h':Za,Kept a s.heap h'->∀(Q':YB->Shared->Prop)(E':Value->Shared->Prop),(∀κ,Asks prog w A { s with heap:=h' } κ (prs vs) c->Q' κ { s with heap:=h' })->wpAny (model prog w) A (keyKind' vs.toArray) Q' E' { s with heap:=h' })
  (h:∀arr:Array Keyed,arr.Perm (prs vs)->Sg c arr 0 arr.size->∀(h':Za)(e:Nat),Kept a s.heap h'->h'.get? a=some (seqObj "list" (arr.toList.map (·.2)).toArray e)->P (.done (.ret .none)) { s with heap:=h' }) :
  wpAny (model prog w) A (QcQ.«list.sort» ⟨[.ref a],[]⟩) P E s:=by
 have ha:a<s.heap.objs.size:=Qs ho;obtain⟨e1,ho1⟩:∃e1,(s.heap.update a (Yg λ_=>(#[]:Array Value))).get? a=some (seqObj "list" #[] e1):=⟨_,QjY ho λ_=>#[]⟩
 have K3:Kept a s.heap (((s.heap.update a (Yg λ_=>(#[]:Array Value))).push (seqObj "tuple" vs.toArray 0)).push (seqObj "list" #[] 0)):=(Qf2 _).trans ((Qhg _).trans (Qhg _));have ho6:(((s.heap.update a (Yg λ_=>(#[]:Array Value))).push (seqObj "tuple" vs.toArray 0)).push (seqObj "list" #[] 0)).get? a=some (seqObj "list" #[] e1):=Qf _ (Qf _ ho1);rw[list_sort_plain];refine wpAny_bind (listItems_at ho rfl ?_);refine wpAny_bind (Qn2 ho rfl ?_ (by rw[Qu];exact hz) (Qv _));refine wpAny_bind (Qun ho1 rfl ?_);refine wpAny_bind (wpAny_newTuple ?_ (by show vs.length<=_;exact hz));refine wpAny_bind (QnZ ?_ (Qv _));refine J7 ?_
 show wpAny (model prog w) A _ P E { s with heap:=((s.heap.update a (Yg λ_=>(#[]:Array Value))).push (seqObj "tuple" vs.toArray 0)).push (seqObj "list" #[] 0) }
 dsimp only
 generalize (((s.heap.update a (Yg λ_=>(#[]:Array Value))).push (seqObj "tuple" vs.toArray 0)).push (seqObj "list" #[] 0))=h3 at K3 ho6 ⊢;have out:∀arr:Array Keyed,arr.map (·.2)=(arr.toList.map (·.2)).toArray:=λarr=>by
  apply Qfa.mp
  rw[Array.toList_map]
 have psz:(prs vs).size=vs.length:=by rw[<- Qq,Qee,List.length_zip,QcO]
 by_cases h2:vs.toArray.size<2
 ·rw[if_pos h2,if_pos h2];refine wpAny_bind (Qg ?_);rw[StateT.run_pure];refine wpAny_bind (Qg ?_)
  dsimp only
  have f:Sg c (prs vs) 0 (prs vs).size:=λi j _ hij hj=>by
   rw[psz] at hj;rw[Qu] at h2;rw[show i=j by omega];exact oc.irr _
  refine wpAny_bind (Qun ho6 rfl ?_);refine wpAny_bind (Qn2 ho6 rfl ?_ (Qv _) (by rw[Quf];show(prs vs).size<=_;rw[(Qd8 (prs vs)).size_eq,psz];omega));simp only[bne_self_eq_false,Qal,if_false];show wpAny _ _ (ret ZH) _ _ { s with heap:=h3.update a (Yg λ_=>Array.map (λx=>x.snd) (prs vs)) };rw[out];exact Qg (h (prs vs) (Qd8 (prs vs)) (f) _ _ (K3.trans (Qf2 _)) (QjY ho6 λ_=>_))
 ·rw[if_neg h2,if_neg h2];refine wpAny_bind (hkind h3 K3 _ _ λκ hA=>?_);refine wpAny_bind (wpAny_mono (Qh4 (a₀:=prs vs) (κ:=κ) (st:=Qxj κ (prs vs) #[] 7 none) (Q:=λ_ st'=>SB κ (prs vs) st'/\Sg c (arrOf st') 0 (prs vs).size) hA ⟨Qd8 _,rfl,rfl⟩ rfl λst' b g=>⟨b,g⟩) ?_ λ_ _ e=>e);rintro⟨⟨⟩,st'⟩ s' ⟨rfl,b,g⟩
  dsimp only
  rw[b.failed];have g2:Sg c (arrOf st') 0 (arrOf st').size:=by rw[b.size];exact g
  refine wpAny_bind (Qun ho6 rfl ?_);refine wpAny_bind (Qn2 ho6 rfl ?_ (Qv _) (by rw[Quf];show(arrOf st').size<=_;rw[(b.perm).size_eq,psz];omega));simp only[bne_self_eq_false,Qal,if_false];show wpAny _ _ (ret ZH) _ _ { s with heap:=h3.update a (Yg λ_=>Array.map (λx=>x.snd) (arrOf st')) };rw[out];exact Qg (h (arrOf st') (b.perm) (g2) _ _ (K3.trans (Qf2 _)) (QjY ho6 λ_=>_))
theorem Qf5{Q:Value->Shared->Prop}{l:Addr}{T:String}{o:Obj}{vs:List Value}{n:Nat}(hT:T = "list" ∨ T = "tuple")(ho:s.heap.get? l=some o)(hc:o.cls=.type T)(hd:o.data=.seq vs.toArray n)(hz:vs.length<=sizeLine)
  (h:∀h':Za,(∀b x,s.heap.get? b=some x->h'.get? b=some x)->∀(P:PySem.Fin->Shared->Prop)(E':Value->Shared->Prop),(∀s2,Q (.ref h'.objs.size) s2->P (.done (.ret .none)) s2) ->
   wpAny (model prog w) A.in1.in1 (QcQ.«list.sort» ⟨[.ref h'.objs.size],[]⟩) P E' { s with heap:=h'.push (seqObj "list" vs.toArray 0) }) :
  wpAny (model prog w) A (call (.builtin "sorted") [.ref l]) Q E s:=by
 refine QgZ kind_sorted plain_sorted entry_sorted (args_sorted1 _) ?_
 unfold QcQ.«sorted»;refine wpAny_bind (m:=checkCount "sorted" 1 1 _) (Qg ?_);refine wpAny_bind (Qxa (items:=vs.toArray) l hT ho hc hd (λh' kp=>?_) (by rw[Qu];exact hz));refine wpAny_bind (QnZ ?_ (by rw[QnU];exact hz));have hoL:(h'.push (seqObj "list" vs.toArray 0)).get? h'.objs.size=some (seqObj "list" vs.toArray 0):=QP _ rfl;show wpAny _ _ _ _ _ { s with heap:=h'.push (seqObj "list" vs.toArray 0) };refine wpAny_bind (J7 (ZO slot_list_sort ⟨_,hoL,rfl⟩ entry_list_sort ?body (args_list_sort _)));exact h h' kp _ _ λs2 hq=>⟨_,rfl,Qg ⟨_,rfl,hq⟩⟩
open Classical in
noncomputable def rdV (h:Za) (v:Value):Qa:=if q:∃d as,Qbs h v d as/\d.canLay0=true then q.choose else .none
theorem Qly{h:Za}{v:Value}{d:Qa}{as:List Addr}(r:Qbs h v d as)(c:d.canLay0=true):rdV h v=d:=by
 unfold rdV;have q:∃d as,Qbs h v d as/\d.canLay0=true:=⟨d,as,r,c⟩
 rw[dif_pos q];obtain⟨as',r',c'⟩:=q.choose_spec;exact(QaY d _ v as as' c r r').symm
theorem QdN{α β:Type}(f:α->β){l m:List β}(p:l.Perm m):∀{T:List α},m=T.map f->∃T':List α,T'.Perm T/\l=T'.map f:=by
 induction p with
 |nil=>intro T e;exact⟨T,QnW _,e⟩
 |@cons x l1 l2 _ ih=>
  intro T e;cases T with
  |nil=>cases e
  |cons t T=>
   rw[Jh] at e;injection e with e1 e2
   obtain⟨T',p',e'⟩:=ih e2;exact⟨t::T',p'.cons t,by rw[Jh,<- e1,<- e']⟩
 |@swap x y l=>
  intro T e;cases T with
  |nil=>cases e
  |cons t T=>
   cases T with
   |nil=>rw[Jh] at e;injection e with e1 e2;cases e2
   |cons t2 T=>
    rw[Jh,Jh] at e;injection e with e1 e2
    injection e2 with e3 e4
    exact⟨t2::t::T,List.Perm.swap t t2 T,by rw[Jh,Jh,<- e1,<- e3,<- e4]⟩
 |@trans l1 l2 l3 _ _ ih1 ih2=>
  intro T e;obtain⟨T2,p2,e2⟩:=ih2 e;obtain⟨T1,p1,e1⟩:=ih1 e2;exact⟨T1,p1.trans p2,e1⟩
end
mutual
theorem QiM:∀(d:Qa),Qh0 d d=true->okK d=true
 |.int _,_=>rfl
 |.tuple ds,h=>QjQ ds h
 |.none,h=>by cases h
 |.bool _,h=>by cases h
 |.str _,h=>by cases h
 |.list _,h=>by cases h
 |.dict _,h=>by cases h
theorem QjQ:∀(ds:List Qa),Qc5 ds ds=true->Qeg ds=true
 |[],_=>rfl
 |d::ds,h=>by
  have h:=Qo.mp (show(Qh0 d d&&Qc5 ds ds)=true from h);show(okK d&&Qeg ds)=true;rw[QiM d h.1,QjQ ds h.2];rfl
end
mutual
theorem Qdu:∀(d:Qa),okK d=true->d.canLay0=true
 |.int _,_=>rfl
 |.tuple ds,h=>Qjv ds h
 |.none,h=>by cases h
 |.bool _,h=>by cases h
 |.str _,h=>by cases h
 |.list _,h=>by cases h
 |.dict _,h=>by cases h
theorem Qjv:∀(ds:List Qa),Qeg ds=true->Jd ds=true
 |[],_=>rfl
 |d::ds,h=>by
  have h:=Qo.mp (show(okK d&&Qeg ds)=true from h);simp only[Jd,Qdu d h.1,Qjv ds h.2,Bool.and_self]
end
structure QbN (ds:List Qa):Prop where
 cmp:∀x∈ds,∀y∈ds,Qh0 x y=true
 dep:∀x∈ds,x.depth<=20
end Rt
namespace L2
open PySem.Calls _root_.Rd _root_.Rk _root_.Rs Rt Dl
structure Trp where
 x:V
 v:Value
 d:Qa
theorem QuC{H:Hp}:∀{xs:List V}{ds:List Qa}{vs:List Value},Dats H xs ds->Vals xs vs->∃T:List Trp,xs=T.map (·.x)/\vs=T.map (·.v)/\ds=T.map (·.d)/\∀t∈T,Dat H t.x t.d/\RelV t.x t.v
 |_,_,_,.nil,.nil=>⟨[],rfl,rfl,rfl,λ_ h=>nomatch h⟩
 |_,_,_,.cons q qs,.cons r rs=>by
  obtain⟨T,e1,e2,e3,h⟩:=QuC qs rs;refine⟨⟨_,_,_⟩::T,by rw[e1];rfl,by rw[e2];rfl,by rw[e3];rfl,λt ht=>?_⟩;rcases QN.mp ht with z | z
  ·rw[z];exact⟨q,r⟩
  ·exact h t z
theorem Qp8{H:Hp}:∀{T:List Trp},(∀t∈T,Dat H t.x t.d/\RelV t.x t.v)->Dats H (T.map (·.x)) (T.map (·.d))/\Vals (T.map (·.x)) (T.map (·.v))
 |[],_=>⟨.nil,.nil⟩
 |t::T,h=>by
  obtain⟨a,b⟩:=Qp8 (T:=T) λt ht=>h t (.tail _ ht)
  exact⟨.cons (h t (.head _)).1 a,.cons (h t (.head _)).2 b⟩
def QlC:List V->Hp->VK->Prop:=λxs H Q=>∃(l:Addr)(vs:List V)(ds:List Qa),xs=[.ref l]/\(H l=some (.lst vs)∨H l=some (.tup vs))/\Dats H vs ds/\QbN ds /\
 ∀(t:Addr)(ys:List V)(es:List Qa)(H2:Hp),Same H H2->H t=none->H2 t=some (.lst ys)->Dats H2 ys es->es.Perm ds->es.Pairwise (λa b=>ltD b a=false)->(∀y∈ys,y∈vs)->Q (.ref t) H2
section
variable{X:Cx}
theorem Qcm(hu:X.A.units+60<cLine):CallR X (.builtin "sorted") QlC:=by
 intro pins s σ H xs us Q I r h;obtain⟨l,vs,ds,rfl,hl,dts,so,q⟩:=h;obtain⟨u,rfl,ru⟩:=vals1 r;cases ru;have hu2:X.A.in1.in1.units+2*20+4<cLine:=by show X.A.units+1+1+2*20+4<cLine;omega
 obtain⟨T,o,its,n,hT,ho,hc,hd,rv,hz⟩:∃(T:String)(o:Obj)(its:List Value)(n:Nat),(T = "list" ∨ T = "tuple")/\s.heap.get? l=some o/\o.cls=.type T/\o.data=.seq its.toArray n/\Vals vs its/\vs.length<=sizeLine:=by
  rcases hl with hl | hl
  ·obtain⟨hz,its,n,rv,ho⟩:=I.hok l _ hl;exact⟨"list",_,its,n,.inl rfl,ho,rfl,rfl,rv,hz⟩
  ·obtain⟨hz,its,rv,o,ho,hc,n,hd⟩:=I.hok l _ hl;exact⟨"tuple",o,its,n,.inr rfl,ho,hc,hd,rv,hz⟩
 have li:=rv.length;obtain⟨⟨as,ra⟩,cl⟩:=Y4 I.hok ds vs its dts rv;have okds:Qeg ds=true:=Qir λd hd=>QiM d (so.cmp d hd d hd)
 refine Qf5 hT ho hc hd (by omega) λh' kp P E' hP=>?_
 have ra':=QaD kp ds its as okds ra
 let c:Keyed->Keyed->Bool:=λx y=>ltD (rdV h' x.1) (rdV h' y.1)
 have oc:Ord c:=⟨λx y=>Qpx _ _,λx y z=>QrJ _ _ _⟩;refine Qgp (s:={ s with heap:=h'.push (seqObj "list" its.toArray 0) }) (c:=c) (QP _ rfl) (by omega) oc (λh2 k2 Q' E' hq=>?_) λarr pm sg h2 e k2 e2=>hP _ ?_
 ·have kk:∀b x,h'.get? b=some x->h2.get? b=some x:=λb x e=>k2 b x (QJ (Qs e)) (Qf _ e)
  have ra2:=QaD kk ds its as okds ra';have asks:∀κ,QpX ds κ->(∀b,κ=tuples' b->∀d∈ds,∃es,d=.tuple es)->Asks X.prog X.w X.A.in1.in1 { s with heap:=h2 } κ (prs its) c:=λκ su tb=>by
   refine⟨oc,λx y hx hy C E'' hC=>?_⟩;rw[Qee] at hx hy;obtain⟨ex,hx⟩:=QcT hx;obtain⟨ey,hy⟩:=QcT hy;obtain⟨d1,m1,b1,r1⟩:=ZZ ra2 x.2 hx;obtain⟨d2,m2,b2,r2⟩:=ZZ ra2 y.2 hy;obtain⟨d1',m1',b1',r1'⟩:=ZZ ra' x.2 hx;obtain⟨d2',m2',b2',r2'⟩:=ZZ ra' y.2 hy;have k1:=YF okds d1 m1;have k2:=YF okds d2 m2;have c1:=Qdu d1 k1;have c2:=Qdu d2 k2;have c1':=Qdu d1' (YF okds d1' m1');have c2':=Qdu d2' (YF okds d2' m2');have q1:d1'=d1:=QaY d1' d1 x.2 _ _ c1' (Qdm kk d1' _ _ (YF okds d1' m1') r1') r1;have q2:d2'=d2:=QaY d2' d2 y.2 _ _ c2' (Qdm kk d2' _ _ (YF okds d2' m2') r2') r2;subst q1 q2;have hC:C (ltD (rdV h' x.1) (rdV h' y.1)) { s with heap:=h2 }:=hC;rw[ex,ey,Qly r1' c1',Qly r2' c2'] at hC;rw[ex,ey];exact Qv0 (N:=20) su m1 r1 r2 c1 c2 (so.cmp _ m1 _ m2) (λb e=>tb b e _ m1) (so.dep _ m1) hu2 hC
  cases ds with
  |nil=>
   cases ra2;exact QjC (s:={ s with heap:=h2 }) .nil rfl (λd hd=>nomatch hd) λκ su=>hq κ (asks κ su λb _ d hd=>nomatch hd)
  |cons d0 ds0=>
   have sh:(∀d∈d0::ds0,∃es,d=.tuple es)∨∀d∈d0::ds0,∃i,d=.int i:=by
    cases d0 with
    |int i=>exact .inr λd hd=>by have:=so.cmp _ (.head _) d hd;cases d<;>first | exact⟨_,rfl⟩ | (cases this;done)
    |tuple es=>exact .inl λd hd=>by have:=so.cmp _ (.head _) d hd;cases d<;>first | exact⟨_,rfl⟩ | (cases this;done)
    |_=>have:=so.cmp _ (.head _) _ (.head _);cases this
   rcases sh with sh | sh
   ·exact QjC (s:={ s with heap:=h2 }) ra2 okds sh λκ su=>hq κ (asks κ su λb _=>sh)
   ·have one:QpX (d0::ds0) oneType':=.inr (.inl rfl);by_cases l2:its.length<2
    ·have hk1:∀v∈its,∀(Q'':Option Value->Shared->Prop),Q'' none { s with heap:=h2 }->wpAny (model X.prog X.w) X.A.in1.in1 (firstOfTuple' v) Q'' E' { s with heap:=h2 }:=λv hv Q'' q''=>by
      obtain⟨d,hd,bs,r⟩:=ZZ ra2 v hv;obtain⟨i,rfl⟩:=sh d hd;cases r;exact Qg q''
     have hk2:∀v∈its,∀(Q'':Value->Shared->Prop),Q'' (Rt.tyV h2 v) { s with heap:=h2 }->wpAny (model X.prog X.w) X.A.in1.in1 (typeOf v) Q'' E' { s with heap:=h2 }:=λv hv Q'' q''=>by
      obtain⟨d,hd,bs,r⟩:=ZZ ra2 v hv;exact Qh8 (s:={ s with heap:=h2 }) r (YF okds d hd) q''
     rw[keyKind'_eq,Qaz,map_eq_pure_bind];refine wpAny_bind (wpAny_bind (QfC (g:=λ_=>(none:Option Value)) its hk1 (Qg ?_)));cases its with
     |nil=>cases ra2
     |cons v0 vs0=>
      rw[if_neg (by simp)];rw[if_neg (by simp)];rw[QjX,Qaz,map_eq_pure_bind];refine wpAny_bind (wpAny_bind (wpAny_bind (QfC (g:=Rt.tyV h2) _ hk2 (Qg ?_))));have fin:∀b:Bool,wpAny (model X.prog X.w) X.A.in1.in1 (pure (if b=true then oneType' else general')) Q' E' { s with heap:=h2 }:=λb=>by
       have ni:∀{κ:YB},(∀b',κ≠tuples' b')->∀b',κ=tuples' b'->∀d∈d0::ds0,∃es,d=Qay es:=λh b' e=>(h b' e).elim
       cases b
       ·exact Qg (hq _ (asks _ (.inl rfl) (ni λb' e=>by cases e)))
       ·exact Qg (hq _ (asks _ (.inr (.inl rfl)) (ni λb' e=>by cases e)))
      split
      ·exact Qg (fin _)
      ·exact Qg (fin _)
    ·have ia:∀{vs:List Value}{ds:List Qa}{as:List Addr},YT h2 vs ds as->(∀d∈ds,∃i,d=Qp i)->∃ns,IntsAre vs ns:=by
      intro vs ds as ra hs;induction vs generalizing ds as with
      |nil=>exact⟨[],.nil⟩
      |cons v vs ih=>
       cases ra with
       |cons r rs=>
        obtain⟨i,rfl⟩:=hs _ (.head _);obtain⟨ns,hn⟩:=ih rs λd hd=>hs d (.tail _ hd)
        cases r;exact⟨i::ns,.cons _ _ hn⟩
     obtain⟨ns,hn⟩:=ia ra2 sh
     match its,hn,l2 with
     |v1::v2::vs',hn,_=>
      rw[keyKind_ints hn];exact Qg (hq _ (asks _ one λb e=>by cases e))
     |[_],_,l2=>exact absurd (Nat.lt_succ_self 1) l2
     |[],_,l2=>exact absurd (Nat.zero_lt_two) l2
 ·have I1:Inv X pins σ H { s with heap:=h' }:=I.kept (t':=s.toks) kp;have hf:H h'.objs.size=none:=I1.hok.fresh (Qk _);have pv:(arr.toList.map (·.2)).Perm its:=by
   have:=(YW.mp pm).map (·.2)
   rwa [QsF] at this
  obtain⟨Tr,t1,t2,t3,th⟩:=QuC dts rv;obtain⟨Tr',p',e'⟩:=QdN Trp.v (l:=arr.toList.map (·.2)) (by rw[<- t2];exact pv) (T:=Tr) rfl;have th':∀t∈Tr',Dat H t.x t.d/\RelV t.x t.v:=λt ht=>th t (p'.mem_iff.mp ht)
  obtain⟨dts',rv'⟩:=Qp8 th';have ll:(Tr'.map (·.x)).length<=sizeLine:=by
   have:=p'.length_eq;rw[Qe,this,<- Qe (f:=Trp.x),<- t1];exact hz
  have I2:Inv X pins σ (upd H h'.objs.size (.lst (Tr'.map (·.x)))) { s with heap:=h2 }:=
   I1.laid (t':=s.toks) (λb x e'=>k2 b x (QJ (Qs e')) (Qf _ e')) (Qk _) (show ObjOk X.prog X.w _ _ _ (.lst _) from⟨ll,_,e,by rw[e'];exact rv',e2⟩)
  refine⟨.ref h'.objs.size,_,I2,rfl,q _ _ (Tr'.map (·.d)) _ (Jk hf) hf Jm (dts'.same (Jk hf)) (by rw[t3];exact p'.map _) ?_ λy hy=>?_⟩
  ·-- in order
   have len:arr.toList.length=Tr'.length:=by have:=congrArg List.length e';rwa [Qe,Qe] at this
   rw[Z7];intro i j hi hj hij;rw[Qe] at hi hj;rw[Qr8,Qr8];have ka:∀(k:Nat)(hk:k<Tr'.length),rdV h' (kx arr k).1=Tr'[k].d:=λk hk=>by
    have hk':k<arr.size:=by rw[<- Qq,len];exact hk
    have m:=QeN hk';have m2:=(YW.mp pm).mem_iff.mp m;rw[Qee] at m2;have e3:=(QcT m2).1;have e4:(kx arr k).2=Tr'[k].v:=by
     have h5:(arr.toList.map (·.2))[k]? = some (kx arr k).2:=by rw[Q5,QaR hk'];rfl
     rw[e',Q5,Ql hk] at h5;exact(Qy h5).symm
    rw[e3,e4];obtain⟨dt,rv0⟩:=th' _ (Qcp hk);obtain⟨⟨bs,rr⟩,cc⟩:=Yi I1.hok _ _ _ dt rv0;exact Qly rr cc
   have g:ltD (rdV h' (kx arr j).1) (rdV h' (kx arr i).1)=false:=sg i j (Qv _) (by omega) (by rw[<- Qq,len];exact hj);rw[ka i hi,ka j hj] at g;exact g
  ·obtain⟨t,ht,rfl⟩:=Qw.mp hy;rw[t1];exact Qw.mpr ⟨t,p'.mem_iff.mp ht,rfl⟩
end
end L2
namespace Dl
open L2 _root_.Rd Rk Rt
theorem Qwk{A:Addr->Prop}{H:Hp}{xs:List V}{ds:List Qa}(q:DAs A H xs ds){v:V}(hv:v∈xs):∃d∈ds,DA A H v d:=by
 obtain⟨i,hi⟩:=Jf.mp hv;obtain⟨d,hd,h⟩:=q.getV i v hi;exact⟨d,QM hd,h⟩
theorem QhB{A:Addr->Prop}{H:Hp}:∀{ys:List V}{es:List Qa},Dats H ys es->(∀y∈ys,∃d,DA A H y d/\nd d=true/\d.canLay0=true/\Dat H y d)->(∀y d e,y∈ys->Dat H y d->Dat H y e->d=e)->DAs A H ys es
 |_,_,.nil,_,_=>.nil
 |_,_,.cons (x:=x) (d:=d) q qs,h,u=>by
  obtain⟨d',h1,_,_,h4⟩:=h x (.head _);have:d=d':=u x d d' (.head _) q h4;subst this;exact .cons h1 (QhB qs (λy hy=>h y (.tail _ hy)) λy d e hy=>u y d e (.tail _ hy))
mutual
theorem QjL{H:Hp}:∀(d e:Qa)(x:V),Dat H x d->Dat H x e->d=e
 |.none,e,_,.non,h=>by cases h;rfl
 |.bool _,e,_,.bl _,h=>by cases h;rfl
 |.int _,e,_,.int _,h=>by cases h;rfl
 |.str _,e,_,.str _ _,h=>by cases h;rfl
 |.tuple ds,e,_,.tup (xs:=xs) e1 q,h=>by
  cases h with
  |@tup a ys es e2 q'=>
   rw[e1] at e2;cases e2;rw[QeU ds es xs q q']
  |@lst a ys es e2 q'=>rw[e1] at e2;cases e2
 |.list ds,e,_,.lst (xs:=xs) e1 q,h=>by
  cases h with
  |@tup a ys es e2 q'=>rw[e1] at e2;cases e2
  |@lst a ys es e2 q'=>
   rw[e1] at e2;cases e2;rw[QeU ds es xs q q']
 |.dict _,_,_,q,_=>nomatch q
theorem QeU{H:Hp}:∀(ds es:List Qa)(xs:List V),Dats H xs ds->Dats H xs es->ds=es
 |[],es,_,.nil,h=>by cases h;rfl
 |d::ds,es,_,.cons q qs,h=>by
  cases h with
  |@cons x xs e es q' qs'=>rw[QjL d e _ q q',QeU ds es _ qs qs']
end
mutual
theorem Qho:∀(d:Qa),okK d=true->nd d=true
 |.int _,_=>rfl
 |.tuple ds,h=>Qis ds h
 |.none,h=>by cases h
 |.bool _,h=>by cases h
 |.str _,h=>by cases h
 |.list _,h=>by cases h
 |.dict _,h=>by cases h
theorem Qis:∀(ds:List Qa),Qeg ds=true->nds ds=true
 |[],_=>rfl
 |d::ds,h=>by
  have h:=Qo.mp (show(okK d&&Qeg ds)=true from h);show(nd d&&nds ds)=true;rw[Qho d h.1,Qis ds h.2];rfl
end
@[irreducible] def Qhb:List Qa->(Qa->Prop)->Prop
 |[.list ds],Q=>QbN ds/\∀es:List Qa,es.Perm ds->es.Pairwise (λa b=>ltD b a=false)->Q (.list es)
 |[.tuple ds],Q=>QbN ds/\∀es:List Qa,es.Perm ds->es.Pairwise (λa b=>ltD b a=false)->Q (.list es)
 |_,_=>False
theorem Qeb{ds:List Qa}{Q:Qa->Prop}(h:QbN ds)(k:∀es:List Qa,es.Perm ds->es.Pairwise (λa b=>ltD b a=false)->Q (.list es)):Qhb [.list ds] Q/\Qhb [.tuple ds] Q:=by
 unfold Qhb;exact⟨⟨h,k⟩,h,k⟩
theorem Qel:QdI QlC Qhb:=λA P H vs ds R Q ln dm q h k=>by
 have go:∀(l:Addr)(xs:List V)(ds:List Qa),(H l=some (.lst xs)∨H l=some (.tup xs))->DAs A H xs ds->QbN ds->(∀es:List Qa,es.Perm ds->es.Pairwise (λa b=>ltD b a=false)->R (.list es))->QlC [.ref l] H Q:=λl xs ds hl qq so hR=>by
  have okds:Qeg ds=true:=Qir λd hd=>QiM d (so.cmp d hd d hd)
  refine⟨l,xs,ds,rfl,hl,QbK _ _ (Qis ds okds) qq,so,λt ys es H2 s n e2 dts pm pw sub=>?_⟩;have dm2:∀a,A a->∃xs,H2 a=some (.lst xs):=λa z=>by obtain⟨xs,e⟩:=dm a z;exact⟨xs,s _ _ e⟩
  refine k _ (hR es pm pw) _ H2 s (.lst (λz=>?_) e2 (QhB dts (λy hy=>?_) λy d e _=>QjL d e y)) (QaS n)
  ·obtain⟨xs,e⟩:=dm t z;rw[n] at e;cases e
  ·obtain⟨d,hd,da⟩:=Qwk qq (sub y hy);have ok:=YF okds d hd;exact⟨d,da.same s,Qho d ok,Qdu d ok,QhC d y (Qho d ok) (da.same s)⟩
 unfold Qhb at h;split at h
 ·obtain⟨v,rfl,hv⟩:=pd1 q;obtain⟨l,xs,rfl,e,qq⟩:=hv.list;exact go l xs _ (.inl e) qq h.1 h.2
 ·obtain⟨v,rfl,hv⟩:=pd1 q;obtain⟨l,xs,rfl,e,qq⟩:=hv.tuple;exact go l xs _ (.inr e) qq h.1 h.2
 ·exact h.elim
end Dl
namespace L2
open PySem.Calls _root_.Rd _root_.Rk Rt
section
variable{X:Cx}
def ddI(ns:List Int):List Int:=ns.foldl Qcv []
theorem QpL(ns:List Int):firstMet (λi=>ns.getD i 0) ns.length=ddI ns:=by
 unfold firstMet ddI
 congr 1
 apply Qe2
 intro i;rw[Q5];by_cases h:i<ns.length
 ·rw[QdJ h,Ql h];show some (ns.getD i 0)=_;rw[Zs,Ql h];rfl
 ·rw[YM (by simpa using h),YM (by omega)];rfl
def QxU(K:PySem.W.Frag):List V->Hp->VK->Prop:=λxs H Q=>∃(l:Addr)(ns:List Int),xs=[.ref l]/\SqL K H l (ns.map V.int)/\ns.length<=4000 /\
 ∀(t:Addr)(H2:Hp),Same H H2->H t=none->H2 t=some (.set (λk=>(ddI ns).any (· == k)) (ddI ns).length)->Q (.ref t) H2
theorem Qnt(hc:X.calm=true):CallR X (.type "set") (QxU X.K):=by
 intro pins s σ H xs us Q I r h;obtain⟨p,ns,rfl,hp,hn,q⟩:=h;obtain⟨u,rfl,ru⟩:=vals1 r;cases ru;obtain⟨its,rv,pl,hz⟩:=I.list hp;have hi:IntsAre its ns:=intsAre_of rv;have hl:=hi.length;refine PySem.call_set_list (items:=its.toArray) (ns:=ns) (I.ok.hd hc) pl.isList (by simpa using hi) (by rw[Qu,hl];unfold scanBound;omega) λh' tk hS hk=>?_
 have ez:its.toArray.size=ns.length:=by rw[Qu];exact hl
 rw[ez,QpL] at hS;have hf:H s.heap.objs.size=none:=I.hok.fresh (Qk _);refine⟨.ref s.heap.objs.size,upd H s.heap.objs.size (.set (λk=>(ddI ns).any (· == k)) (ddI ns).length),I.laid (t':=tk) (λb x e=>hk b x (Qs e) e) (Qk _) hS,rfl,q _ _ (Jk hf) hf Jm⟩
def Qss:List V->Hp->VK->Prop:=λxs H Q=>∃(a:Addr)(S:Int->Bool)(n:Nat),xs=[.ref a]/\H a=some (.set S n)/\n<=4000/\Q (.int n) H
theorem QiT:CallR X (.builtin "len") Qss:=by
 intro pins s σ H xs us Q I r h;obtain⟨a,S,n,rfl,ha,hn,q⟩:=h;obtain⟨u,rfl,ru⟩:=vals1 r;cases ru;obtain⟨o,es,ep,t,ho,hex,hd,hel,hmem,hb,hf,hz⟩:=I.hok a _ ha;have hz:es.size=n:=hz;refine PySem.call_len_set ho hex hd hf (by
                       rw[hz];have:(4000:Int)<2^63:=by decide
                       omega) ?_
 rw[hz];exact⟨.int n,H,I.tok _,⟨_,rfl⟩,q⟩
theorem QjK:∀(ns σ:List Int),(ns.foldl Qcv σ).length<=σ.length+ns.length/\(σ.Nodup->((ns.foldl Qcv σ).length=σ.length+ns.length↔(σ++ns).Nodup))
 |[],σ=>⟨Qk _,λh=>by simp[h]⟩
 |n::ns,σ=>by
  rw[QgP,QC];by_cases z:σ.any (· == n)=true
  ·have e:Qcv σ n=σ:=by unfold Qcv;rw[if_pos z]
   rw[e];obtain⟨a,b⟩:=QjK ns σ;refine⟨by omega,λhs=>⟨λq=>by omega,λq=>?_⟩⟩;obtain⟨x,hx,hn⟩:=QaZ.mp z;have hn:=beq_iff_eq.mp hn;subst hn;exact absurd rfl ((YU.mp q).2.2 x hx x (.head _))
  ·have e:Qcv σ n=σ++[n]:=by unfold Qcv;rw[if_neg z]
   rw[e];obtain⟨a,b⟩:=QjK ns (σ++[n]);rw[Qd] at a b;have nm:n∉σ:=λhx=>z (QaZ.mpr ⟨n,hx,by simp⟩)
   refine⟨by simp only[QcJ] at a;omega,λhs=>?_⟩;have hs2:(σ++[n]).Nodup:=YU.mpr ⟨hs,by simp,λx hx y hy=>by rw[Jz.mp hy];exact λe=>nm (e ▸ hx)⟩;have:=b hs2;rw[Q3] at this;have e3:σ++n::ns=σ++([n]++ns):=rfl;rw[e3,<- this];simp only[QcJ];omega
theorem Qyx(ns:List Int):(ddI ns).length<=ns.length:=by have:=(QjK ns []).1;unfold ddI;simpa using this
theorem Qgz(ns:List Int):(ddI ns).length=ns.length↔ns.Nodup:=by have:=(QjK ns []).2 (by simp);unfold ddI;simpa using this
def QyQ:R2:=λx y H Q=>∃d e,Dat H x d/\Dat H y e/\Dl.Qh0 d e=true/\d.depth<=20/\Q (.bl (Dl.ltD d e)) H
theorem QrB(hu:X.A.units+60<cLine):OpR X (compareOp .Lt) QyQ:=by
 intro pins s σ H x y v u Q I rx ry h;obtain⟨d,e,qx,qy,hk,hd,q⟩:=h;obtain⟨⟨as,ra⟩,ca⟩:=Yi I.hok d x v qx rx;obtain⟨⟨bs,rb⟩,cb⟩:=Yi I.hok e y u qy ry;exact Qsq 20 d e X.A s v u as bs ra rb ca cb hk hd (by omega) _ _ _ _ ⟨.bl _,H,I,rfl,q⟩
end
end L2
namespace Dl
open L2 _root_.Rd Rk Rt
@[irreducible] def anyD:List Qa->(Qa->Prop)->Prop
 |[.list ds],Q=>∃bs,Qb9 ds=some bs/\Q (.bool (bs.any id))
 |_,_=>False
def QzL:Qa->Qa->(Qa->Prop)->Prop:=λd e Q=>(okK d=true/\okK e=true/\Qh0 d e=true/\d.depth<=20)/\Q (.bool (ltD d e))
theorem QrG:OpD QyQ QzL:=λA P H x y d1 d2 R Q ln dm hx hy h k=>by
 obtain⟨⟨h1,h2,h3,h4⟩,hR⟩:=h;exact⟨d1,d2,hx.dat (Qho d1 h1),hy.dat (Qho d2 h2),h3,h4,k _ hR _ H (Same.refl H) (.bl _) Qas⟩
section
variable{X:Cx}{E:XK}
def Qnj(w:DE):DE:=λδ Q EX=>w δ (λd=>match d with
 |.list ds=>∃ns,Qb8 ds=some ns/\ns.length<=4000/\Q (.int (ddI ns).length)
 |_=>False) EX
theorem bt_set:bootBuiltins "set" = some (.type "set"):=by decide +kernel
theorem Ql5{e:Q2}{w:DE}{p p2 pos pos2:Pos}(hg:Gl X "len")(hm:X.mg "len" = none)(hg2:Gl X "set")(hm2:X.mg "set" = none)(h:PE X e (tX .P X.K E w))(hc:X.calm=true)(hs:notStar e=true):PE X (.Call (.Name "len" p) [.Call (.Name "set" p2) [e] [] pos2] [] pos) (tX .F X.K E (Qnj w)):=by
 refine PE.imp (Zu QiT hg hm Qaj (Qdt (QeF (Qnt hc) hg2 hm2 bt_set (Qdt h J4 hs) (he:=Yj hs)) J4)) λσ H Q ⟨F,δ,R,EX,rel,hw,k,o⟩=>?_
 refine⟨F,δ,_,EX,rel,hw,λd hd v H1 rel1 kp1 vk=>?_,o⟩;cases d<;>first | exact(show False from hd).elim | skip
 obtain⟨ns,hn,hl,hR⟩:=hd;rw[Qgt hn] at vk;obtain⟨l,xs,rfl,e,q⟩:=DP.list vk;rw[Qej q] at e;refine⟨l,ns,rfl,SqL.of e,hl,λt H2 s2 n2 e2=>⟨t,_,_,rfl,e2,?_,?_⟩⟩
 ·have:=Qyx ns;omega
 ·exact k _ hR _ H2 (rel1.same s2) (kp1.trans (Kp.same rel1 s2)) ⟨.int _,Qad⟩
theorem Qge{e:Q2}{w:DE}{p p2 pos pos2:Pos}(hg:Gl X "len")(hm:X.mg "len" = none)(hg2:Gl X "set")(hm2:X.mg "set" = none)(h:QE .P X E e w)(hc:X.calm=true:=by rfl)(hs:notStar e=true:=by rfl):QE .F X E (.Call (.Name "len" p) [.Call (.Name "set" p2) [e] [] pos2] [] pos) (Qnj w):=⟨Ql5 hg hm hg2 hm2 h.h hc hs⟩
end
end Dl
namespace Rk
open L2 _root_.Rd Dl
def inW(d:Qa)(a b:Int):Bool:=match d with
 |.int i=>decide (a<=i)&&decide (i<=b)
 |_=>false
theorem Qv7{i a b:Int}(h1:a<=i)(h2:i<=b):inW (.int i) a b=true:=by
 show(decide (a<=i)&&decide (i<=b))=true;rw[decide_eq_true h1,decide_eq_true h2];rfl
theorem QkC{d:Qa}{a b:Int}(h:inW d a b=true):∃i,d=.int i/\a<=i/\i<=b:=by
 cases d<;>first | (cases h;done) | skip
 rename_i i
 have h:=Qo.mp (show(decide (a<=i)&&decide (i<=b))=true from h);exact⟨i,rfl,of_decide_eq_true h.1,of_decide_eq_true h.2⟩
def Qeu:DF:=λargs R _=>∃d a b,args=[.v d,.v (.int a),.v (.int b)]/\R (.bool (inW d a b))
theorem Qcj(ns:List Int):nds (ns.map Qp)=true:=QbH.mpr λd hd=>by
 obtain⟨i,_,rfl⟩:=Qw.mp hd;rfl
theorem QjP(xs:List Qa)(k:Int)(h:0<=k):Dl.cutD xs none (some k)=xs.take k.toNat:=by
 unfold Dl.cutD;obtain⟨j,rfl⟩:∃j:Nat,k=j:=⟨k.toNat,by omega⟩
 rw[HT.Qf8,HT.Qih,ZQ,Nat.sub_zero,JL];by_cases z:j<=xs.length
 ·rw[YO z]
 ·rw[Quc (by omega),J5,Yz (by omega)]
end Rk
namespace Rx
open PySem.Calls L2
section
variable{X:Cx}{e:Q2}{st:Z4}{rest:List Z4}{pos:Pos}{te:TX}{t u:TSX}
theorem QsD(he:PEX X e te):PSX X (.Return (some e) pos) (λD σ H Ex=>te σ H D.rt Ex):=by
 intro pins s σ H D Ex I h;exact QgU (thn (he pins s σ H _ _ I h) λv s1 ⟨x,H1,I1,r1,q1⟩=>⟨x,σ,H1,I1,r1,q1⟩)
theorem QoB:PSXs X [] (λD σ H _=>D.nx σ H):=λpins s σ H D Ex I h=>QaA ⟨σ,H,I,h⟩
theorem QlO(h1:PSX X st t)(h2:PSXs X rest u):PSXs X (st::rest) (λD σ H Ex=>t { D with nx:=λσ' H'=>σ'=σ/\u D σ H' Ex } σ H Ex):=by
 intro pins s σ H D Ex I h;refine Qbr (thn (h1 pins s σ H _ Ex I h) λf s1 q=>?_);cases f with
 |next=>
  obtain⟨σ1,H1,I1,rfl,q1⟩:=q;exact h2 pins s1 σ1 H1 D Ex I1 q1
 |ret v=>exact q
 |brk=>exact q
 |cont=>exact q
end
end Rx
namespace L2
open Dl
end L2
namespace Dl
open L2 _root_.Rd Rk
def tXx(m:Md)(K:PySem.W.Frag)(w:DE):Rx.TX:=λσ H Q Ex=>∃(F:Fm)(δ:Sts)(R:Qa->Prop)(EX:XP),Rel K F σ H δ/\w δ R EX/\(∀d,R d->∀v H',Rel K F σ H' δ->Kp σ δ H H'->Vok m F σ δ H H' v d->Q v H')/\∀C,EX C->∀H',Rel K F σ H' δ->Kp σ δ H H'->Ex C H'
structure EndsX (K:PySem.W.Frag) (F:Fm) (σ:L2.St) (H:Hp) (δ:Sts) (DD:Qd1) (D:L2.Ends) (Ex:Addr->Hp->Prop):Prop where
 nx:∀δ',DD.nx δ'->δ'=δ/\∀H',Rel K F σ H' δ->Kp σ δ H H'->D.nx σ H'
 rt:∀d,DD.rt d->∀v H',Ke F H'->DA F.A0 H' v d->D.rt v H'
 rtF:∀d,DD.rtF d->∀v H',Ke F H'->DA F.A0 H' v d->FrV F.H0 H' v->D.rt v H'
 ex:∀C,DD.ex C->∀H',Rel K F σ H' δ->Kp σ δ H H'->Ex C H'
def tSx(K:PySem.W.Frag)(w:DS):Rx.TSX:=λD σ H Ex=>∃(F:Fm)(δ:Sts)(DD:Qd1),Rel K F σ H δ/\w DD δ/\EndsX K F σ H δ DD D Ex
structure QX (m:Md) (X:Cx) (e:Q2) (w:DE):Prop where h:Rx.PEX X e (tXx m X.K w)
structure QSX (X:Cx) (st:Z4) (w:DS):Prop where h:Rx.PSX X st (tSx X.K w)
structure QSXs (X:Cx) (sts:List Z4) (w:DS):Prop where h:Rx.PSXs X sts (tSx X.K w)
theorem EndsX.step{K:PySem.W.Frag}{F:Fm}{σ:L2.St}{H H1:Hp}{δ:Sts}{DD:Qd1}{D:L2.Ends}{Ex:Addr->Hp->Prop}(h:EndsX K F σ H δ DD D Ex)(k:Kp σ δ H H1):EndsX K F σ H1 δ DD D Ex:=
 ⟨λδ' h'=>⟨(h.nx δ' h').1,λH' r k'=>(h.nx δ' h').2 H' r (k.trans k')⟩,h.rt,h.rtF,λC hC H' r k'=>h.ex C hC H' r (k.trans k')⟩
section
variable{X:Cx}
theorem PEX.imp{e:Q2}{t t':Rx.TX}(h:Rx.PEX X e t)(i:∀σ H Q Ex,t' σ H Q Ex->t σ H Q Ex):Rx.PEX X e t':=λpins s σ H Q Ex I q=>h pins s σ H Q Ex I (i σ H Q Ex q)
theorem PSX.imp{e:Z4}{t t':Rx.TSX}(h:Rx.PSX X e t)(i:∀D σ H Ex,t' D σ H Ex->t D σ H Ex):Rx.PSX X e t':=λpins s σ H D Ex I q=>h pins s σ H D Ex I (i D σ H Ex q)
theorem PSXs.imp{e:List Z4}{t t':Rx.TSX}(h:Rx.PSXs X e t)(i:∀D σ H Ex,t' D σ H Ex->t D σ H Ex):Rx.PSXs X e t':=λpins s σ H D Ex I q=>h pins s σ H D Ex I (i D σ H Ex q)
def Qwu(f:DF)(wa:DSl):DE:=λδ Q EX=>wa δ (λargs=>f args Q EX) XF
variable{k:Nat}{f:Addr}{fd:QQ}{ps:List Str}{x:Str}{p pos:Pos}{e:Q2}{es:List Q2}{fD:DF}{wa:DSl}
theorem QhJ{m:Md}{fr:Bool}{K:PySem.W.Frag}{F:Fm}{σ:L2.St}{δ:Sts}{H H1:Hp}{R:Qa->Prop}{EX:XP}{Q:VK}{Ex:Addr->Hp->Prop}{vs:List V}{args:List Sl}(hm:∀{v:V}{d:Qa}{H':Hp},DA (Av F σ δ) H' v d->(fr=true->FrV H H' v)->Vok m F σ δ H H' v d)
  (k:∀d,R d->∀v H',Rel K F σ H' δ->Kp σ δ H H'->Vok m F σ δ H H' v d->Q v H')(kx:∀C,EX C->∀H',Rel K F σ H' δ->Kp σ δ H H'->Ex C H')(rel1:Rel K F σ H1 δ)(kp1:Kp σ δ H H1)(q:YK (QiX (Av F σ δ) (Z3 σ δ) H1) vs args)(ha:fD args R EX) :
  Ze fr fD vs H1 Q λcv _ H2=>∃C,cv=.ref C/\Ex C H2:=by
 refine⟨Av F σ δ,Z3 σ δ,args,R,EX,λa ha=>rel1.isl ha,λp hp=>⟨Yy hp,(Kp.refl rel1).2 p hp⟩,q,ha,λd hd v H' kq dv fr=>?_,λC hC H' kq=>⟨C,rfl,kx C hC H' (rel1.kp kq) (kp1.trans kq)⟩⟩;exact k d hd v H' (rel1.kp kq) (kp1.trans kq) (hm dv λz l e1 e2=>Qbl kp1 (fr z l e1 e2))
theorem Quw(G:FnOk X.prog X.w X.K X.mg X.base (Rx.CXE X.prog X.w) k f fd ps (Ze false fD))(hr:Room k X.A)(hg:Gl X x)(hm:X.mg x=some (.ref f))(hk:PySem.W.keepIn X.K (.ref f)=true)(hb:Binds X.K fd ps [])(ha:QAs X.nox E0 (e::es) wa)(hex:X.ex=[]:=by rfl)
  (hdb:(x == ("__debug__" : Str))=false:=by decide)(he:starEach (e::es) X.env=(false,eval e X.env)::starEach es X.env:=by rfl)(hpl:(backTo pos (starEach es X.env)).any (·.1)=false:=by rfl) :
  QX .D X (.Call (.Name x p) (e::es) [] pos) (Qwu fD wa):=by
 refine⟨PEX.imp (Rx.QoF G hr hg hm hk hb hex ha.h hdb he hpl) λσ H Q Ex ⟨F,δ,R,EX,rel,hw,k,kx⟩=>?_⟩;exact⟨F,δ,_,XF,rel,hw,λargs ha vs H1 rel1 kp1 q=>QhJ (m:=.D) (λh _=>h) k kx rel1 kp1 q ha,Qhl⟩
structure QFs (X:Cx) (es:List Q2) (fs:List (Addr×DF)):Prop where h:PA X.nox es (λσ H Q=>Q (fs.map λp=>V.ref p.1) H)
theorem Qv8:QFs X [] []:=⟨J4⟩
theorem QmZ{fs:List (Addr×DF)}{n:Str}{npos:Pos}(f:Addr)(fD:DF)(hg:Gl X.nox n)(hm:X.nox.mg n=some (.ref f))(hr:QFs X es fs)(hd:(n == ("__debug__" : Str))=false:=by decide):QFs X (.Name n npos::es) ((f,fD)::fs):=
 ⟨Qdt (X:=X.nox) (Qil (v:=.ref f) hg hm rfl hd) hr.h rfl⟩
def Qwv(fs:List (Addr×DF))(wk:DE)(wa:DSl):DE:=λδ Q EX=>wk δ (λd=>match d with
 |.int i=>∃p,atI fs i=some p/\wa δ (λargs=>p.2 args Q EX) XF
 |_=>False) XF
theorem Qt5{α β:Type}{xs:List α}{i:Int}{a:α}(g:α->β)(h:atI xs i=some a):atI (xs.map g) i=some (g a):=by
 unfold atI at h ⊢;rw[Qe];cases e:ixN xs.length i with
 |none=>rw[e] at h;cases h
 |some j=>rw[e] at h;show(xs.map g)[j]? = _;rw[Q5,show xs[j]? = some a from h];rfl
theorem QpV{α:Type}{xs:List α}{i:Int}{a:α}(h:atI xs i=some a):a∈xs:=by
 unfold atI at h;cases e:ixN xs.length i with
 |none=>rw[e] at h;cases h
 |some j=>rw[e] at h;exact QM h
theorem Qsd{fs:List (Addr×DF)}{ls:List Q2}{ix:Q2}{wk:DE}{lpos spos:Pos}(hl:QFs X ls fs)(hM:∀q∈fs,Rx.Qzo X q.1 (Ze false q.2))(hk:QE .P X.nox E0 ix wk)(ha:QAs X.nox E0 (e::es) wa)(hn:fs.length<=1000:=by simp)(hix:QgJ ix:=by exact λ_ _=>rfl)(hex:X.ex=[]:=by rfl)
  (hfe:eval (.Call (.Subscript (.List ls lpos) ix spos) (e::es) [] pos) X.env=(do callWith pos (<- eval (.Subscript (.List ls lpos) ix spos) X.env) [] (backTo pos (starEach (e::es) X.env)) (backToKw pos (keywordEach [] X.env))):=by rfl)
  (he:starEach (e::es) X.env=(false,eval e X.env)::starEach es X.env:=by rfl)(hpl:(backTo pos (starEach es X.env)).any (·.1)=false:=by rfl) :
  QX .D X (.Call (.Subscript (.List ls lpos) ix spos) (e::es) [] pos) (Qwv fs wk wa):=by
 refine⟨PEX.imp (Rx.QlW (M:=λf sp=>∃q∈fs,f=q.1/\sp=Ze false q.2) (λf sp ⟨q,hq,e1,e2⟩=>by rw[e1,e2];exact hM q hq) (Qkh (X:=X.nox) Qdx (QbG hl.h) hk.h hix) hex ha.h hfe he hpl) λσ H Q Ex ⟨F,δ,R,EX,rel,hw,k,kx⟩=>?_⟩;refine⟨by rw[Qe];exact hn,λl H0 s0 n0 e0=>⟨F,δ,_,XF,rel.same s0,hw,λd hd v H1 rel1 kp1 vk=>?_,Qhl⟩⟩;cases d<;>first | exact(show False from hd).elim | skip
 obtain⟨q,hq,hw2⟩:=hd;have npl:¬Z3 σ δ l:=λz=>by obtain⟨xs,e⟩:=rel.isl (Yy (F:=F) z);rw[n0] at e;cases e
 refine⟨l,_,_,.ref q.1,rfl,DP.int vk,SqL.of (kp1.1 _ _ npl e0),Qt5 (λp:Addr×DF=>V.ref p.1) hq,q.1,_,rfl,⟨q,QpV hq,rfl,rfl⟩,?_⟩;have K1:=(Kp.same rel s0).trans kp1;exact⟨F,δ,_,XF,rel1,hw2,λargs ha vs H2 rel2 kp2 qa=>QhJ (m:=.D) (λh _=>h) k kx rel2 (K1.trans kp2) qa ha,Qhl⟩
theorem Qrd{w:DE}(h:QX .D X e w):QSX X (.Return (some e) pos) (QyA w):=by
 refine⟨PSX.imp (Rx.QsD h.h) λD σ H Ex ⟨F,δ,DD,rel,hw,en⟩=>?_⟩;exact⟨F,δ,_,DD.ex,rel,hw,λd hd v H' r' kp vk=>en.rt d hd v H' r'.ke (QtQ vk),en.ex⟩
def Qz2(t:DT)(a b:DS):DS:=λD δ=>t δ (λc=>if c=true then a D δ else b D δ) XF
theorem QxO{c:Q2}{a b:List Z4}{t:DT}{w w':DS}(hc:QT X.nox E0 c t)(ha:QSXs X a w)(hb:QSXs X b w'):QSX X (.If c a b pos) (Qz2 t w w'):=by
 refine⟨PSX.imp (Rx.Qu9 hc.h ha.h hb.h) λD σ H Ex ⟨F,δ,DD,rel,hw,en⟩=>?_⟩;exact⟨F,δ,_,XF,rel,hw,λb hb H' r' kp=>Qcs hb (λz=>⟨F,δ,DD,r',z,en.step kp⟩) λz=>⟨F,δ,DD,r',z,en.step kp⟩,Qhl⟩
theorem Qsk:QSXs X [] QtS:=⟨PSXs.imp Rx.QoB λD σ H Ex ⟨F,δ,DD,rel,hw,en⟩=>(en.nx δ hw).2 H rel (Kp.refl rel)⟩
theorem Qld{st:Z4}{w:DS}(h:QSX X st w):QSXs X [st] w:=⟨Rx.QoA h.h⟩
def Qyz(a b:DS):DS:=λD δ=>a { D with nx:=λδ'=>δ'=δ/\b D δ } δ
theorem Qog{st:Z4}{rest:List Z4}{w w':DS}(h:QSX X st w)(h':QSXs X rest w'):QSXs X (st::rest) (Qyz w w'):=by
 refine⟨PSXs.imp (Rx.QlO h.h h'.h) λD σ H Ex ⟨F,δ,DD,rel,hw,en⟩=>?_⟩;exact⟨F,δ,_,rel,hw,λδ' ⟨e1,h2⟩=>⟨e1,λH' r' kp=>⟨rfl,F,δ,DD,r',h2,en.step kp⟩⟩,en.rt,en.rtF,en.ex⟩
def QzY(ks:Addr->Str->Prop)(w:DS):DS:=λD δ=>w { D with nx:=λδ'=>δ'=δ/\D.nx δ,ex:=λC=>∃wd,ks C wd/\YY (.str wd)=true/\D.rt (.str wd) } δ
structure QH (X:Cx) (i:Nat) (hx:Q2) (sp:Sp):Prop where h:∀e,PE (Rx.mkd X e) hx (λσ H Q=>(Qew (QhW i) Qrb) σ H λvs H1=>sp vs H1 Q E0)
theorem Qsy{i:Nat}{sp:Sp}{y:Str}{pos2:Pos}(G:Rx.FnM X.prog X.w X.K X.mg X.base 1 f fd ps sp)(hr:Room 1 X.A)(hm:X.mg x=some (.ref f))(hk:PySem.W.keepIn X.K (.ref f)=true)(hb:Binds X.K fd ps [])(hg:Gl X x:=by rfl)(hN:X.N[i]? = some y:=by rfl)(hv:Vis X.env.scope y:=by first | exact QZ rfl | exact Q8 (QZ rfl) | exact Q8 (Q8 rfl))(hd:(y == ("__debug__" : Str))=false:=by decide)(hcd:(y == ("__classdict__" : Str))=false:=by decide)(hdb:(x == ("__debug__" : Str))=false:=by decide) :
  QH X i (.Call (.Name x p) [.Name y pos2] [] pos) sp:=⟨λe=>Rx.QoL (X:=Rx.mkd X e) G (Rx.Room.m hr e) hg hm hk hb (Qdt (X:=Rx.mkd X e) (pv (X:=Rx.mkd X e) i hN hv hd hcd) J4 rfl) hdb rfl rfl⟩
theorem Qu1{E:XK}{R:Addr}{i:Nat}{n r:Str}{body:List Z4}{hx:Q2}{w:DS}{ks:Addr->Str->Prop}{sp:Sp}{np hp hpos pos:Pos}(hb:QSXs X body w)(hN:X.N.Nodup)(hm:X.mg r=some (.ref R))(hh:QH X i hx sp)
  (hk:∀{C:Addr}{wd:Str},ks C wd->∀{H1:Hp}{Q:VK}{σ:L2.St},i < σ.length->(∀H',Same H1 H'->Q (.str wd) H')->Rx.ByC X.K C R/\∀a,H1 a=none->(Qew (QhW i) Qrb) (σ.set i (some (.ref a))) (upd H1 a (Rx.exO a C)) λvs H2=>sp vs H2 Q E0)
  (hstk:X.stack=X.env::X.outer:=by rfl)(hfr:X.env.frame=some X.env.locals:=by rfl)(hi:X.N[i]? = some n:=by rfl)(hl:X.env.scope.names.lookup n=some .local:=by rfl)(hg:Gl X r:=by rfl)(hd:(r == ("__debug__" : Str))=false:=by decide) :
  QS X E (.Try body [.ExceptHandler (some (.Name r np)) (some n) [.Return (some hx) hp] hpos] [] [] pos) (QzY ks w):=by
 refine⟨λpins s σ H D I ⟨F,δ,DD,rel,hw,en⟩=>Rx.QsE hstk hfr hb.h hN hi hl hg hm hh.h hd pins s σ H D I ?_⟩;have hlen:i < σ.length:=by rw[I.len];exact(QU.mp hi).1
 refine⟨F,δ,_,rel,hw,λδ' ⟨e1,h1⟩=>⟨e1,λH' r' kp=>en.nx.go δ h1 σ H' r' (Stp.kp kp)⟩,en.rt,en.rtF,λC ⟨wd,hks,cl,hr⟩ H' r' kp=>?_⟩;exact hk hks hlen λH2 s2=>en.rt _ hr _ H2 (r'.same s2).ke (.str wd cl)
end
end Dl
namespace Rk
open L2 _root_.Rd Dl Rt
def Qbi:List Qa->Bool
 |x::y::r=>ltD x y&&Qbi (y::r)
 |_=>true
def QvV:Qa->Bool
 |.tuple [a,b]=>ltD a b
 |_=>false
theorem QpQ(d:Qa)(ds:List Qa):Dl.cutD (d::ds) (some 1) none=ds:=by
 unfold Dl.cutD;rw[HT.Qf8,show(1:Int)=((1:Nat):Int) from rfl,HT.Qih];rw[YO (by rw[QC];omega),List.drop_one,List.tail_cons,QC,Nat.add_sub_cancel,J5]
theorem Qeq:∀ds:List Qa,(QfY ds (Dl.cutD ds (some 1) none)).all QvV=Qbi ds
 |[]=>by
  have h:(QfY ([]:List Qa) (Dl.cutD [] (some 1) none))=[]:=by unfold QfY;rfl
  rw[h];rfl
 |[x]=>by rw[QpQ];rfl
 |x::y::r=>by
  have ih:=Qeq (y::r);rw[QpQ] at ih ⊢;show(QvV (.tuple [x,y])&&(QfY (y::r) r).all QvV)=_;rw[ih];rfl
theorem Qji:∀ds:List Qa,Qbi ds=(Jr (ds.length - 1)).all λk=>ltD (ds.getD k .none) (ds.getD (k+1) .none)
 |[]=>rfl
 |[x]=>rfl
 |x::y::r=>by
  have ih:=Qji (y::r);show(ltD x y&&Qbi (y::r))=_;rw[ih,show(x::y::r).length - 1=(r.length+1 - 1)+1 by simp,Qj3,Qa7,QkT];rfl
def QjW(ds:List Qa):Prop:=∀x∈ds,okK x=true/\x.depth<=20/\∀y∈ds,Qh0 x y=true
def Qf9:DF:=λargs R _=>∃ds:List Qa,(args=[.v (.tuple ds)]∨args=[.v (.list ds)])/\QjW ds/\R (.bool (Qbi ds))
def Qhx(h w:Int):Qa->Bool
 |.tuple [a,b]=>inW a 0 (h - 1)&&inW b 0 (w - 1)
 |_=>false
theorem Qv5{h w:Int}{d:Qa}(q:Qhx h w d=true):∃p:Int×Int,d=pairD p/\0<=p.1/\p.1<h/\0<=p.2/\p.2<w:=by
 cases d<;>first | (cases q;done) | skip
 rename_i ds
 match ds,q with
 |[a,b],q=>
  have q:=Qo.mp (show(inW a 0 (h - 1)&&inW b 0 (w - 1))=true from q);obtain⟨i,rfl,i1,i2⟩:=QkC q.1;obtain⟨j,rfl,j1,j2⟩:=QkC q.2;exact⟨(i,j),rfl,i1,by show i<h;omega,j1,by show j<w;omega⟩
 |[],q=>cases q
 |[_],q=>cases q
 |_::_::_::_,q=>cases q
def toP:Qa->Int×Int
 |.tuple [.int a,.int b]=>(a,b)
 |_=>(0,0)
theorem Qef{h w:Int}{ds:List Qa}(q:ds.all (Qhx h w)=true):∃L:List (Int×Int),ds=L.map pairD/\∀p∈L,0<=p.1/\p.1<h/\0<=p.2/\p.2<w:=by
 induction ds with
 |nil=>exact⟨[],rfl,λ_ h=>nomatch h⟩
 |cons d ds ih=>
  rw[Qa7,JJ] at q;obtain⟨p,rfl,hp⟩:=Qv5 q.1;obtain⟨L,rfl,hL⟩:=ih q.2;refine⟨p::L,rfl,λx hx=>?_⟩;rcases QN.mp hx with z | z
  ·rw[z];exact hp
  ·exact hL x z
theorem Qbv(L:List (Int×Int)):(L.map pairD).map toP=L:=by
 rw[Jj]
 conv=>rhs;rw[<- Qbp L]
 rfl
theorem QiL(p:Int×Int):(pairD p).depth<=1:=by
 show QV [.int p.1,.int p.2]+1<=1;simp[QV,Jt]
theorem QcA{n:Nat}:∀{ds:List Qa},(∀d∈ds,d.depth<=n)->QV ds<=n
 |[],_=>Qv _
 |d::ds,h=>by
  show max d.depth (QV ds)<=n;exact Nat.max_le.mpr ⟨h d (.head _),QcA λd hd=>h d (.tail _ hd)⟩
theorem Qbc(L:List (Int×Int)):QjW (L.map pairD):=λx hx=>by
 obtain⟨p,_,rfl⟩:=Qw.mp hx;refine⟨rfl,Jc (QiL p) (by decide),λy hy=>?_⟩;obtain⟨q,_,rfl⟩:=Qw.mp hy;rfl
theorem Qbh(L:List (Int×Int)):QbN (L.map pairD):=⟨λx hx y hy=>(Qbc L x hx).2.2 y hy,λx hx=>(Qbc L x hx).2.1⟩
def stT(L:List (Int×Int)):Qa:=.tuple (L.map pairD)
def plt(p q:Int×Int):Prop:=p.1<q.1∨(p.1=q.1/\p.2<q.2)
instance plt_dec (p q:Int×Int):Decidable (plt p q):=by unfold plt;exact inferInstance
theorem Qpw(p q:Int×Int):ltD (pairD p) (pairD q)=decide (plt p q):=by
 show isL (thn (Qe3 p.1 q.1) (thn (Qe3 p.2 q.2) .eq))=_;unfold Qe3 plt;by_cases h1:p.1<q.1
 ·rw[if_pos h1];exact(decide_eq_true (.inl h1)).symm
 ·rw[if_neg h1];by_cases h2:p.1=q.1
  ·rw[if_pos h2];by_cases h3:p.2<q.2
   ·rw[if_pos h3];exact(decide_eq_true (.inr ⟨h2,h3⟩)).symm
   ·rw[if_neg h3];have:decide (p.1<q.1∨p.1=q.1/\p.2<q.2)=false:=decide_eq_false (by omega);rw[this];split<;>rfl
  ·rw[if_neg h2];exact(decide_eq_false (by omega)).symm
theorem Qhz(p q:Int×Int):Ja (pairD p) (pairD q)=decide (p=q):=by
 show((p.1 == q.1)&&((p.2 == q.2)&&true))=_;obtain⟨a,b⟩:=p;obtain⟨c,d⟩:=q;by_cases h1:a=c
 ·by_cases h2:b=d
  ·subst h1 h2;simp
  ·simp[h1,h2]
 ·simp[h1]
theorem QnG(cs:List (Int×Int))(p:Int×Int):((cs.map pairD).any λc=>Ja c (pairD p))=decide (p∈cs):=by
 rw[QkS,ZW,QaZ,decide_eq_true_iff];constructor
 ·rintro⟨c,hc,h⟩;have:c=p:=of_decide_eq_true (by rw[<- Qhz];exact h);rw[<- this];exact hc
 ·intro h;refine⟨p,h,?_⟩;show Ja (pairD p) (pairD p)=true;rw[Qhz];simp
def QzR(h w:Int):Qa->Bool
 |.tuple ds=>ds.all (Qhx h w)&&Qbi ds
 |_=>false
def apB(L:List (Int×Int)):Bool:=decide (L.map (·.1)).Nodup&&decide (L.map (·.2)).Nodup
def bdD(h w:Int)(cs:List (Int×Int)):Qa:=.tuple [.int h,.int w,.tuple (cs.map pairD)]
def inC(cs:List (Int×Int))(e:Qa):Bool:=(cs.map pairD).any λc=>Ja c e
def QiF(h w:Int)(cs:List (Int×Int)):Qa->Bool
 |.tuple ds=>(ds.all (Qhx h w)&&Qbi ds)&&(ds.all (inC cs)&&apB (ds.map toP))
 |_=>false
def QlT:DF:=λargs R _=>∃(h w:Int)(d:Qa),args=[.v (.int h),.v (.int w),.v d]/\R (.bool (Qhx h w d))
def Qnq:DF:=λargs R _=>∃(h w:Int)(d:Qa),args=[.v (.int h),.v (.int w),.v d]/\R (.bool (QzR h w d))
def QnF:DF:=λargs R _=>∃L:List (Int×Int),args=[.v (.tuple (L.map pairD))]/\L.length<=4000/\R (.bool (apB L))
def Qjd(d:Qa):Prop:=∀ds,d=.tuple ds->ds.length<=1000
def Qlg:DF:=λargs R _=>∃(h w:Int)(cs:List (Int×Int))(d:Qa),args=[.v (bdD h w cs),.v d]/\Qjd d/\R (.bool (QiF h w cs d))
theorem QiC{L:List (Int×Int)}(h:∀p∈L,0<=p.1/\p.1<6/\0<=p.2):(L.map (λp:Int×Int=>p.1)++L.map (λp:Int×Int=>6+p.2)).Nodup↔(L.map (·.1)).Nodup/\(L.map (·.2)).Nodup:=by
 rw[YU];have e:(L.map (λp:Int×Int=>6+p.2)).Nodup↔(L.map (·.2)).Nodup:=by
  rw[show(L.map (λp=>6+p.2))=(L.map (λp=>p.2)).map (6+·) by rw[Jj];rfl];constructor
  ·intro q;exact Qxt (S:=λa b=>a≠b) (6+·) (λa b hab e=>hab (by rw[e])) q
  ·intro q;exact Qxv (6+·) (λa b hab e=>hab (by omega)) q
 rw[e];constructor
 ·rintro⟨a,b,_⟩;exact⟨a,b⟩
 ·rintro⟨a,b⟩;refine⟨a,b,λx hx y hy e=>?_⟩;obtain⟨p,hp,rfl⟩:=Qw.mp hx;obtain⟨q,hq,rfl⟩:=Qw.mp hy;have:=h p hp;have:=h q hq;omega
theorem QaK(ns:List Int):Qb8 (ns.map Qp)=some ns:=Dl.ints_map ns
def inL(n:Int):Qa->Bool
 |.int i=>decide (0<=i)&&decide (i<n)
 |_=>false
theorem QiG(n:Int)(d:Qa):inL n d=inW d 0 (n - 1):=by
 cases d<;>first | rfl | skip
 rename_i i
 show(decide (0<=i)&&decide (i<n))=(decide (0<=i)&&decide (i<=n - 1));rw[show decide (i<n)=decide (i<=n - 1) from decide_eq_decide.mpr (by omega)]
def Qsp(ds:List Qa):Qa->Bool
 |.int k=>ltD (ds.getD k.toNat .none) (ds.getD (k.toNat+1) .none)
 |_=>false
theorem Qhf(ds:List Qa):(Qed 0 ((ds.length:Int) - 1).toNat).all (Qsp ds)=Qbi ds:=by
 rw[Qji];unfold Qed;rw[QkT,show(((ds.length:Nat):Int) - 1).toNat=ds.length - 1 by omega];refine congrArg (List.all _) (funext λk=>?_);show ltD (ds.getD (0+(k:Int)).toNat .none) (ds.getD ((0+(k:Int)).toNat+1) .none)=_;rw[show(0+(k:Int)).toNat=k by omega]
def Qzz(r n:Nat)(f:Nat->Nat->Bool):List (Int×Int):=((Jr n).filter (f r)).map λ(c:Nat)=>((r:Int),(c:Int))
def QwA(h w:Nat)(f:Nat->Nat->Bool):List (Int×Int):=(Jr h).flatMap λr=>Qzz r w f
def QiB:DF:=λargs R _=>∃(d:Qa)(h w:Int),args=[.v d,.v (.int h),.v (.int w)]/\R (.bool (Qhx h w d))
def Qgo:DF:=λargs R _=>∃ds:List Qa,(args=[.v (.tuple ds)]∨args=[.v (.list ds)])/\QjW ds/\ds.length<=1000/\R (.bool (Qbi ds))
def Qiz:DF:=λargs R _=>∃(h w:Int)(cs:List (Int×Int))(d:Qa),args=[.v (bdD h w cs),.v d]/\h<=6/\Qjd d/\R (.bool (QiF h w cs d))
def QzA(cs:List (Int×Int))(r:Int):List (Int×Int):=cs.filter λp=>decide (p.1=r)
def QzW(cells L:List (Int×Int)):List (List (Int×Int)):=(cells.filter λc => !decide (c.2∈L.map (·.2))).map λc=>L++[c]
def QxP(cs:List (Int×Int)):Nat->List (List (Int×Int))
 |0=>[[]]
 |i+1=>QxP cs i++(QxP cs i).flatMap (QzW (QzA cs i))
theorem QnH(ns:List Int)(i:Int):((ns.map Qp).any λe=>Ja e (.int i))=decide (i∈ns):=by
 rw[QkS,ZW,QaZ,decide_eq_true_iff];constructor
 ·rintro⟨c,hc,h⟩;have:c=i:=by simpa [Ja] using h
  rw[<- this];exact hc
 ·intro h;refine⟨i,h,?_⟩;show(i == i)=true;simp
def toI:Qa->Int
 |.int i=>i
 |_=>0
theorem Qgs{ds:List Qa}{a b:Int}(h:ds.all (λd=>inW d a b)=true):ds=(ds.map toI).map Qp/\∀i∈ds.map toI,a<=i/\i<=b:=by
 constructor
 ·rw[Jj]
  conv=>lhs;rw[<- Qbp ds]
  refine Yk λd hd=>?_
  obtain⟨i,rfl,_⟩:=QkC (Q4.mp h d hd);rfl
 ·intro i hi;obtain⟨d,hd,rfl⟩:=Qw.mp hi;obtain⟨i,rfl,h1,h2⟩:=QkC (Q4.mp h d hd);exact⟨h1,h2⟩
theorem Qoe(ns:List Int):(ns.map Qp).map toI=ns:=by
 rw[Jj]
 conv=>rhs;rw[<- Qbp ns]
 rfl
def tI(ns:List Int):Qa:=.tuple (ns.map Qp)
def QzP(L:List (Int×Int))(p:Int×Int):Bool := !(L.any λq=>(decide (q.2=p.2)&&decide (q.1≥p.1))||(decide (q.1=p.1)&&decide (q.2<p.2)))
theorem Qoh{h w:Int}{cs:List (Int×Int)}{d:Qa}(q:QiF h w cs d=true):∃L,d=stT L/\∀p∈L,0<=p.1/\p.1<h/\0<=p.2/\p.2<w:=by
 cases d<;>first | (cases q;done) | skip
 rename_i ds
 have q:=Qo.mp (show((ds.all (Qhx h w)&&Qbi ds)&&(ds.all (inC cs)&&apB (ds.map toP)))=true from q);obtain⟨L,rfl,hL⟩:=Qef (Qo.mp q.1).1;exact⟨L,rfl,hL⟩
theorem QtA{ns:List Int}(h:1<=ns.length):atI (ns.map Qp) (-1)=some (.int (ns.getLastD 0)):=by
 cases e:ns.getLast? with
 |none=>rw[List.getLast?_eq_none_iff] at e;subst e;exact absurd h (by decide)
 |some b=>
  obtain⟨xs,rfl⟩:=List.getLast?_eq_some_iff.mp e
  rw[Q1,List.getLastD_eq_getLast?,e];exact QpW _ _
theorem Qno{items:List Qa}{wg wg2:DG}{wt wt2:DT}{wi2:DI}{we:DE}{δ:Sts}{Q:Qa->Prop}(G:Qa->List Qa)(k:Nat)(hl:(items.flatMap G).length<=k)
  (h:∀d∈items,∀(acc:List Qa)(N:List Qa->Prop),acc.length+(G d).length<=k->N (acc++G d)->wg d δ λδ4=>wt δ4 (λb=>if b=true then wi2 δ4 (λitems2=>InR items2 wg2 wt2 we δ4 acc N) XF else N acc) XF)(q:Q (.list (items.flatMap G))) :
  QeZ items wg wt wi2 wg2 wt2 we δ Q:=by
 unfold QeZ;refine⟨λi acc=>acc=(items.take i).flatMap G,by simp,λi acc d hd e=>?_,λacc e=>by rw[e,J5];exact q⟩;have e:acc=(items.take i).flatMap G:=e;have hs:(items.take (i+1)).flatMap G=(items.take i).flatMap G++G d:=by
  rw[JV,hd,ZV];simp
 refine h d (QM hd) acc _ ?_ (by show acc++G d=_;rw[hs,e])
 have h1:(items.flatMap G).length=((items.take (i+1)).flatMap G).length+((items.drop (i+1)).flatMap G).length:=by
  rw[<- Qd,<- ZV,Jw]
 rw[hs,<- e,Qd] at h1;omega
end Rk
namespace Rv
section
variable{prog:QB}{w:Jl}{A:Q9}{E:Value->Shared->Prop}{s:Shared}
end
end Rv
namespace L2
section
variable{X:Cx}{tg:Q2}
end
section
variable{X:Cx}
end
end L2
namespace Dl
open L2 _root_.Rd Rk
section
variable{X:Cx}{E:XK}{st:Z4}{i:Nat}{we:DE}
end
end Dl
namespace Rk
open L2 _root_.Rd Dl Rt
end Rk
namespace L2
section
variable{X:Cx}
end
end L2
namespace Dl
open L2 _root_.Rd Rk
end Dl
namespace Rk
open L2 _root_.Rd Dl Rt
def Bds(h w:Nat)(cs:List (Int×Int)):Prop:=h<=6/\w<=6/\∀p∈cs,0<=p.1/\p.1<h/\0<=p.2/\p.2<w
theorem Bds.nn{h w:Nat}{cs:List (Int×Int)}(b:Bds h w cs):∀p∈cs,0<=p.2:=λp hp=>(b.2.2 p hp).2.2.1
def rbI(S:List (Int×Int)):Int:=match S.getLast? with
 |some c=>c.1+1
 |none=>0
def fol(cs S:List (Int×Int)):List (Int×Int):=cs.filter λc=>decide (rbI S<=c.1) && !decide (c.2∈S.map (·.2))
def evS(cs:List (Int×Int)):Nat->List (List (Int×Int))
 |0=>[[]]
 |k+1=>(evS cs k).flatMap λS=>(fol cs S).map λc=>S++[c]
structure Std (cs L:List (Int×Int)):Prop where
 sub:∀p∈L,p∈cs
 rows:L.Pairwise λp q=>p.1<q.1
 cols:(L.map (·.2)).Nodup
theorem Std.nil{cs:List (Int×Int)}:Std cs []:=⟨λp hp=>(nomatch hp),.nil,.nil⟩
theorem Std.init{cs S:List (Int×Int)}{c:Int×Int}(h:Std cs (S++[c])):Std cs S/\c∈cs/\(∀p∈S,p.1<c.1)/\c.2∉S.map (·.2):=by
 have r:=Jp.mp h.rows;have k:=h.cols;rw[Q1] at k;have k:=YU.mp k;refine⟨⟨λp hp=>h.sub p (Qa1 _ hp),r.1,k.1⟩,h.sub c (by simp),λp hp=>r.2.2 p hp c (by simp),λz=>?_⟩;exact k.2.2 c.2 z c.2 (by simp) rfl
theorem Std.snoc{cs S:List (Int×Int)}{c:Int×Int}(h:Std cs S)(h1:c∈cs)(h2:∀p∈S,p.1<c.1)(h3:c.2∉S.map (·.2)):Std cs (S++[c]):=by
 refine⟨λp hp=>?_,Jp.mpr ⟨h.rows,by simp,λp hp q hq=>?_⟩,?_⟩
 ·rcases JB.mp hp with z | z
  ·exact h.sub p z
  ·rw[Jz.mp z];exact h1
 ·rw[Jz.mp hq];exact h2 p hp
 ·rw[Q1];refine YU.mpr ⟨h.cols,by simp,λa ha b hb e=>?_⟩;have hb:b=c.2:=by simpa using hb
  rw[e,hb] at ha;exact h3 ha
theorem QpA{S:List (Int×Int)}(h:S.Pairwise λp q=>p.1<q.1){c:Int×Int}:(∀p∈S,p.1<c.1)∨¬rbI S<=c.1∨(S=[] ):=by
 by_cases z:S=[]
 ·exact .inr (.inr z)
 ·by_cases y:rbI S<=c.1
  ·refine .inl λp hp=>?_
   obtain⟨T,d,rfl⟩:∃T d,S=T++[d]:=⟨S.dropLast,S.getLast z,(QfT z).symm⟩
   have y:d.1+1<=c.1:=by unfold rbI at y;rw[List.getLast?_append] at y;simpa using y
   rcases JB.mp hp with q | q
   ·have:=(Jp.mp h).2.2 p q d (by simp);omega
   ·rw[Jz.mp q];omega
  ·exact .inr (.inl y)
theorem QxT{S:List (Int×Int)}{c:Int×Int}(h:∀p∈S,p.1<c.1)(h0:0<=c.1):rbI S<=c.1:=by
 unfold rbI;cases e:S.getLast? with
 |none=>exact h0
 |some d=>
  have:=h d (List.mem_of_getLast? e);show d.1+1<=c.1;omega
theorem QmE{cs:List (Int×Int)}(h0:∀p∈cs,0<=p.1):∀(k:Nat)(L:List (Int×Int)),L∈evS cs k↔Std cs L/\L.length=k
 |0,L=>by
  constructor
  ·intro h;rw[Jz.mp h];exact⟨.nil,rfl⟩
  ·rintro⟨_,h⟩;cases L with
   |nil=>exact .head _
   |cons a b=>cases h
 |k+1,L=>by
  show L∈(evS cs k).flatMap (λS=>(fol cs S).map λc=>S++[c])↔_;rw[List.mem_flatMap];constructor
  ·rintro⟨S,hS,hL⟩;obtain⟨c,hc,rfl⟩:=Qw.mp hL;obtain⟨st,hl⟩:=(QmE h0 k S).mp hS;have hc:=Qbo.mp hc;have hc2:=Qo.mp hc.2;refine⟨st.snoc hc.1 ?_ (by simpa using hc2.2),by rw[Qd,hl];rfl⟩;rcases QpA st.rows (c:=c) with z | z | z
   ·exact z
   ·exact absurd (of_decide_eq_true hc2.1) z
   ·rw[z];exact λp hp=>(nomatch hp)
  ·rintro⟨st,hl⟩;have hne:L≠[]:=λe=>by rw[e] at hl;cases hl
   obtain⟨S,c,rfl⟩:∃T d,L=T++[d]:=⟨L.dropLast,L.getLast hne,(QfT hne).symm⟩
   obtain⟨s1,s2,s3,s4⟩:=st.init;refine⟨S,(QmE h0 k S).mpr ⟨s1,by rw[Qd] at hl;exact Nat.succ.inj hl⟩,Qw.mpr ⟨c,Qbo.mpr ⟨s2,?_⟩,rfl⟩⟩;rw[JJ];exact⟨decide_eq_true (QxT s3 (h0 c s2)),by simpa using s4⟩
end Rk
namespace Dl
open L2 _root_.Rd Rk
section
variable{X:Cx}{E:XK}{st:Z4}{we:DE}
end
end Dl
namespace Rk
open L2 _root_.Rd Dl Rt
structure GB (h w:Nat) (cs:List (Int×Int)):Prop where
 bds:Bds h w cs
 srt:cs.Pairwise plt
 few:(QxP cs h).length<=200000
theorem GB.r0{h w:Nat}{cs:List (Int×Int)}(g:GB h w cs):∀p∈cs,0<=p.1:=λp hp=>(g.bds.2.2 p hp).1
def stL:Qa->List (Int×Int)
 |.tuple ds=>ds.map toP
 |_=>[]
theorem QuJ(L:List (Int×Int)):stL (stT L)=L:=Qbv L
end Rk
namespace L2
section
variable{X:Cx}
end
end L2
namespace Dl
open L2 _root_.Rd Rk Rt
end Dl
namespace Rk
open L2 _root_.Rd Dl Rt
def wt(cs L:List (Int×Int)):Nat:=(cs.filter (QzP L)).length
end Rk
namespace L2
open _root_.Rd
section
variable{X:Cx}
end
end L2
namespace Dl
open L2 _root_.Rd Rk Rt
section
variable{X:Cx}{E:XK}
end
end Dl
namespace Rk
open L2 _root_.Rd Dl Rt
theorem Qvb{p q r:Int×Int}(h1:plt p q)(h2:plt q r):plt p r:=by
 rcases h1 with a | a<;>rcases h2 with b | b
 ·exact .inl (by omega)
 ·exact .inl (by omega)
 ·exact .inl (by omega)
 ·exact .inr (by omega)
theorem Qjh:∀{L:List (Int×Int)},Qbi (L.map pairD)=true->L.Pairwise plt
 |[],_=>.nil
 |[p],_=>Qca _ _
 |p::q::L,h=>by
  have h:=Qo.mp (show(ltD (pairD p) (pairD q)&&Qbi ((q::L).map pairD))=true from h);have ih:=Qjh (L:=q::L) h.2;have h1:plt p q:=by have:=h.1;rw[Qpw] at this;exact of_decide_eq_true this
  refine YC.mpr ⟨λr hr=>?_,ih⟩;rcases QN.mp hr with z | z
  ·rw[z];exact h1
  ·exact Qvb h1 ((YC.mp ih).1 r z)
theorem Qrg{h w:Nat}{cs:List (Int×Int)}{d:Qa}(q:QiF h w cs d=true):∃L,d=stT L/\Std cs L:=by
 obtain⟨L,rfl,hL⟩:=Qoh q;refine⟨L,rfl,?_⟩;have q:=Qo.mp (show(((L.map pairD).all (Qhx h w)&&Qbi (L.map pairD))&&((L.map pairD).all (inC cs)&&apB ((L.map pairD).map toP)))=true from q);have q1:=Qo.mp q.1;have q2:=Qo.mp q.2;have pw:=Qjh q1.2;have ap:=q2.2;rw[Qbv] at ap;have ap:=Qo.mp (show(decide (L.map (·.1)).Nodup&&decide (L.map (·.2)).Nodup)=true from ap);refine⟨λp hp=>?_,?_,of_decide_eq_true ap.2⟩
 ·have:=Q4.mp q2.1 (pairD p) (Qw.mpr ⟨p,hp,rfl⟩);unfold inC at this;rw[QnG] at this;exact of_decide_eq_true this
 ·have nd1:L.Pairwise λp q=>p.1≠q.1:=Qp3.mp (of_decide_eq_true ap.1)
  refine(List.pairwise_and_iff.mpr ⟨nd1,pw⟩).imp λ{a b} z=>?_
  rcases z.2 with y | y
  ·exact y
  ·exact absurd y.1 z.1
end Rk
namespace L2
section
variable{κ:Type}[DecidableEq κ]
def Qf1(kvs:List (κ×V))(k:κ):Option V:=(kvs.find? λkv=>decide (kv.1=k)).map (·.2)
def Qoy(kvs:List (κ×V))(k:κ)(v:V):List (κ×V):=
 if(kvs.any λkv=>decide (kv.1=k))=true then kvs.map (λkv=>if kv.1=k then(kv.1,v) else kv) else kvs++[(k,v)]
theorem Qd9{p:κ×V}{r:List (κ×V)}{k:κ}(e:p.1=k):Qf1 (p::r) k=some p.2:=by simp[Qf1,Ye,e]
theorem Qea{p:κ×V}{r:List (κ×V)}{k:κ}(e:¬p.1=k):Qf1 (p::r) k=Qf1 r k:=by simp[Qf1,Ye,e]
theorem Qi3(k:κ):∀kvs:List (κ×V),(kvs.any λkv=>decide (kv.1=k))=(Qf1 kvs k).isSome
 |[]=>rfl
 |p::r=>by
  rw[Qce];by_cases e:p.1=k
  ·simp only[Qd9 e,decide_eq_true e,Bool.true_or,Option.isSome_some]
  ·rw[Qea e,decide_eq_false e,QwY];exact Qi3 k r
theorem QiD(kvs:List (κ×V))(k:κ)(v:V):(Qoy kvs k v).length<=kvs.length+1:=by
 unfold Qoy;split
 ·rw[Qe];omega
 ·rw[Qd,QC,Qak];omega
theorem Qox{kvs:List (κ×V)}{k:κ}(v:V)(h:Qf1 kvs k=none):Qoy kvs k v=kvs++[(k,v)]:=by
 unfold Qoy;rw[Qi3,h];exact if_neg (by decide)
theorem RelO.isSome_eq{o:Option V}{u:Option Value}(r:RelO o u):o.isSome=u.isSome:=by
 cases o with
 |none=>cases u with
  |none=>rfl
  |some _=>exact(show False from r).elim
 |some _=>cases u with
  |none=>exact(show False from r).elim
  |some _=>rfl
theorem KV.val{kvs:List (κ×V)}{vs:List (κ×Value)}(r:KV kvs vs)(k:κ):RelO (Qf1 kvs k) (valueAt vs k):=by
 unfold KV at r;induction r with
 |nil=>exact Ys
 |@cons p q ps qs h t ih=>
  obtain⟨h1,h2⟩:=h;by_cases e:p.1=k
  ·have e':q.1=k:=h1.symm.trans e;have b:valueAt (q::qs) k=some q.2:=by simp[valueAt,Ye,e']
   rw[Qd9 e,b];exact h2
  ·have e':¬q.1=k:=λz=>e (h1.trans z)
   have b:valueAt (q::qs) k=valueAt qs k:=by simp[valueAt,Ye,e']
   rw[Qea e,b];exact ih
theorem KV.any{kvs:List (κ×V)}{vs:List (κ×Value)}(r:KV kvs vs)(k:κ):(kvs.any λkv=>decide (kv.1=k))=vs.any λkv=>decide (kv.1=k):=by
 unfold KV at r;induction r with
 |nil=>rfl
 |cons h t ih=>rw[Qce,Qce,ih,h.1]
theorem KV.repl{kvs:List (κ×V)}{vs:List (κ×Value)}(r:KV kvs vs)(k:κ){y:V}{u:Value}(ry:RelV y u) :
  KV (kvs.map λkv=>if kv.1=k then(kv.1,y) else kv) (vs.map λkv=>if kv.1=k then(kv.1,u) else kv):=by
 unfold KV at r ⊢;induction r with
 |nil=>exact .nil
 |@cons p q ps qs h t ih=>
  rw[Jh,Jh];refine .cons ?_ ih
  obtain⟨h1,h2⟩:=h;by_cases e:p.1=k
  ·rw[if_pos e,if_pos (h1.symm.trans e)];exact⟨h1,ry⟩
  ·rw[if_neg e,if_neg (λz=>e (h1.trans z))];exact⟨h1,h2⟩
theorem KV.put{kvs:List (κ×V)}{vs:List (κ×Value)}(r:KV kvs vs)(k:κ){y:V}{u:Value}(ry:RelV y u):KV (Qoy kvs k y) (stored vs k u):=by
 unfold Qoy stored;rw[r.any k];by_cases e:(vs.any λkv=>decide (kv.1=k))=true
 ·rw[if_pos e,if_pos e];exact r.repl k ry
 ·rw[if_neg e,if_neg e];exact Paired.snoc r ⟨rfl,ry⟩
theorem KV.length{kvs:List (κ×V)}{vs:List (κ×Value)}(r:KV kvs vs):kvs.length=vs.length:=Qub r
end
theorem QpB{P:QB}{w:Jl}{k:Key}{u:Value}(r:RelV (kV k) u):(Qax P w).is k u=true:=by
 cases k with
 |inl i=>obtain⟨t,e⟩:=(show ∃t,u=Qcw i t from r);subst e;exact Qiv P w i t
 |inr x=>obtain⟨t,e⟩:=(show ∃t,u=QfP x t from r);subst e;exact Qiu P w x t
theorem Qhw{P:QB}{w:Jl}:∀{ks:List Key}{us:List Value},Vals (ks.map kV) us->ItemsAre (Qax P w) ks us
 |[],_,r=>by rw[Qe8] at r;cases r;exact .nil
 |k::ks,_,r=>by
  rw[Jh] at r;cases r with
  |cons h t=>exact .cons (QpB h) (Qhw t)
abbrev KT (H:Hp):List (List Key×V)->List (List Key×Addr×Value)->Prop:=YK λp q=>p.1=q.1/\H q.2.1=some (.tup (p.1.map kV))/\RelV p.2 q.2.2
theorem KT.val{H:Hp}{kvs:List (List Key×V)}{xs:List (List Key×Addr×Value)}(r:KT H kvs xs)(k:List Key):RelO (Qf1 kvs k) ((atKey xs k).map (·.2)):=by
 induction r with
 |nil=>exact Ys
 |@cons p q ps qs h t ih=>
  obtain⟨h1,_,h2⟩:=h;by_cases e:p.1=k
  ·have e':q.1=k:=h1.symm.trans e;have b:atKey (q::qs) k=some q.2:=by simp[atKey,Ye,e']
   rw[Qd9 e,b];exact h2
  ·have e':¬q.1=k:=λz=>e (h1.trans z)
   have b:atKey (q::qs) k=atKey qs k:=by simp[atKey,Ye,e']
   rw[Qea e,b];exact ih
section
variable{P:QB}{w:Jl}{H:Hp}{h:Za}{a:Addr}
theorem QuU{u:HO}(ok:HOk P w H h)(e:Rd H a u):ObjOk P w H h a u:=e.ok ok
theorem QpO{kvs:List (Key×V)}(ok:HOk P w H h)(e:Rd H a (.dK kvs)):kvs.length<=sizeLine/\(a == sysModules)=false/\∃vs,KV kvs vs/\h.DictOf (Qax P w) a vs:=
 show ObjOk P w H h a (.dK kvs) from QuU ok e
theorem Qyw{kvs:List (Key×V)}(ok:HOk P w H h)(e:H a=some (.dK kvs)):kvs.length<=sizeLine/\(a == sysModules)=false/\∃vs,KV kvs vs/\h.DictOf (Qax P w) a vs:=QpO ok (.inl e)
theorem QiJ{ks:List Key}(ok:HOk P w H h)(e:H a=some (.tup (ks.map kV))):(tupleKind (Qax P w)).is h ks a:=by
 obtain⟨_,its,r,o,h1,h2,n,h3⟩:=(show ObjOk P w H h a (.tup (ks.map kV)) from ok a _ e);exact⟨o,its.toArray,n,h1,h2,h3,by simpa using Qhw r⟩
theorem QtN{kvs:List (List Key×V)}(ok:HOk P w H h)(e:Rd H a (.dT kvs)):kvs.length<=sizeLine/\(a == sysModules)=false /\
  ∃xs,KT H kvs xs/\h.DictOfH (tupleKind (Qax P w)) a xs:=by
 obtain⟨z,y,xs,r,o,es,ep,h1,h2,h3,h4,h5⟩:=(show ObjOk P w H h a (.dT kvs) from QuU ok e);refine⟨z,y,xs,r,o,es,ep,h1,h2,h3,h4,λx hx=>?_,h5⟩;have all:∀{l:List (List Key×V)}{m:List (List Key×Addr×Value)},KT H l m->∀x∈m,(tupleKind (Qax P w)).is h x.1 x.2.1:=by
  intro l m q;induction q with
  |nil=>intro x hx;exact nomatch hx
  |@cons p q ps qs hq t ih=>
   intro x hx;rcases QN.mp hx with e | hx
   ·subst e;exact QiJ ok (by rw[<- hq.1];exact hq.2.1)
   ·exact ih x hx
 exact all r x hx
end
def DGet(H:Hp)(a:Addr)(y:V)(r:Option V):Prop:=
 (∃kvs k,Rd H a (.dK kvs)/\y=kV k/\r=Qf1 kvs k)∨∃kvs k b,Rd H a (.dT kvs)/\y=.ref b/\H b=some (.tup (k.map kV))/\r=Qf1 kvs k
theorem DGet.k{H:Hp}{a:Addr}{kvs:List (Key×V)}{k:Key}(e:H a=some (.dK kvs)):DGet H a (kV k) (Qf1 kvs k):=.inl ⟨kvs,k,.inl e,rfl,rfl⟩
section
variable{X:Cx}{pins:List (Addr×Obj)}{σ:St}{H:Hp}{s:Shared}{a:Addr}{y v:V}{u r:Value}{o:Option V}{A:Q9}{E:Value->Shared->Prop}
theorem Inv.big(I:Inv X pins σ H s):sysModules<s.heap.objs.size:=by
 have h:mainGlobals<s.heap.objs.size:=(I.mod.glob.keeps I.bk).lt;exact Qk3 (by decide) h
theorem Qni{Q:Value->Shared->Prop}(hu:A.units+1<cLine)(I:Inv X pins σ H s)(g:DGet H a y (some v))(ry:RelV y u)(h:∀w' s',Inv X pins σ H s'->RelV v w'->Q w' s') :
  wpAny (model X.prog X.w) A (getItem (.ref a) u) Q E s:=by
 rcases g with⟨kvs,k,e,ey,l⟩ | ⟨kvs,k,b,e,ey,eb,l⟩
 ·subst ey;obtain⟨z,hd,vs,rel,dd⟩:=QpO I.hok e;obtain⟨w',hw,rw'⟩:=RelO.some_of (v:=v) (o:=valueAt vs k) (by rw[l];exact rel.val k);exact wpAny_getItem_of (QpB ry) dd.mapOf hw (h w' _ (I.tok _) rw')
 ·subst ey;cases(show u=JP b from ry);obtain⟨z,hd,xs,rel,dd⟩:=QtN I.hok e;obtain⟨w',hw,rw'⟩:=RelO.some_of (v:=v) (o:=(atKey xs k).map (·.2)) (by rw[l];exact rel.val k);obtain⟨p,hp,hp2⟩:=JU.mp hw;refine wpAny_getItem_heap (QwO hu) (QiJ I.hok eb) dd hp ?_
  rw[hp2];exact h w' _ (I.tok _) rw'
theorem QzX{Q:Value->Shared->Prop}(hu:A.units+1<cLine)(I:Inv X pins σ H s)(g:DGet H a y o)(ry:RelV y u)(h:∀s',Inv X pins σ H s'->Q (.bool o.isSome) s') :
  wpAny (model X.prog X.w) A (compareOp .In u (.ref a)) Q E s:=by
 rcases g with⟨kvs,k,e,ey,l⟩ | ⟨kvs,k,b,e,ey,eb,l⟩
 ·subst ey;obtain⟨z,hd,vs,rel,dd⟩:=QpO I.hok e;refine wpAny_in_of (QpB ry) hd dd.mapOf ?_
  rw[<- (rel.val k).isSome_eq,<- l];exact h _ (I.tok _)
 ·subst ey;cases(show u=JP b from ry);obtain⟨z,hd,xs,rel,dd⟩:=QtN I.hok e;refine wpAny_in_heap (QwO hu) (QiJ I.hok eb) hd dd ?_
  have q:=(rel.val k).isSome_eq;rw[QnT] at q;rw[<- q,<- l];exact h _ (I.tok _)
theorem QtR{h':Za}{t':Nat}{ob:HO}(I:Inv X pins σ H s)(mu:Mut (H a))(hs:QaI a s.heap h')(he:∃q,h'.get? a=some q)(new:ObjOk X.prog X.w (upd H a ob) h' a ob) :
  Inv X pins σ (upd H a ob) { s with heap:=h',toks:=t' }:=
 I.write (x:=a) (e:=a) mu (.inl rfl) (λb q hb z=>(hs.2 b hb).trans z) he new
theorem Qwf{P:QB}{w:Jl}{H':Hp}{h':Za}{kvs:List (Key×V)}{vs:List (Key×Value)}(z:kvs.length<=sizeLine)(hd:(a == sysModules)=false)(rel:KV kvs vs)(dd:h'.DictOf (Qax P w) a vs) :
  ObjOk P w H' h' a (.dK kvs):=⟨z,hd,vs,rel,dd⟩
end
section
variable{X:Cx}{pins:List (Addr×Obj)}{σ:St}{H:Hp}{s:Shared}{a:Addr}{kvs:List (Key×V)}{k:Key}{u:Value}{A:Q9}{E:Value->Shared->Prop}
end
theorem QiK{X:Cx}{pins:List (Addr×Obj)}{σ:St}{H:Hp}{s:Shared}{a:Addr}{y:V}{o:Option V}(I:Inv X pins σ H s)(g:DGet H a y o):s.TypeIs (.ref a) "dict" := by
 rcases g with⟨kvs,k,e,_,_⟩ | ⟨kvs,k,b,e,_,_,_⟩
 ·obtain⟨_,_,vs,_,dd⟩:=QpO I.hok e;exact dd.typeIs
 ·obtain⟨_,_,xs,_,dd⟩:=QtN I.hok e;exact dd.typeIs
section
variable{X:Cx}{o i e value:Q2}{pos pos' tpos:Pos}{td ty tv:TE}
end
theorem QpP{P:QB}{w:Jl}{H:Hp}(h:Za)(hb:sysModules<h.objs.size):ObjOk P w H (h.push { cls:=.type "dict",data:=.dict #[] }) h.objs.size (.dK []):=
 ⟨Qv _,beq_eq_false_iff_ne.mpr (Qdc (QJ hb)),[],.nil,Qj6 h⟩
section
variable{X:Cx}{pos:Pos}
end
section
variable{X:Cx}{pins:List (Addr×Obj)}{σ:St}{H:Hp}{s:Shared}{a:Addr}{y d:V}{u r:Value}{o:Option V}{A:Q9}{E:Value->Shared->Prop}
end
section
variable{X:Cx}{o e f:Q2}{apos cpos:Pos}{td ty tx:TE}
end
section
variable{X:Cx}{pins:List (Addr×Obj)}{σ:St}{H:Hp}{s:Shared}{a:Addr}{kvs:List (Key×V)}{A:Q9}{E:Value->Shared->Prop}
end
section
variable{X:Cx}{pins:List (Addr×Obj)}{σ:St}{H:Hp}{s:Shared}{a:Addr}{y:V}{u:Value}{A:Q9}{E:Value->Shared->Prop}
end
theorem Qfe(kx vx target iter:Q2)(ifs:List Q2)(scope:Yp)(pos:Pos)(it:Value)(D:Addr)(env:Env) :
  compTurn (.DictComp kx vx [⟨target,iter,ifs,0⟩] scope pos) 0 it (.ref D) env=(do
   standAt iter.pos
   let r <- pyNext it
   match r with
   |none=>pure (.done .next)
   |some v=>
    letOwnedTupleGo target it v
    assign target env v
    let ok <- Qia ifs env
    if ok then
     (do let kv <- eval kx env;let vv <- holding [kv] (eval vx env);standAt { kx.pos with endLine:=vx.pos.endLine,endCol:=vx.pos.endCol };holding [kv,vv] (dictSet D kv vv))
    again (.compLoop (.DictComp kx vx [⟨target,iter,ifs,0⟩] scope pos) 0 it (.ref D) env)):=by rfl
def QnL(Y:Cx)(elt elv:Q2)(D:Addr):Act:=λQ s=>wpAny (model Y.prog Y.w) Y.A (eval elt Y.env) (λk s6=>wpAny (model Y.prog Y.w) Y.A (eval elv Y.env) (λv s7=>wpAny (model Y.prog Y.w) Y.A (dictSet D k v) (λ_ s8=>Q s8) (λ_ _=>False) s7) (λ_ _=>False) s6) (λ_ _=>False) s
def QwG(p:Addr)(te tv:TE):St->Hp->(Hp->Prop)->Prop:=λσ H k=>te σ H λx H5=>tv σ H5 λv H6=>∃kvs ky,x=kV ky/\H6 p=some (.dK kvs)/\kvs.length<sizeLine/\k (upd H6 p (.dK (Qoy kvs ky v)))
theorem QnA{Y:Cx}{σ:St}{elt elv:Q2}{te tv:TE}{D:Addr}(hx:Y.xe=λ_ _=>False)(he:PE Y elt te)(hv:PE Y elv tv):BodyOk Y σ (QnL Y elt elv D) (QwG D te tv σ):=by
 intro pins s H k Q I h hQ;have hx':∀(v:Value)(s':Shared),Y.xe v s'->False:=λv s' z=>by rw[hx] at z;exact z
 refine wpAny_mono (he pins s σ H _ I h) (λu s5 ⟨x,H5,I5,r5,q5⟩=>?_) hx';refine wpAny_mono (hv pins s5 σ H5 _ I5 q5) (λr s6 ⟨v,H6,I6,r6,kvs,ky,ex,eD,hl,q⟩=>?_) hx';subst ex;obtain⟨z,hd,vs,rel,dd⟩:=Qyw I6.hok eD;have hz:vs.length<=sizeLine:=by rw[<- rel.length];exact z
 have hl:(Qoy kvs ky v).length<=sizeLine:=by have:=QiD kvs ky v;omega
 refine wpAny_dictSet_pairs (hsz:=hz) (QpB r5) dd λh' dd' hs=>hQ _ _ ?_ q
 have hq:∃q,h'.get? D=some q:=let ⟨q,_,_,hq,_⟩:=dd';⟨q,hq⟩
 exact QtR I6 (by rw[eD];exact Ys) hs hq (Qwf hl hd (rel.put ky r6) dd')
def tCompD(cap:List (Option Nat))(wi:TI)(g:TG)(tc:TT)(te tv:TE):TE:=λσ H Q=>wi σ H λJ H1=>∀p,H1 p=none->Qg5 J (bOf (Qde cap σ) g tc (QwG p te tv)) (Q (.ref p)) (upd H1 p (.dK []))
theorem QkG{Y:Cx}{σ:St}{tg:Q2}{elt elv:Q2}{gens:List QcP}{scope:Yp}{cpos:Pos}{d:Nat}{it D:Addr}{fp:List Addr}{tn:Nat->Za->Prop}{J:It}{pins:List (Addr×Obj)}{s:Shared}{H:Hp}{body:V->Hp->(Hp->Prop)->Prop}{Qn:Hp->Prop}{R:Qr5->Shared->Prop}{act:Value->Act}
  (hc:Y.calm=true)(T:Turn Y.prog Y.w Y.K tg J fp it tn)(st:tn 0 s.heap)(hf:∀b∈fp,FpOk Y pins H b)
  (hturn:∀(Q:PySem.Fin->Shared->Prop)(E:Value->Shared->Prop)(s:Shared),wpAny (model Y.prog Y.w) Y.A (pyNext (.ref it)) (λr s1=>match r with
   |none=>Q (.done .next) s1
   |some v=>wpAny (model Y.prog Y.w) Y.A (letOwnedTupleGo tg (.ref it) v) (λ_ s2=>act v (λs3=>Q (.again (.compLoop (.DictComp elt elv gens scope cpos) d (.ref it) (.ref D) Y.env)) s3) s2) E s1) E s ->
   wpAny (model Y.prog Y.w) Y.A (compTurn (.DictComp elt elv gens scope cpos) d (.ref it) (.ref D) Y.env) Q E s)
  (hact:∀(x:V)(u:Value),RelV x u->BodyOk Y σ (act u) (body x))
  (I:Inv Y pins σ H s)(h:Qg5 J body Qn H)(hR:∀s' H',Inv Y pins σ H' s'->Qn H'->R (.ok .next) s') :
  codeAny (model Y.prog Y.w) Y.A (.compLoop (.DictComp elt elv gens scope cpos) d (.ref it) (.ref D) Y.env) R s:=by
 obtain⟨W,⟨m0,w0⟩,turn⟩:=h;have stat:∀{H':Hp},(∀b∈fp,H' b=none)->∀b∈fp,FpOk Y pins H' b:=λhn b hb=>⟨hn b hb,(hf b hb).2⟩
 refine codeAny_loop rfl (λn s'=>∃i H',Inv Y pins σ H' s'/\tn i s'.heap/\(∀b∈fp,H' b=none)/\W i n H') (λn s3 hI=>?_) m0 ⟨0,H,I,st,λb hb=>(hf b hb).1,w0⟩;show wpAny _ Y.A ((compTurn (.DictComp elt elv gens scope cpos) d (.ref it) (.ref D) Y.env).onRaise (λx=>do noteFrame x Y.env;theTreesLotGoes x)) _ _ s3;refine wpAny_noted (hturn _ _ _ ?_);obtain⟨i,H3,I3,st3,fr3,w3⟩:=hI;rcases turn i n H3 w3 with⟨stop,qn⟩ | ⟨go,step⟩
 ·refine thn (T.done Y rfl rfl rfl hc i pins s3 σ H3 _ I3 (stat fr3) st3 stop) λr s4 ⟨hr,I4⟩=>?_
  subst hr;exact hR s4 H3 I4 qn
 ·refine thn (T.item Y rfl rfl rfl hc i pins s3 σ H3 _ I3 (stat fr3) st3 go) λr s4 ⟨u,hr,h4⟩=>?_
  subst hr;refine thn h4 λ_ s5 ⟨x,H5,I5,r5,y5,st5,fr5⟩=>?_
  have I5':=I5.pinned (stat fr5) (T.obj _ _ st5);refine hact x u r5 _ s5 H5 _ _ I5' (step x H5 y5) λs7 H7 I7 ⟨m',hm,w7⟩=>?_
  refine⟨rfl,m',hm,i+1,H7,I7.unpinned,T.keep _ _ _ st5 λb hb o e=>(I7.pin (b,o) (Jb _ (Jb _ (QaJ hb e)))).1,λb hb=>?_,w7⟩;obtain⟨o,e,dd⟩:=T.obj _ _ st5 b hb;exact(I7.pin (b,o) (Jb _ (Jb _ (QaJ hb e)))).2.1
theorem Qm8{Y:Cx}{elt elv tg iter:Q2}{ifs:List Q2}{scope:Yp}{cpos:Pos}{it D:Addr}(Q:PySem.Fin->Shared->Prop)(E:Value->Shared->Prop)(s:Shared)
  (h:wpAny (model Y.prog Y.w) Y.A (pyNext (.ref it)) (λr s1=>match r with
   |none=>Q (.done .next) s1
   |some v=>wpAny (model Y.prog Y.w) Y.A (letOwnedTupleGo tg (.ref it) v) (λ_ s2=>QnJ Y tg ifs (QnL Y elt elv D) v (λs3=>Q (.again (.compLoop (.DictComp elt elv [⟨tg,iter,ifs,0⟩] scope cpos) 0 (.ref it) (.ref D) Y.env)) s3) s2) E s1) E s) :
  wpAny (model Y.prog Y.w) Y.A (compTurn (.DictComp elt elv [⟨tg,iter,ifs,0⟩] scope cpos) 0 (.ref it) (.ref D) Y.env) Q E s:=by
 rw[Qfe];refine wpAny_bind (wpAny_standAt (wpAny_bind (thn h λr s1 h1=>?_)));cases r with
 |none=>exact Qg h1
 |some v=>
  refine wpAny_bind (thn h1 λ_ s2 h2=>?_);refine wpAny_bind (wpAny_mono h2 (λ_ s4 h4=>wpAny_bind (wpAny_mono h4 (λok s5 h5=>?_) λ_ _ f=>f.elim)) λ_ _ f=>f.elim);cases ok with
  |false=>exact Qg h5
  |true=>exact wpAny_bind (wpAny_bind (wpAny_mono h5 (λx s6 h6=>wpAny_bind (J7 (wpAny_mono h6 (λy s7 h7=>wpAny_bind (wpAny_standAt (J7 (wpAny_mono h7 (λ_ s8 h8=>Qg h8) λ_ _ f=>f.elim)))) λ_ _ f=>f.elim))) λ_ _ f=>f.elim))
theorem QoJ{X:Cx}{M:List Str}{cap:List (Option Nat)}{elt elv tg iter:Q2}{ifs:List Q2}{scope:Yp}{pos:Pos}{wi:TI}{g:TG}{tc:TT}{te tv:TE}(hc:X.calm=true)(ok:QcC X.N X.env.scope M scope cap=true)
  (hi:PI X tg iter wi)(hb:∀cl ex s3 H3 C,PG (blk X M scope cl ex s3 H3 C) tg g/\PTs (blk X M scope cl ex s3 H3 C) ifs tc/\PE (blk X M scope cl ex s3 H3 C) elt te/\PE (blk X M scope cl ex s3 H3 C) elv tv)
  (hs:∀x,foldedSetIterable iter X.env x=pure x:=by intro _;rfl):PE X (.DictComp elt elv [⟨tg,iter,ifs,0⟩] scope pos) (tCompD cap wi g tc te tv):=by
 intro pins s σ H Q I h;have c:=CapOk.of ok;show wpAny _ X.A (comprehension (.DictComp elt elv [⟨tg,iter,ifs,0⟩] scope pos) scope X.env _ newDict false (eval iter X.env)) _ _ s;refine Yo (use:=none) rfl hs (QeW (I.ok.cells c)) c.kind c.loc ?_
 refine thn (hi pins s σ H _ I h) λv s1 h1=>thn h1 λitv s2 h2=>?_
 obtain⟨it,fp,tn,J,H2,e,I2,T,st2,f2,hW⟩:=h2;subst e;refine JC (Qae c.cell (by intro y hy;simp at hy) (λh₁ hns₁ hsb₁=>?_) c.kind);have I3:Inv X pins σ (upd H2 s2.heap.objs.size (.dK [])) { s2 with heap:=s2.heap.push { cls:=.type "dict",data:=.dict #[] } }:=I2.laid (t':=s2.toks) (λb x e=>Qf _ e) (Qk _) (QpP s2.heap I2.big);have lt2:∀b∈fp,b<s2.heap.objs.size:=λb hb=>by obtain⟨o,e,_⟩:=T.obj _ _ st2 b hb;exact Qs e
 have f3:∀b∈fp,FpOk X pins (upd H2 s2.heap.objs.size (.dK [])) b:=λb hb=>(f2 b hb).upd (QJ (lt2 b hb))
 generalize hs3:({ s2 with heap:=s2.heap.push { cls:=.type "dict",data:=.dict #[] } }:Shared)=s3 at I3;have e3:s3.heap=s2.heap.push { cls:=.type "dict",data:=.dict #[] }:=by rw[<- hs3]
 have z3:s3.heap.objs.size=s2.heap.objs.size+1:=by rw[e3,Z8]
 have hk:∀b o,s3.heap.get? b=some o->h₁.get? b=some o:=λb o e=>hsb₁.extBut b o (by
  have:=Qs e;rw[e3] at this;exact QJ this) (Qf _ (e3 ▸ e))
 have hn₁:h₁.Ns s3.heap.objs.size λ_=>none:=by rw[e3];exact hns₁
 have B:=Qb7 (t4:=s3.toks+([]:List (Str×Value)).length) (fp:=fp) I3 c f3 (λb hb=>by rw[z3];exact QaB (lt2 b hb)) hn₁ hk;have st4:tn 0 h₁:=T.keep _ _ _ st2 λb hb o e=>hk b o (by rw[e3];exact Qf _ e)
 have fp4:∀b∈fp,FpOk (blk X M scope (Qbq X.env scope.names []) fp s3 (upd H2 s2.heap.objs.size (.dK [])) s3.heap.objs.size) [] (upd H2 s2.heap.objs.size (.dK [])) b:=λb hb=>by
  refine⟨(f3 b hb).1,(B.ok.exf b hb).1,B.ok.exfs b hb,.inl hb,(B.ok.exf b hb).2,λp hp=>(nomatch hp)⟩
 obtain⟨hg,ht,he,hv⟩:=hb (Qbq X.env scope.names []) fp s3 (upd H2 s2.heap.objs.size (.dK [])) s3.heap.objs.size;have loop:codeAny (model X.prog X.w) X.A (.compLoop (.DictComp elt elv [⟨tg,iter,ifs,0⟩] scope pos) 0 (.ref it) (.ref s2.heap.objs.size) (compEnvC scope (Qbq X.env scope.names []) s3.heap.objs.size X.env))
   (compPost (model X.prog X.w) X.A X.xe none (EP X pins σ Q) (.ref s2.heap.objs.size) s3.heap.objs.size) { s3 with heap:=h₁,toks:=s3.toks+([]:List (Str×Value)).length }:=by
  refine QkG (Y:=blk X M scope (Qbq X.env scope.names []) fp s3 (upd H2 s2.heap.objs.size (.dK [])) s3.heap.objs.size) (gens:=[⟨tg,iter,ifs,0⟩]) (d:=0) hc T st4 fp4
   (λQ E s h=>Qm8 Q E s h) (λx u r=>QdH rfl hg ht (λσ4=>QnA rfl he hv) x u r) B (hW _ (I2.hok.fresh (Qk _))) λs' H' I' q=>?_
  obtain⟨m,hn,_⟩:=I'.loc;exact⟨m,hn,λh' hs'=>⟨.ref s2.heap.objs.size,H',QgH I3 f3 I' hs',rfl,q⟩⟩
 exact codeAny_compStart_dict loop (T.self _ 0 _ _ _ st4 loop)
end L2
namespace Dl
open L2 _root_.Rd Rk
theorem Qf0(i:Int):∀kvs:List (Int×Int),Qf1 (dkV kvs) (.inl i)=((kvs.find? λp=>decide (p.1=i)).map λp=>V.int p.2)
 |[]=>rfl
 |p::kvs=>by
  have ih:=Qf0 i kvs;by_cases z:p.1=i
  ·rw[show Qf1 (dkV (p::kvs)) (.inl i)=some (V.int p.2) from Qd9 (p:=(QbU p.1,V.int p.2)) (by rw[z])];simp[Ye,z]
  ·rw[show Qf1 (dkV (p::kvs)) (.inl i)=Qf1 (dkV kvs) (.inl i) from Qea (p:=(QbU p.1,V.int p.2)) (λe=>z (QjZ e)),ih];simp[Ye,z]
theorem QtO{kvs:List (Int×Int)}{a b:Int}(h:∀p∈kvs,p.1≠a):Qoy (dkV kvs) (.inl a) (.int b)=dkV (kvs++[(a,b)]):=by
 rw[Qox,dkV,dkV,Q1]
 ·rfl
 ·rw[Qf0,List.find?_eq_none.mpr λp hp=>by simpa using h p hp];rfl
@[irreducible] def QjV(items:List Qa)(wg:DG)(wt:DT)(wk wv:DE)(δ:Sts)(Q:Qa->Prop):Prop:=∃Iv:Nat->List (Int×Int)->Prop,Iv 0 [] /\
 (∀(i:Nat) acc d,items[i]? = some d->Iv i acc->wg d δ λδ4=>wt δ4 (λb=>if b=true then wk δ4 (λk=>∃a,k=.int a/\wv δ4 (λv=>∃b,v=.int b/\acc.length<1000000/\(∀p∈acc,p.1≠a)/\Iv (i+1) (acc++[(a,b)])) XF) XF else Iv (i+1) acc) XF)/\∀acc,Iv items.length acc->Q (.dict (dkD acc))
def dCompD(cap:List (Option Nat))(wi:DI)(wg:DG)(wt:DT)(wk wv:DE):DE:=λδ Q EX=>wi δ (λitems=>QjV items wg wt wk wv (QdZ cap δ) Q) EX
theorem QkF{K:PySem.W.Frag}{E:XK}{cap:List (Option Nat)}{ix:List Nat}{wi:DI}{wg:DG}{wt:DT}{wk wv:DE}(hf:Qa4 cap ix=true)(σ:L2.St)(H:Hp)(Q:VK)(h:tX .D K E (dCompD cap wi wg wt wk wv) σ H Q) :
  tCompD cap (tI .P K E wi) (tG ix K wg) (tT K E0 wt) (tX .D K E0 wk) (tX .D K E0 wv) σ H Q:=by
 obtain⟨F,δ,R,EX,rel,hw,k,o⟩:=h;refine⟨F,δ,_,EX,rel,hw,λitems hC J H1 rel1 kp1 ⟨ln,it⟩ p hp=>?_,o⟩;unfold QjV at hC;obtain⟨Iv,i0,step,fin⟩:=hC;have hpn:¬Z3 σ δ p:=λz=>by obtain⟨xs,e⟩:=rel1.isl (Yy (F:=F) z);rw[hp] at e;cases e
 have hpa:¬Av F σ δ p:=λz=>by obtain⟨xs,e⟩:=rel1.isl z;rw[hp] at e;cases e
 refine Qb1 items.length (λi H2=>i<=items.length/\∃acc,Iv i acc/\Kp σ δ H1 H2/\H2 p=some (.dK (dkV acc))) ⟨Qv _,[],i0,Kp.same rel1 (Jk hp),Jm⟩ (λi H2 hi ⟨_,acc,iv,k2,e2⟩=>?_) λH2 ⟨_,acc,iv,k2,e2⟩=>?_
 ·obtain⟨go,_⟩:=it H2 (Av F σ δ) (λb o n e=>k2.1 b o n e) (λa z=>.inl z) (λa z=>(rel1.kp k2).isl z);have hd:items[i]? = some items[i]:=Ql hi;obtain⟨g1,g2⟩:=go i _ hd;refine⟨g1,λx H3 y kk hk=>?_⟩;obtain⟨s3,dx⟩:=g2 x H3 y;have k3:Kp σ δ H1 H3:=k2.trans (Kp.same (rel1.kp k2) s3);have e3:=s3 _ _ e2;refine Qh9 (A1:=Av F σ δ) hf rel1 (λa z=>z) (λa z=>.inl z) (λa z=>(rel1.kp k3).isl z) k3 dx (step i acc _ hd iv) (λσ4 δ4 H5 h5 r5 k5 pots=>?_) λh5 H5 k5=>hk _ ⟨hi,acc,h5,k3.trans k5,k5.1 _ _ hpn e3⟩
  have lift:∀{Ha Hb:Hp},Kp σ δ H1 Ha->Kp σ4 δ4 Ha Hb->Kp σ δ Ha Hb:=λ{Ha Hb} ka kb=>by
   refine⟨λb o n e=>kb.1 b o (λz=>n (pots b z)) e,λb hb=>?_⟩;by_cases z:Z3 σ4 δ4 b
   ·exact kb.2 b z
   ·obtain⟨n,e⟩:=ka.2 b hb;exact⟨n,kb.1 _ _ z e⟩
  have k15:=k3.trans k5;refine⟨inF (Av F σ δ) cap σ δ H3,δ4,_,XF,r5,h5,λd he v H6 r6 kp6 dv=>?_,Qhl⟩;obtain⟨a,rfl,h6⟩:=he;cases(show DA _ H6 v (.int a) from dv);have k56:=lift k15 kp6;refine⟨inF (Av F σ δ) cap σ δ H3,δ4,_,XF,r6,h6,λd he v H7 r7 kp7 dv=>?_,Qhl⟩;obtain⟨b,rfl,hl,ne,h7⟩:=he;cases(show DA _ H7 v (.int b) from dv);have k67:=lift (k15.trans k56) kp7;have e7:H7 p=some (.dK (dkV acc)):=k67.1 _ _ hpn (k56.1 _ _ hpn (k5.1 _ _ hpn e3));have k17:Kp σ δ H1 H7:=(k15.trans k56).trans k67;refine⟨dkV acc,.inl a,rfl,e7,QL (by rw[dkV,Qe];exact hl) Qgq,hk _ ⟨hi,acc++[(a,b)],h7,⟨λc o n e=>?_,λc hc=>?_⟩,by rw[QtO ne];exact Jm⟩⟩
  ·rw[JX (λz=>by rw[z,hp] at e;cases e)];exact k17.1 c o n e
  ·rw[JX (λz=>hpn (by rw[<- z];exact hc))];exact k17.2 c hc
 ·obtain⟨_,st⟩:=it H2 (Av F σ δ) (λb o n e=>k2.1 b o n e) (λa z=>.inl z) (λa z=>(rel1.kp k2).isl z);exact⟨st,k _ (fin acc iv) (.ref p) H2 (rel1.kp k2) (kp1.trans k2) (.dct hpa e2 rfl)⟩
theorem QxF{n:Nat}(h:n+60<cLine):n+1<cLine:=by omega
theorem QxE{n:Nat}(h:n+60<cLine):n+2<cLine:=by omega
section
variable{X:Cx}{E:XK}
theorem QsB(M:List Str)(cap:List (Option Nat)){elt elv tg iter:Q2}{ifs:List Q2}{scope:Yp}{pos:Pos}{ix:List Nat}{wi:DI}{wg:DG}{wt:DT}{wk wv:DE}(hi:QI .P X E tg iter wi)(hb:∀cl ex s3 H3 C,QG ix (blk X M scope cl ex s3 H3 C) tg wg/\QTs (blk X M scope cl ex s3 H3 C) E0 ifs wt/\QE .D (blk X M scope cl ex s3 H3 C) E0 elt wk/\QE .D (blk X M scope cl ex s3 H3 C) E0 elv wv)(hc:X.calm=true:=by rfl)(ok:QcC X.N X.env.scope M scope cap=true:=by rfl)(hf:Qa4 cap ix=true:=by rfl)(hs:∀x,foldedSetIterable iter X.env x=pure x:=by intro _;rfl):QE .D X E (.DictComp elt elv [⟨tg,iter,ifs,0⟩] scope pos) (dCompD cap wi wg wt wk wv):=
 ⟨PE.imp (QoJ hc ok hi.h (λcl ex s3 H3 C=>⟨(hb cl ex s3 H3 C).1.h,(hb cl ex s3 H3 C).2.1.h,(hb cl ex s3 H3 C).2.2.1.h,(hb cl ex s3 H3 C).2.2.2.h⟩) hs) λσ H Q q=>QkF (E:=E) hf σ H Q q⟩
def QyV:R2:=λx y H Q=>∃a i kvs,x=.int i/\y=.ref a/\H a=some (.dK kvs)/\Q (.bl (Qf1 kvs (.inl i)).isSome) H
theorem QvC(hu:X.A.units+1<cLine):OpR X (compareOp .In) QyV:=by
 intro pins s σ H x y v u Q I rx ry h;obtain⟨a,i,kvs,rfl,rfl,e,q⟩:=h;cases ry;exact QzX hu I (DGet.k (k:=.inl i) e) rx λs' I'=>⟨.bl (Qf1 kvs (.inl i)).isSome,H,I',rfl,q⟩
def QzT:Qa->Qa->(Qa->Prop)->Prop
 |.int i,.dict ds,Q=>∃kvs,ds=dkD kvs/\Q (.bool (kvs.find? λp=>decide (p.1=i)).isSome)
 |_,_,_=>False
theorem Qnb:∀{a b:List (Int×Int)},dkD a=dkD b->a=b
 |[],[],_=>rfl
 |[],_::_,h=>by cases h
 |_::_,[],h=>by cases h
 |p::a,q::b,h=>by
  have h:=Qoa (show(Qp p.1,Qp p.2)::dkD a=(Qp q.1,Qp q.2)::dkD b from h);have h1:=Quq h.1;rw[Qnb h.2,QwT (Qe1 h1.1) (Qe1 h1.2)]
theorem DP.dict{A P:Addr->Prop}{H:Hp}{v:V}{kvs:List (Int×Int)}(h:DP A P H v (.dict (dkD kvs))):∃l,v=.ref l/\H l=some (.dK (dkV kvs)):=by
 rcases h with h | ⟨l,xs,ds',rfl,e,_⟩
 ·cases h with
  |dct n e q=>rw[Qnb q];exact⟨_,rfl,e⟩
 ·cases e
theorem QvP:OpD QyV QzT:=λA P H x y d1 d2 R Q ln dm hx hy h k=>by
 cases d1<;>cases d2<;>first | exact h.elim | skip
 obtain⟨kvs,rfl,hR⟩:=h;rw[hx.int];obtain⟨l,rfl,e⟩:=hy.dict;refine⟨l,_,_,rfl,rfl,e,k _ hR _ H (Same.refl H) ?_ Qas⟩;rw[Qf0,QnT];exact .bl _
def QyT:R2:=λx y H Q=>∃a i kvs v,x=.ref a/\y=.int i/\H a=some (.dK kvs)/\Qf1 kvs (.inl i)=some v/\Q v H
theorem Qyj(hu:X.A.units+2<cLine):IxR X QyT:=by
 intro value slice pins s σ H x y v u Q I rx ry h hs;obtain⟨a,i,kvs,z,rfl,rfl,e,hv,q⟩:=h;cases rx;have g:DGet H a (.int i) (some z):=by rw[<- hv];exact DGet.k (k:=.inl i) e
 have hT:=QiK I g;have h₂:wpAny (model X.prog X.w) X.A (getItem (.ref a) u) (EP X pins σ Q) X.xe s:=Qni (by omega) I g ry λw' s3 I3 rw'=>⟨z,H,I3,rw',q⟩
 unfold subscriptTail;refine wpAny_bind ?_
 rw[getitemInPython_of_ne hT.not_modules];refine wpAny_bind (wpAny_specialOf hT PySem.F.slot_dict_getitem.lookup ?_);have fin:wpAny (model X.prog X.w) X.A (subscripted slice false (.ref a) u) (λr s₃=>wpAny (model X.prog X.w) X.A (letTemporaryGo value (.ref a) r >>= λ_=>pure r) (EP X pins σ Q) X.xe s₃) X.xe s:=by
  rw[hs];exact wpAny_operating (wpAny_mono h₂ (λr s₃ h₃=>wpAny_bind (wpAny_letTemporaryGo (Qg h₃))) λ_ _ x=>x)
 first
  |exact Qg (wpAny_bind fin)
  |exact wpAny_bind (Qg (wpAny_bind fin))
  |exact wpAny_bind fin
def ixKD:Qa->Qa->(Qa->Prop)->Prop
 |.dict ds,.int i,Q=>∃kvs b,ds=dkD kvs/\((kvs.find? λp=>decide (p.1=i)).map (·.2))=some b/\Q (.int b)
 |_,_,_=>False
theorem QvO:QwL QyT ixKD:=λA P H x y d1 d2 R Q ln dm hx hy h k=>by
 cases d1<;>cases d2<;>first | exact h.elim | skip
 obtain⟨kvs,b,rfl,hf,hR⟩:=h;rw[hy.int];obtain⟨l,rfl,e⟩:=hx.dict;refine⟨l,_,_,.int b,rfl,rfl,e,?_,k _ hR _ H (Same.refl H) (.int _)⟩;rw[Qf0];obtain⟨p,hp,hb⟩:=JU.mp hf;rw[hp,<- hb];rfl
end
end Dl
namespace Rk
open L2 _root_.Rd Dl Rt
end Rk
namespace HT
section
open PySem.SeqAt
open PySem.AutoSeq1 (wpAny_loadPart')
open PySem.MeetsSeq PySem.MeetsSeq2 PySem.MeetsSeq3
end
section
variable{prog:QB}{w:Jl}{A:Q9}{E:Value->Shared->Prop}{s:Shared}
end
end HT
namespace L2
end L2
namespace Rk
open L2 _root_.Rd Dl Rt
end Rk
namespace Dl
open L2 _root_.Rd Rk Rt
end Dl
namespace Rk
open L2 _root_.Rd Dl Rt
end Rk
namespace Zt
def f5(M x:Nat):Nat:=(x*5+1) % M
def it5(M:Nat):Nat->Nat->Nat
 |0,x=>x
 |n+1,x=>it5 M n (f5 M x)
def Qzj(M:Nat):Nat->Nat->Nat->Nat
 |0,_,acc=>acc
 |n+1,x,acc=>Qzj M n (f5 M x) (acc ||| 2^x)
def Qyr(M:Nat):Bool:=decide (Qzj M M 0 0=2^M - 1)&&decide (it5 M M 0=0)
def QxQ(t:Qa5):Nat->Qff->Qff
 |0,p=>p
 |n+1,p=>QxQ t n (t.advance p)
structure Tab (t:Qa5):Prop where
 pw:t.place.toList.Pairwise (· < ·)
 le:∀x∈t.place.toList,x<=t.mask
 dm:t.dummies=#[]
 gd:Qyr (t.mask+1)=true
 pl:t.plain=true
 od:t.mask % 2=1
structure PIn (t:Qa5) (p:Qff):Prop where
 a:p.j+p.more<=t.mask
 b:p.i<=t.mask
theorem QuT{mask i:Nat}(h:i<=mask):i+(QnP mask i - i)<=mask:=by unfold QnP;split<;>omega
def Rch(t:Qa5)(j:Nat)(h:Int):Prop:=∃n,(QxQ t n (t.probeStart h)).j=j/\∀m,m<n->(QxQ t m (t.probeStart h)).j∈t.place.toList
structure QyF (h:Za) (a:Addr) (es:Array (Int×Value)) (ep:Nat) (t:Qa5):Prop where
 at_:∃o,h.get? a=some o/\o.ExactSet/\o.data=.set es ep t
 ft:t.fits es.size=true
section
variable{prog:QB}{w:Jl}{A:Q9}{E:Value->Shared->Prop}{s:Shared}
end
section
variable{prog:QB}{w:Jl}{A:Q9}{E:Value->Shared->Prop}{s:Shared}
end
section
variable{prog:QB}{w:Jl}{A:Q9}{E:Value->Shared->Prop}{s:Shared}
structure TS (prog:QB) (w:Jl) (h:Za) (a:Addr) (es:Array (Int×Value)) (ep:Nat) (t:Qa5) (ps:List (List Int×Addr)):Prop where
 at_:QyF h a es ep t
 tab:Tab t
 ent:es.toList=ps.map λp=>(tupleKeyHash (intKind prog w) p.1,JP p.2)
 key:∀p∈ps,IsTupleKey (intKind prog w) h p.1 p.2
 nd:(ps.map (·.1)).Nodup
 rch:∀(i j:Nat)(e:Int×Value),t.place[i]? = some j->es[i]? = some e->Rch t j e.1
 mks:t.mask=7∨t.mask=31∨t.mask=127∨t.mask=511∨t.mask=2047
 few:t.place.size*5<t.mask*3
variable{a:Addr}{es:Array (Int×Value)}{ep:Nat}{t:Qa5}{ps:List (List Int×Addr)}
end
def Sm(m:Nat):List Nat:=(Jr 6).filter m.testBit
def tb(m:Nat)(led:Bool):Qa5:={ mask:=if 5<=(Sm m).length then 31 else 7,place:=(Sm m).toArray,dummies:=#[],finger:=0,led:=led,moves:=if 5<=(Sm m).length then 1 else 0,plain:=true }
def tp(m v:Nat)(led:Bool):Qa5:={ tb m led with place:=(Sm (m ||| 2^v)).toArray }
section
variable{prog:QB}{w:Jl}{A:Q9}{E:Value->Shared->Prop}{s:Shared}
end
section
variable{prog:QB}{w:Jl}{A:Q9}{R:Qr5->Shared->Prop}{I:Addr}{fp wr:List Addr}{n:Nat}{P:Nat->Value->Prop}{St:Nat->Za->Prop}
end
section
variable{prog:QB}{w:Jl}{A:Q9}{E:Value->Shared->Prop}{s:Shared}{a:Addr}{es:Array (Int×Value)}{ep:Nat}{t:Qa5}{ps:List (List Int×Addr)}
theorem TS.other(x:TS prog w s.heap a es ep t ps){ks:List Int}{b:Addr}(hk:IsTupleKey (intKind prog w) s.heap ks b):b≠a:=λe=>by
 subst e;obtain⟨o,ho,hex,hd⟩:=x.at_.at_;obtain⟨o',it,n,ho',hc,_⟩:=hk;rw[ho] at ho';cases ho';rw[hex.1] at hc;exact absurd hc (by decide)
end
section
variable{prog:QB}{w:Jl}{A:Q9}{E:Value->Shared->Prop}{s:Shared}{a:Addr}{es:Array (Int×Value)}{ep:Nat}{t:Qa5}{ps:List (List Int×Addr)}
end
section
variable{prog:QB}{w:Jl}{A:Q9}{E:Value->Shared->Prop}{s:Shared}
end
section
variable{prog:QB}{w:Jl}{s:Shared}{a:Addr}{es:Array (Int×Value)}{ep:Nat}{t:Qa5}{ps:List (List Int×Addr)}
variable{A:Q9}{R:Qr5->Shared->Prop}{I:Addr}{fp wr:List Addr}{n:Nat}{P:Nat->Value->Prop}{St:Nat->Za->Prop}
end
section
variable{prog:QB}{w:Jl}{A:Q9}{E:Value->Shared->Prop}{s:Shared}
end
section
variable{prog:QB}{w:Jl}{A:Q9}{E:Value->Shared->Prop}{s:Shared}
end
end Zt
namespace Zt
open PySem.W PySem.Calls Rs
section
variable{prog:QB}{w:Jl}{A:Q9}{E:Value->Shared->Prop}{s:Shared}
end
end Zt
namespace L2
open Zt
section
variable{X:Cx}
end
end L2
namespace Dl
open L2 _root_.Rd Rk Zt
section
variable{X:Cx}{E:XK}
end
end Dl
namespace L2
open PySem.Calls _root_.Rd _root_.Rk _root_.Rs Rt Dl
section
variable{X:Cx}
end
end L2
namespace Zt
section
variable{prog:QB}{w:Jl}{A:Q9}{E:Value->Shared->Prop}{s:Shared}
end
end Zt
namespace Rk
open L2 _root_.Rd Dl Rt
end Rk
namespace L2
open Zt _root_.Rd _root_.Rk Dl Rt
section
variable{X:Cx}
end
end L2
namespace Dl
open L2 _root_.Rd Rk Zt Rt
section
variable{X:Cx}{E:XK}
end
end Dl
namespace Rk
open L2 _root_.Rd Dl Rt
def Quh(x:Int):List Int->List Int
 |[]=>[x]
 |y::r=>if x<=y then x::y::r else y::Quh x r
def srtS:List Int->List Int
 |[]=>[]
 |x::r=>Quh x (srtS r)
theorem QeQ(x:Int):∀l:List Int,(Quh x l).Perm (x::l)
 |[]=>.refl _
 |y::r=>by
  unfold Quh;split
  ·exact .refl _
  ·exact((QeQ x r).cons y).trans (.swap _ _ _)
theorem Qex:∀l:List Int,(srtS l).Perm l
 |[]=>.nil
 |x::r=>(QeQ x _).trans ((Qex r).cons x)
theorem QmU(x:Int):∀l:List Int,l.Pairwise (·<=·)->(Quh x l).Pairwise (·<=·)
 |[],_=>Qca _ _
 |y::r,h=>by
  obtain⟨h1,h2⟩:=YC.mp h;unfold Quh;split
  ·rename_i q
   exact .cons (λz hz=>(QN.mp hz).elim (λe=>e ▸ q) λhz=>Int.le_trans q (h1 z hz)) h
  ·rename_i q
   refine .cons (λz hz=>?_) (QmU x r h2);rcases QN.mp ((QeQ x r).mem_iff.mp hz) with e | e
   ·rw[e];omega
   ·exact h1 z e
theorem Qlh:∀l:List Int,(srtS l).Pairwise (·<=·)
 |[]=>.nil
 |x::r=>QmU x _ (Qlh r)
mutual
theorem QvM:∀(x y:Qa),okK x=true->okK y=true->Qb5 x y=.eq->x=y
 |.int i,.int j,_,_,h=>by
  have h:Qe3 i j=.eq:=h;unfold Qe3 at h;by_cases z:i<j
  ·rw[if_pos z] at h;cases h
  ·rw[if_neg z] at h;by_cases y:i=j
   ·rw[y]
   ·rw[if_neg y] at h;cases h
 |.int _,.tuple _,_,_,h=>by cases h
 |.tuple _,.int _,_,_,h=>by cases h
 |.tuple a,.tuple b,h1,h2,h=>by rw[QrE a b h1 h2 h]
 |.none,_,h,_,_=>by cases h
 |.bool _,_,h,_,_=>by cases h
 |.str _,_,h,_,_=>by cases h
 |.list _,_,h,_,_=>by cases h
 |.dict _,_,h,_,_=>by cases h
 |.int _,.none,_,h,_=>by cases h
 |.int _,.bool _,_,h,_=>by cases h
 |.int _,.str _,_,h,_=>by cases h
 |.int _,.list _,_,h,_=>by cases h
 |.int _,.dict _,_,h,_=>by cases h
 |.tuple _,.none,_,h,_=>by cases h
 |.tuple _,.bool _,_,h,_=>by cases h
 |.tuple _,.str _,_,h,_=>by cases h
 |.tuple _,.list _,_,h,_=>by cases h
 |.tuple _,.dict _,_,h,_=>by cases h
theorem QrE:∀(xs ys:List Qa),Qeg xs=true->Qeg ys=true->QbL xs ys=.eq->xs=ys
 |[],[],_,_,_=>rfl
 |[],_::_,_,_,h=>by cases h
 |_::_,[],_,_,h=>by cases h
 |x::xs,y::ys,h1,h2,h=>by
  have h1:=Qo.mp (show(okK x&&Qeg xs)=true from h1);have h2:=Qo.mp (show(okK y&&Qeg ys)=true from h2);have h:thn (Qb5 x y) (QbL xs ys)=.eq:=h;cases e:Qb5 x y with
  |eq=>rw[e] at h;rw[QvM x y h1.1 h2.1 e,QrE xs ys h1.2 h2.2 h]
  |lt=>rw[e] at h;cases h
  |gt=>rw[e] at h;cases h
end
theorem Qtm{x y:Qa}(h1:okK x=true)(h2:okK y=true)(a:ltD y x=false)(b:ltD x y=false):x=y:=by
 refine QvM x y h1 h2 ?_
 rw[QmF] at a;unfold ltD at b;cases e:Qb5 x y with
 |eq=>rfl
 |lt=>rw[e] at b;cases b
 |gt=>rw[e] at a;cases a
theorem Qha{es fs:List Qa}(p:es.Perm fs)(hk:∀d∈fs,okK d=true)(h1:es.Pairwise λa b=>ltD b a=false)(h2:fs.Pairwise λa b=>ltD b a=false):es=fs:=
 Qbt (le:=λa b=>ltD b a=false) (λa b ha hb x y=>Qtm (hk a (p.mem_iff.mp ha)) (hk b hb) x y) h1 h2 p
def Qw0:List Qa->Bool
 |x::y::r => !ltD y x&&Qw0 (y::r)
 |_=>true
theorem Qli:∀{l:List Qa},Qw0 l=true->l.Pairwise λa b=>ltD b a=false
 |[],_=>.nil
 |[x],_=>Qca _ _
 |x::y::r,h=>by
  have h:=Qo.mp (show(!ltD y x&&Qw0 (y::r))=true from h);have ih:=Qli h.2;have hx:ltD y x=false:=by simpa using h.1
  refine YC.mpr ⟨λz hz=>?_,ih⟩;rcases QN.mp hz with rfl | hz
  ·exact hx
  ·exact QrJ x y z hx ((YC.mp ih).1 z hz)
def Qfo(n:Nat):List (Int×Int):=QwA n n λr c=>decide (c<r)
def Qrf(n:Nat):Qa:=bdD n n (Qfo n)
def pLot(l:List Int):Qa:=.tuple (l.map Qp)
def QhX(L:List (List Int)):Qa:=.tuple (L.map pLot)
def QnY(L:List (Int×Int))(lots:List (List Int))(t:Int):List (List Int):=
 match L.find? λp=>decide (p.1=t) with
 |some p=>lots.map λl=>if l.getLast? = some p.2 then l++[t] else l
 |none=>lots++[[t]]
def ptN(L:List (Int×Int)):Nat->List (List Int)
 |0=>[]
 |k+1=>QnY L (ptN L k) k
theorem Qrr(L:List (Int×Int)):∀k,∀l∈ptN L k,l≠[]
 |0,l,h=>nomatch h
 |k+1,l,h=>by
  have ih:=Qrr L k;have h:l∈QnY L (ptN L k) k:=h;unfold QnY at h;split at h
  ·obtain⟨m,hm,rfl⟩:=Qw.mp h;split
   ·simp
   ·exact ih m hm
  ·rcases JB.mp h with h | h
   ·exact ih l h
   ·rw[Jz.mp h];simp
theorem Qgf(L:List (Int×Int)):∀k,(ptN L k).length<=k/\∀l∈ptN L k,l.length<=k
 |0=>⟨Qk _,λl h=>nomatch h⟩
 |k+1=>by
  obtain⟨ih1,ih2⟩:=Qgf L k;show(QnY L (ptN L k) k).length<=k+1/\∀l∈QnY L (ptN L k) k,l.length<=k+1
  unfold QnY;split
  ·refine⟨by rw[Qe];omega,λl h=>?_⟩;obtain⟨m,hm,rfl⟩:=Qw.mp h;have:=ih2 m hm;split
   ·rw[Qd];show _+1<=_;omega
   ·omega
  ·refine⟨by rw[Qd];show _+1<=_;omega,λl h=>?_⟩;rcases JB.mp h with h | h
   ·have:=ih2 l h;omega
   ·rw[Jz.mp h];show 1<=_;omega
def lotGo(lots:List (List Int))(p:Int×Int):List (List Int):=
 lots.filter (λl => !(decide (p.1∈l)||decide (p.2∈l)))++[srtS (lots.filter λl=>decide (p.1∈l)||decide (p.2∈l)).flatten]
theorem Qhn:∀l:List Int,Qeg (l.map Qp)=true
 |[]=>rfl
 |x::l=>by show(true&&Qeg (l.map Qp))=true;rw[Qhn l];rfl
def Qyh(n:Nat)(L:List (Int×Int)):List (List Int):=L.foldl lotGo ((Jr n).map λ(t:Nat)=>[(t:Int)])
def QhF:List Int->List (Int×Int)
 |x::y::r=>(y,x)::QhF (y::r)
 |_=>[]
def QdE(L:List (List Int)):List (Int×Int):=L.flatMap QhF
theorem Qc6:∀l:List Int,(QhF l).length<=l.length
 |[]=>Qk _
 |[_]=>Qv _
 |x::y::r=>by
  have:=Qc6 (y::r);show(QhF (y::r)).length+1<=(y::r).length+1;omega
theorem Qnr(L:List (List Int)):(QdE L).length<=L.flatten.length:=by
 induction L with
 |nil=>exact Qk _
 |cons l L ih=>
  have:=Qc6 l;unfold QdE at ih ⊢;rw[Zy,Qd,JG,Qd];omega
def Qug:Qa->Qa
 |.tuple [a,b]=>.tuple [b,a]
 |_=>.none
theorem Qi1:∀l:List Int,(QfY (l.map Qp) (Dl.cutD (l.map Qp) (some 1) none)).map Qug=(QhF l).map pairD
 |[]=>by
  have h:(QfY ([]:List Qa) (Dl.cutD [] (some 1) none))=[]:=by unfold QfY;rfl
  rw[Qe8,h];rfl
 |[x]=>by rw[Jh,QpQ];rfl
 |x::y::r=>by
  have ih:=Qi1 (y::r);rw[Jh,QpQ] at ih ⊢;show Qug (.tuple [.int x,.int y])::(QfY (Qp y::r.map Qp) (r.map Qp)).map Qug=_;rw[ih];rfl
theorem QjU:∀l:List Int,QhF l=(Jr (l.length - 1)).map λk=>(l.getD (k+1) 0,l.getD k 0)
 |[]=>rfl
 |[x]=>rfl
 |x::y::r=>by
  have ih:=QjU (y::r);show(y,x)::QhF (y::r)=_;rw[ih,show(x::y::r).length - 1=(r.length+1 - 1)+1 by simp,Qj3,Jh,Jj];rfl
def QwB(l:List Int):Qa->Qa
 |.int k=>pairD (l.getD (k.toNat+1) 0,l.getD k.toNat 0)
 |_=>.none
theorem Qor(l:List Int):(Qed 0 (((l.map Qp).length:Int) - 1).toNat).map (QwB l)=(QhF l).map pairD:=by
 rw[QjU,Jj,Qe,show(((l.length:Nat):Int) - 1).toNat=l.length - 1 by omega];unfold Qed;rw[Jj];refine Yk λk _=>?_
 show pairD (l.getD ((0+(k:Int)).toNat+1) 0,l.getD (0+(k:Int)).toNat 0)=_;rw[show(0+(k:Int)).toNat=k by omega];rfl
theorem QiI:∀a b:List Int,Ja (pLot a) (pLot b)=decide (a=b)
 |[],[]=>rfl
 |[],_::_=>rfl
 |_::_,[]=>rfl
 |x::a,y::b=>by
  show((x == y)&&Ja (pLot a) (pLot b))=_;rw[QiI a b,ZW];simp
theorem Qt6(L:List (List Int))(l:List Int):((L.map pLot).any λe=>Ja e (pLot l))=decide (l∈L):=by
 rw[QkS,ZW,QaZ,decide_eq_true_iff];constructor
 ·rintro⟨c,hc,h⟩;have:c=l:=of_decide_eq_true (by rw[<- QiI];exact h);rw[<- this];exact hc
 ·intro h;exact⟨l,h,by show Ja (pLot l) (pLot l)=true;rw[QiI];exact decide_eq_true rfl⟩
theorem QeS{α:Type}(q:List α->Bool):∀L:List (List α),(L.filter q).flatten.length+(L.filter λl => !q l).flatten.length=L.flatten.length
 |[]=>rfl
 |l::L=>by
  have ih:=QeS q L;cases h:q l with
  |true=>rw[Qcc h,Qcd (by rw[h];decide),JG,JG,Qd,Qd];omega
  |false=>rw[Qcd (by rw[h];decide),Qcc (by rw[h];rfl),JG,JG,Qd,Qd];omega
theorem QmH(lots:List (List Int))(p:Int×Int):(lotGo lots p).length<=lots.length+1/\(lotGo lots p).flatten.length=lots.flatten.length:=by
 have h:=QeS (λl=>decide (p.1∈l)||decide (p.2∈l)) lots;have h2:=QcL (λl => !(decide (p.1∈l)||decide (p.2∈l))) lots;unfold lotGo;rw[Qd,Yl,Qd,JG,List.flatten_nil,Ji,(Qex _).length_eq];exact⟨by show _+1<=_;omega,by omega⟩
theorem Qtw(L:List (Int×Int)):∀lots:List (List Int),(L.foldl lotGo lots).length<=lots.length+L.length/\(L.foldl lotGo lots).flatten.length=lots.flatten.length:=by
 induction L with
 |nil=>intro lots;exact⟨Qk _,rfl⟩
 |cons p L ih=>
  intro lots;obtain⟨a,b⟩:=QmH lots p;obtain⟨c,d⟩:=ih (lotGo lots p);show(L.foldl lotGo (lotGo lots p)).length<=_/\_=_;exact⟨by rw[QC];omega,d.trans b⟩
def one0(n:Nat):List (List Int):=(Jr n).map λ(t:Nat)=>[(t:Int)]
theorem Qpa(n:Nat):(one0 n).length=n/\(one0 n).flatten.length=n:=by
 refine⟨by unfold one0;rw[Qe,Yd],?_⟩;unfold one0;induction n with
 |zero=>rfl
 |succ n ih=>rw[QgM,Q1,Yl,Qd,ih];rfl
theorem QpR:∀n k:Fin 7,((evS (Qfo n.val) k.val).all λL=>(ptN L n.val).isPerm (Qyh n.val L)&&Qw0 ((ptN L n.val).map pLot))=true:=by decide +kernel
theorem QuI:∀n:Fin 7,((Qfo n.val).all λp=>decide (0<=p.1)&&decide (p.1<n.val))=true:=by decide +kernel
theorem Qlf{n:Nat}{L:List (Int×Int)}(hn:n<=6)(h:Std (Qfo n) L):L.length<=n/\L∈evS (Qfo n) L.length:=by
 have b:∀p∈Qfo n,decide (0<=p.1)=true/\decide (p.1<(n:Int))=true:=λp hp=>Qo.mp (Q4.mp (QuI ⟨n,by omega⟩) p hp)
 refine⟨?_,(QmE (λp hp=>of_decide_eq_true (b p hp).1) _ _).mpr ⟨h,rfl⟩⟩;have rise:∀(M:List (Int×Int))(a:Int),M.Pairwise (λp q=>p.1<q.1)->(∀p∈M,a<=p.1/\p.1<n)->a<=n->(M.length:Int)<=n - a:=by
  intro M;induction M with
  |nil=>intro a _ _ h;show(0:Int)<=_;omega
  |cons p M ih=>
   intro a pw hb _;have pw:=YC.mp pw;have h1:=hb p (.head _);have:=ih (p.1+1) pw.2 (λq hq=>⟨by have:=pw.1 q hq;omega,(hb q (.tail _ hq)).2⟩) (by omega);rw[QC];omega
 have:=rise L 0 h.rows (λp hp=>⟨of_decide_eq_true (b p (h.sub p hp)).1,of_decide_eq_true (b p (h.sub p hp)).2⟩) (by omega);omega
theorem Qpy{n:Nat}{L:List (Int×Int)}{es:List Qa}(hn:n<=6)(h:Std (Qfo n) L)(p:es.Perm ((Qyh n L).map pLot))(pw:es.Pairwise λa b=>ltD b a=false):es=(ptN L n).map pLot:=by
 obtain⟨hl,hm⟩:=Qlf hn h;have c:=Qo.mp (Q4.mp (QpR ⟨n,by omega⟩ ⟨L.length,by omega⟩) L hm);refine Qha (p.trans ((List.isPerm_iff.mp c.1).symm.map pLot)) (λd hd=>?_) pw (Qli c.2);obtain⟨l,_,rfl⟩:=Qw.mp hd;exact Qhn l
end Rk
namespace L2
section
variable{X:Cx}{pins:List (Addr×Obj)}{σ:St}{H H3:Hp}{s3:Shared}{M:List Str}{scope:Yp}{cap:List (Option Nat)}{fp:List Addr}{h4:Za}{t4:Nat}
end
section
variable{X:Cx}{pins:List (Addr×Obj)}{σ:St}{H:Hp}
end
end L2
namespace Rk
open L2 _root_.Rd Dl
end Rk
namespace Dl
open L2
section
variable{X:Cx}{E:XK}
end
end Dl
namespace Rk
open L2 _root_.Rd
def top(i:Nat):Z4:=PySem.Challenge.pw_rooklands_k82_steps_and_partings.main.body.getD i (.Pass ⟨0,0,0,0⟩)
abbrev Qfr:Z4:=top 22
abbrev Qdj:Z4:=top 23
abbrev Qdk:Z4:=top 24
abbrev Qfv:Z4:=top 27
abbrev Qfu:Z4:=top 28
abbrev Qkd:Z4:=top 29
abbrev Qft:Z4:=top 31
abbrev Qfw:Z4:=top 32
abbrev Qkc:Z4:=top 34
abbrev sLot:Z4:=top 35
abbrev Qkb:Z4:=top 36
abbrev Qfs:Z4:=top 37
abbrev sPOf:Z4:=top 38
abbrev sSOf:Z4:=top 39
abbrev Qdw:Z4:=top 41
abbrev lPot:Z4:=top 42
abbrev Qku:Z4:=top 43
abbrev lOdd:Z4:=top 44
abbrev Qcl:Z4:=top 45
abbrev QdP:Z4:=top 46
abbrev QfF:Z4:=top 47
abbrev lIsP:Z4:=top 48
abbrev QfH:Z4:=top 49
abbrev QfD:Z4:=top 50
abbrev QfG:Z4:=top 51
abbrev lIsS:Z4:=top 52
abbrev lNoT:Z4:=top 53
abbrev Qkx:Z4:=top 54
abbrev Qkv:Z4:=top 55
abbrev Qkt:Z4:=top 56
abbrev QfE:Z4:=top 57
abbrev Qkw:Z4:=top 58
abbrev Qky:Z4:=top 59
abbrev sLaw:Z4:=top 60
section
variable{P:QB}{w:Jl}{K:PySem.W.Frag}{mg:Str->Option Value}{base:Za}
theorem Qoq:Jy ["_law_script", "_law_k"] ["_law_script", "_law_k"] (Qt Qdw):=⟨rfl,rfl,rfl,by decide +kernel,rfl,by decide +kernel,by decide +kernel⟩
theorem Qmp{f:Addr}{fd:QQ}(F:Fun K "_law_cell_at" "_law_cell_at" Qdw f fd)(T:GlbA mg):FnOk P w K mg base CX0 1 f fd ["_law_script", "_law_k"] (QcU K):=by
 refine F.ok Qoq (λvs H Q E h=>?_) (λcdv A outer s H vs Q E hr h=>?_)
 ·obtain⟨a,ns,k,rfl,_⟩:=h;rfl
 ·obtain⟨a,ns,n,rfl,hs,hl,h0,k⟩:=h;refine⟨_,ZC (Qik (Qcx Qme (pv 1) (Zu Qat (by rfl) T.len Qaj (JH (pv 0) J4)) (Z9 _)) (Qab (Qba (Qkh Qdx (pv 0) (pv 1) (λ_ _=>rfl)))) Qcy) (Qab (Qba YQ)),?_⟩;refine⟨_,rfl,_,rfl,a,_,rfl,.inl hs,_,_,rfl,rfl,_,rfl,?_⟩;refine Qy4 (λhlt=>?_) (λ_=>k 0);have hlt':n<(ns.map V.int).length:=of_decide_eq_true hlt;rw[Qe] at hlt';obtain⟨j,rfl⟩:=Int.eq_ofNat_of_zero_le h0;have hj:j<ns.length:=by omega
  refine⟨_,rfl,_,rfl,a,_,_,.int ns[j],rfl,rfl,hs,QaV ?_,k _⟩;rw[Q5,Ql hj];rfl
theorem Qka:Jy ["_law_cell", "_law_number", "_law_j", "_law_more"] ["_law_cell"] (Qt lPot):=⟨rfl,rfl,rfl,by decide +kernel,rfl,by decide +kernel,by decide +kernel⟩
theorem QvG{f:Addr}{fd:QQ}(F:Fun K "_law_pot" "_law_pot" lPot f fd)(T:GlbA mg):FnOk P w K mg base CX0 1 f fd ["_law_cell"] QuK:=by
 refine F.ok Qka (λvs H Q E h=>?_) (λcdv A outer s H vs Q E hr h=>?_)
 ·obtain⟨c,rfl,_⟩:=h;rfl
 ·obtain⟨c,rfl,k⟩:=h;refine⟨_,ZC (Qik (Qcx Qye (pv 0) (QaF Qhm YQ YQ) (Z9 _)) (Qab (Qba (Qrz (JH (QaF QcZ (pv 0) (QaF Qhm YQ YQ)) J4)))) Qcy)
   (ZC (QaQ (i:=1) Qka.nd rfl (QZ rfl) YQ)
   (ZC (Qrs Zf rfl (Qhi (by rfl) T.range (JH YQ J4)) (QeD (i:=2) Qka.nd rfl (QZ rfl))
    (ZC (QaQ (i:=3) Qka.nd rfl (QZ rfl) (QaF Qjt (QaF Qfz (QaF QfA (QaF QfA (QaF Qjt (pv 0) YQ) (QaF Qfz YQ (pv 2))) YQ) YQ) YQ))
    (ZC (QaQ (i:=3) Qka.nd rfl (QZ rfl) (QaF Qjt (QaF QfA (QaF QfA (QaF Qfz (pv 3) (pv 3)) (QaF Qfz YQ (pv 2))) YQ) YQ))
    (Qab (QaQ (i:=1) Qka.nd rfl (QZ rfl) (QaF QfA (QaF Qfz (pv 1) YQ) (pv 3)))))))
   (Qab (Qba (Qrz (JH (pv 1) J4)))))),?_⟩
  refine⟨_,rfl,_,_,rfl,rfl,⟨by decide,by decide,by decide⟩,_,_,rfl,rfl,_,rfl,?_⟩;refine Qy4 (λ_=>?_) (λ_=>?_)
  ·exact⟨_,rfl,_,_,rfl,rfl,⟨by decide,by decide,by decide⟩,_,_,rfl,rfl,by show 1<=sizeLine;decide,λp hp=>k p _ hp⟩
  ·refine⟨64,rfl,by decide,by decide,Qm1 (n:=64) (λi σ H2=>∃n v u,σ=[some (.int c),some (.int n),v,u]/\H2=H) ⟨0,none,none,rfl,rfl⟩ ?_ ?_⟩
   ·rintro i σ H2 hi ⟨n,v,u,rfl,rfl⟩;have b1:=QjJ ((c % 2147483629+7919*(0+(i:Int))+1)*48271) (m:=2147483647) (by decide);refine⟨_,rfl,_,_,rfl,rfl,by show(0:Int)<2147483629;decide,_,rfl,_,_,rfl,rfl,.inl ⟨by decide,by decide⟩,_,_,rfl,rfl,_,_,rfl,rfl,_,_,rfl,rfl,.inr ⟨by decide,by decide⟩,_,_,rfl,rfl,by show(0:Int)<2147483647;decide,?_⟩;refine⟨_,rfl,_,rfl,_,_,rfl,rfl,.inl ⟨by omega,by omega⟩,_,rfl,_,_,rfl,rfl,.inl ⟨by decide,by decide⟩,_,_,rfl,rfl,_,_,rfl,rfl,_,_,rfl,rfl,by show(0:Int)<2147483587;decide,?_⟩;exact⟨_,rfl,_,_,rfl,rfl,.inr ⟨by decide,by decide⟩,_,rfl,_,_,rfl,rfl,_,_,_,rfl,rfl⟩
   ·rintro σ H2 ⟨n,v,u,rfl,rfl⟩;exact⟨_,rfl,by show 1<=sizeLine;decide,λp hp=>k p _ hp⟩
theorem Qrl:Jy ["_law_pot_here", "_law_far", "_law_found"] ["_law_pot_here", "_law_far"] (Qt Qku):=⟨rfl,rfl,rfl,by decide +kernel,rfl,by decide +kernel,by decide +kernel⟩
theorem Qtc{f:Addr}{fd:QQ}(F:Fun K "_law_take" "_law_take" Qku f fd)(T:GlbA mg):FnOk P w K mg base CX0 1 f fd ["_law_pot_here", "_law_far"] Qja:=by
 refine F.ok Qrl (λvs H Q E h=>?_) (λcdv A outer s H vs Q E hr h=>?_)
 ·obtain⟨p,n,m,rfl,_⟩:=h;rfl
 ·obtain⟨p,n,m,rfl,hp,h0,h1,k⟩:=h;refine⟨_,ZC (QaQ (i:=2) Qrl.nd rfl (QZ rfl) (QaF Qjt (Qkh Qdx (pv 0) YQ (λ_ _=>rfl)) (pv 1)))
   (ZC (QlQ (QaF Qo9 (Qkh Qdx (pv 0) YQ (λ_ _=>rfl)) (pv 1)) (Qrv (pv 0) YQ Qje))
   (Qab (Qba (pv 2)))),?_⟩
  have b:=QjJ n h0;exact⟨_,rfl,p,_,_,_,rfl,rfl,SqL.of hp,rfl,_,rfl,_,_,rfl,rfl,h0,_,rfl,p,_,_,_,rfl,rfl,SqL.of hp,rfl,_,rfl,_,_,rfl,rfl,⟨h0,h1⟩,_,rfl,p,_,_,_,rfl,rfl,hp,rfl,_,rfl,k _ _ b.1 b.2⟩
end
end Rk
namespace Rk
open L2 _root_.Rd
open Dl
open Rt
def rise:List Int->Bool
 |x::y::r=>decide (x<y)&&rise (y::r)
 |_=>true
def Qga:DF:=λargs R _=>∃ns:List Int,(args=[.v (.tuple (ns.map Qp))]∨args=[.v (.list (ns.map Qp))])/\R (.bool (rise ns))
def QmQ(n:Int):Qa->Bool
 |.tuple ds=>ds.all (λd=>inW d 0 (n - 1))&&rise (ds.map toI)
 |_=>false
def Qtq:DF:=λargs R _=>∃(n:Int)(d:Qa),args=[.v (.int n),.v d]/\R (.bool (QmQ n d))
def QbW(n:Int):Qa->Bool
 |.tuple ds=>QmQ n (.tuple ds)&&decide ((ds.length:Int) > 0)
 |_=>false
def Qyi:DF:=λargs R _=>∃(n:Int)(d:Qa),args=[.v (.int n),.v d]/\R (.bool (QbW n d))
def Qos(C:Addr):DF:=λargs R EX=>∃d,args=[.v d]/\(inW d 1 6=true->R .none)/\(inW d 1 6=false->EX C)
def lotI:Qa->List Int
 |.tuple ds=>ds.map toI
 |_=>[]
def Qfd:Qa->List Qa
 |.tuple ds=>ds
 |_=>[]
def hdI:Qa->Int
 |.tuple (d::_)=>toI d
 |_=>0
def srt(ns:List Int):List Int:=ns.mergeSort λa b=>decide (a<=b)
theorem Qrh{ms ns:List Int}(p:ms.Perm ns)(s:ms.Pairwise (·<=·)):ms=srt ns:=by
 have h1:(srt ns).Perm ns:=List.mergeSort_perm ns _;have h2:(srt ns).Pairwise (λa b=>decide (a<=b)=true):=List.pairwise_mergeSort (λa b c h1 h2=>by simp at *;omega) (λa b=>by simp;omega) ns;refine Qbt (le:=λa b=>a<=b) (λa b _ _ h1 h2=>Quu h1 h2) s (h2.imp λh=>of_decide_eq_true h) (p.trans h1.symm)
def Qbb(n:Int):Qa->Bool
 |.tuple ls=>ls.all (QbW n)&&(Ja (.list ((srt (ls.flatMap lotI)).map Qp)) (.list ((Jr n.toNat).map λ(i:Nat)=>Qp i))&&rise (ls.map hdI))
 |_=>false
def Qaw(d:Qa):Prop:=∀ls,d=.tuple ls->ls.length<=9/\nds ls=true/\∀ds,.tuple ds∈ls->ds.length<=20
def Qs5(C:Addr):DF:=λargs R EX=>∃a d,args=[.v a,.v d]/\Qaw d/\(inW a 1 6=false->EX C)/\∀n:Int,a=.int n->1<=n->n<=6->R (.bool (Qbb n d))
theorem Qjg:∀(ns:List Int)(a b:Int),(∀i∈ns,a<=i/\i<=b)->rise ns=true->a<=b+1->(ns.length:Int)<=b+1 - a
 |[],a,b,_,_,h=>by show(0:Int)<=_;omega
 |[x],a,b,h,_,_=>by have:=h x (.head _);show(1:Int)<=_;omega
 |x::y::r,a,b,h,hr,_=>by
  have hr:=Qo.mp (show(decide (x<y)&&rise (y::r))=true from hr);have h1:=h x (.head _);have h3:=of_decide_eq_true hr.1;have h2:=h y (.tail _ (.head _));have:=Qjg (y::r) (x+1) b (λi hi=>⟨rise_lb hr.1 hr.2 i hi,(h i (.tail _ hi)).2⟩) hr.2 (by omega);rw[QC];omega
where
 rise_lb:∀{x y:Int}{r:List Int},decide (x<y)=true->rise (y::r)=true->∀i∈y::r,x+1<=i
  |x,y,r,h,hr,i,hi=>by
   have h:=of_decide_eq_true h;cases hi with
   |head=>omega
   |tail _ hi=>
    cases r with
    |nil=>cases hi
    |cons z r=>
     have hr:=Qo.mp (show(decide (y<z)&&rise (z::r))=true from hr);have:=rise_lb hr.1 hr.2 i hi;omega
theorem Qkr{n:Int}{d:Qa}(h:QbW n d=true)(hn:0<=n):∃(i:Int)(ns:List Int),d=.tuple ((i::ns).map Qp)/\((i::ns).length:Int)<=n/\lotI d=i::ns/\hdI d=i/\(∀j∈i::ns,0<=j/\j<=n - 1)/\rise (i::ns)=true:=by
 cases d<;>first | (cases h;done) | skip
 rename_i ds
 have h:=Qo.mp (show(QmQ n (.tuple ds)&&decide ((ds.length:Int) > 0))=true from h);have h2:=Qo.mp (show(ds.all (λd=>inW d 0 (n - 1))&&rise (ds.map toI))=true from h.1);obtain⟨e,b⟩:=Qgs h2.1;have hl:=Qjg (ds.map toI) 0 (n - 1) b h2.2 (by omega);have h0:=of_decide_eq_true h.2;cases hm:ds.map toI with
 |nil=>rw[List.map_eq_nil_iff] at hm;rw[hm] at h0;exact absurd h0 (by decide)
 |cons i ns=>
  rw[hm] at e hl b;refine⟨i,ns,by rw[<- e],by omega,hm,?_,b,by rw[<- hm];exact h2.2⟩;rw[e];rfl
theorem Qeh{n:Int}(hn:0<=n):∀{ls:List Qa},(∀d∈ls,QbW n d=true)->((ls.flatMap lotI).length:Int)<=ls.length*n
 |[],_=>by show(0:Int)<=0*n;omega
 |d::ls,h=>by
  obtain⟨i,ns,_,hl,e,_⟩:=Qkr (h d (.head _)) hn;have ih:=Qeh hn (ls:=ls) λd hd=>h d (.tail _ hd)
  rw[Zy,Qd,QC,e]
  push_cast
  rw[Int.add_mul,Int.one_mul];omega
theorem Qmv(m:Nat):nds ((Jr m).map λ(i:Nat)=>Qp i)=true:=QbH.mpr λd hd=>by
 obtain⟨i,_,rfl⟩:=Qw.mp hd;rfl
theorem Qnd:∀ns:List Int,QV (ns.map Qp)<=1
 |[]=>by show QV []<=1;unfold QV;decide
 |n::ns=>by
  have ih:=Qnd ns;rw[Jh];unfold QV;have:Jt (.int n)<=1:=by unfold Jt;decide
  omega
theorem QrR(ns:List Int):Jt (.list (ns.map Qp))<=50:=by
 have:=Qnd ns;unfold Jt;omega
theorem Qc3{n:Int}(hn:0<=n):∀{ls:List Qa},(∀d∈ls,QbW n d=true)->ls.flatMap Qfd=(ls.flatMap lotI).map Qp
 |[],_=>rfl
 |d::ls,h=>by
  obtain⟨i,ns,e,hl,e2,_⟩:=Qkr (h d (.head _)) hn;rw[Zy,Zy,Q1,Qc3 hn λd hd=>h d (.tail _ hd),e2,e];rfl
theorem QgC(xs:List Qa)(k:Nat):Dl.cutD xs (some (k:Int)) none=xs.drop k:=by
 unfold Dl.cutD;rw[HT.Qf8,HT.Qih];by_cases z:k<=xs.length
 ·rw[YO z,Yz (by rw[Zn];exact Qk _)]
 ·rw[Quc (by omega),List.drop_length,ZY (by omega),QiY]
def Qy3:Qa->Bool
 |.tuple ds=>decide (ds.length<=20)
 |_=>true
def good(d:Qa):Prop:=nd d=true/\Qy3 d=true
theorem QbJ{ds:List Qa}(h:ds.length<=20)(k:∀d∈ds,nd d=true):good (.tuple ds):=⟨QbH.mpr k,decide_eq_true h⟩
def Qty:DF:=λargs R _=>∃(n:Int)(d:Qa),args=[.v (.int n),.v d]/\Qaw d/\1<=n/\n<=6/\R (.bool (Qbb n d))
def QiA:DF:=λargs R _=>∃ns:List Int,(args=[.v (.tuple (ns.map Qp))]∨args=[.v (.list (ns.map Qp))])/\ns.length<=100/\R (.bool (rise ns))
def Par(n:Nat)(L:List (List Int)):Prop:=(∀l∈L,l≠[])/\L.flatten.length=n/\L.length<=n
def Qyc:DF:=λargs R _=>∃n:Int,args=[.pot,.v (.int n)]/\0<=n/\n<=6/\∀L,Par n.toNat L->R (QhX L)
def Qt4:DF:=λargs R _=>∃(n:Int)(L:List (List Int)),args=[.pot,.v (.int n),.v (QhX L)]/\1<=n/\n<=6/\Par n.toNat L/\∀d,Qaw d->R d
def Qw5:DF:=λargs R _=>args=[.pot]/\∀d,Qaw d->R d
def Qyg:DF:=λargs R _=>args=[.pot]/\∀d,inW d 1 6=false->R d
theorem QjH:∀(L:List (List Int))(j:Nat)(l:List Int)(x:Int),L[j]? = some l->(L.set j (l++[x])).flatten.length=L.flatten.length+1
 |[],j,l,x,h=>by cases h
 |a::L,0,l,x,h=>by
  cases h;simp only[Qn8,JG,Qd,QC,Qak];omega
 |a::L,j+1,l,x,h=>by
  have:=QjH L j l x (by simpa using h);simp only[List.set_cons_succ,JG,Qd] at this ⊢;omega
theorem Qpv{L:List (List Int)}{j:Nat}{x l:List Int}(h:l∈L.set j x):l=x∨∃k,k≠j/\L[k]? = some l:=by
 obtain⟨k,hk⟩:=Jf.mp h;by_cases z:k=j
 ·subst z;exact .inl (set_eq hk)
 ·rw[Qaq z] at hk;exact .inr ⟨k,z,hk⟩
theorem Z2{d:Qa}(h:(match d with | .tuple _=>false | _=>true)=true):Qaw d:=λls e=>by subst e;cases h
theorem Qhc{ls:List Qa}(h1:ls.length<=9)(h2:nds ls=true)(h3:∀ds,.tuple ds∈ls->ds.length<=20):Qaw (.tuple ls):=λls e=>by cases e;exact⟨h1,h2,h3⟩
theorem Zo{ls:List Qa}(h1:ls.length<=9)(h:∀d∈ls,good d):Qaw (.tuple ls):=Qhc h1 (QbH.mpr λd hd=>(h d hd).1) λds hd=>of_decide_eq_true (h _ hd).2
theorem Qin{n:Nat}{L:List (List Int)}(hp:Par n L)(hn:n<=6){d:Qa}(hd:d∈L.map pLot):∃l:List Int,d=.tuple (l.map Qp)/\l≠[]/\l.length<=6/\good d:=by
 obtain⟨l,hl,rfl⟩:=Qw.mp hd;have h:=Qbz (Qbn hl);rw[hp.2.1] at h;exact⟨l,rfl,hp.1 l hl,by omega,QbJ (by rw[Qe];omega) λd hd=>by obtain⟨i,_,rfl⟩:=Qw.mp hd;rfl⟩
theorem Qcf{ls:List Qa}(h1:(decide (ls.length<=9)&&(nds ls&&ls.all Qy3))=true):Qaw (.tuple ls):=by
 simp only[JJ,decide_eq_true_eq] at h1;exact Qhc h1.1 h1.2.1 λds hd=>of_decide_eq_true (Q4.mp h1.2.2 _ hd)
section
variable{P:QB}{w:Jl}{K:PySem.W.Frag}{mg:Str->Option Value}{base:Za}
theorem Qol:Jy ["thing"] ["thing"] (Qt Qfr):=⟨rfl,rfl,rfl,by decide +kernel,rfl,by decide +kernel,by decide +kernel⟩
theorem Qpb{f   : Addr}{fd  : QQ}(F:Fun K "is_whole" "is_whole" Qfr f fd)(T:GlbA mg) :
  FnOk P w K mg base CX0 1 f fd ["thing"] (Ze false Qev):=by
 refine okQ false F Qol (λargs R EX h=>?_) (λcdv A outer s H E hr=>?_)
 ·obtain⟨d,rfl,_⟩:=h;rfl
 ·have hU:=Room.u60 hr;have hI:=Room.i60 hr;refine⟨_,Q7 (ZK (Qdr (Qx (QbS .int (by rfl) T.isinstance (qp 0) (by rfl) T.int Qnw)) (Qdp (Qu5 (Qx (QbS .bool (by rfl) T.isinstance (qp 0) (by rfl) T.bool QdG)))))),λargs R EX h=>?_⟩;obtain⟨d,rfl,hR⟩:=h;cases d<;>exact hR
theorem Qls:Jy ["_law_thing"] ["_law_thing"] (Qt QdP):=⟨rfl,rfl,rfl,by decide +kernel,rfl,by decide +kernel,by decide +kernel⟩
theorem Qml{f   : Addr}{fd  : QQ}(F:Fun K "_law_whole" "_law_whole" QdP f fd)(T:GlbA mg) :
  FnOk P w K mg base CX0 1 f fd ["_law_thing"] (Ze false Qev):=by
 refine okQ false F Qls (λargs R EX h=>?_) (λcdv A outer s H E hr=>?_)
 ·obtain⟨d,rfl,_⟩:=h;rfl
 ·have hU:=Room.u60 hr;have hI:=Room.i60 hr;refine⟨_,Q7 (ZK (Qdr (Qx (QbS .int (by rfl) T.isinstance (qp 0) (by rfl) T.int Qnw)) (Qdp (Qu5 (Qx (QbS .bool (by rfl) T.isinstance (qp 0) (by rfl) T.bool QdG)))))),λargs R EX h=>?_⟩;obtain⟨d,rfl,hR⟩:=h;cases d<;>exact hR
theorem Qlo:Jy ["thing", "least", "most"] ["thing", "least", "most"] (Qt Qdj):=⟨rfl,rfl,rfl,by decide +kernel,rfl,by decide +kernel,by decide +kernel⟩
theorem Qmh{f f1  : Addr}{fd fd1:QQ}(F:Fun K "is_whole_within" "is_whole_within" Qdj f fd)(T:GlbA mg)
  (m1:mg "is_whole" = some (.ref f1))(G1:FnOk P w K mg base CX0 1 f1 fd1 ["thing"] (Ze false Qev))(b1:Binds K fd1 ["thing"] [])(k1:PySem.W.keepIn K (.ref f1)=true) :
  FnOk P w K mg base CX0 2 f fd ["thing", "least", "most"] (Ze false Qeu):=by
 refine okQ false F Qlo (λargs R EX h=>?_) (λcdv A outer s H E hr=>?_)
 ·obtain⟨d,a,b,rfl,_⟩:=h;rfl
 ·have hU:=Room.u60 hr;have hI:=Room.i60 hr;refine⟨_,Q7 (ZK (Qdr (JE (J6 G1 (hr.mono (by decide)) (by rfl) m1 k1 b1 Zl (ZN (qv 0) JD))) (Qdp (Ju (Qw2 Qmf Qmf (qp 1) (qp 0) (qp 2)))))),λargs R EX h=>?_⟩;obtain⟨d,a,b,rfl,hR⟩:=h;refine⟨d,rfl,?_⟩;cases d with
  |int i=>exact QfI (QnI hR)
  |_=>exact hR
theorem QfB:(["one", "other"]:List Str).Nodup:=by decide +kernel
theorem Qlq:Jy ["things"] ["things"] (Qt Qdk):=⟨rfl,rfl,rfl,by decide +kernel,rfl,by decide +kernel,by decide +kernel⟩
theorem Qmk{f   : Addr}{fd  : QQ}(F:Fun K "is_rising" "is_rising" Qdk f fd)(T:GlbA mg) :
  FnOk P w K mg base CX0 1 f fd ["things"] (Ze false Qf9):=by
 refine okQ false F Qlq (λargs R EX h=>?_) (λcdv A outer s H E hr=>?_)
 ·obtain⟨ds,rfl | rfl,_⟩:=h<;>rfl
 ·have hU:=Room.u60 hr;have hI:=Room.i60 hr;refine⟨_,Q7 (QaN (Zc Qan (Qc7 rfl) (by rfl) T.all Qct (Qa3 (Qx (Qai ["one", "other"] [none,none] (QxZ (QlJ (by rfl) T.zip (qp 0) (Qx (Yx (qp 0) (Yu (JE JF)) Yv))) (Qsx (by rfl) T.zip (qp 0) (Qx (Yx (qp 0) (Yu (JE JF)) Yv)))) (λcl ex s3 H3 C=>⟨(QcX rfl (Yb 0 (Yb 1 QcY QfB rfl (QZ rfl) (Q8 rfl)) QfB rfl (QZ rfl) (Q8 rfl))),Zp,(Ju (Qfc (QrB hU) QrG (qp 0) (qp 1) (Z9 _)))⟩))) QR))),λargs R EX h=>?_⟩;obtain⟨ds,h,hc,hR⟩:=h;have go:∀d∈QfY ds (Dl.cutD ds (some 1) none),∃a b,d=.tuple [a,b]/\(okK a=true/\okK b=true/\Qh0 a b=true/\a.depth<=20):=λd hd=>by
   obtain⟨i,hi⟩:=Jf.mp hd;obtain⟨a,b,ha,hb,rfl⟩:=Dl.zip_get hi;have ma:=QM ha;have mb:=Qam (QM hb);exact⟨a,b,rfl,(hc a ma).1,(hc b mb).1,(hc a ma).2.2 b mb,(hc a ma).2.1⟩
  rcases h with rfl | rfl
  ·refine .inl (YJ (λd=>.bool (QvV d)) (λd hd k2 hk=>?_) (QaW (items:=QfY ds (Dl.cutD ds (some 1) none)) rfl (by rw[Qeq];exact hR)));obtain⟨a,b,rfl,q⟩:=go d hd;exact⟨rfl,q,hk⟩
  ·refine .inr (YJ (λd=>.bool (QvV d)) (λd hd k2 hk=>?_) (QaW (items:=QfY ds (Dl.cutD ds (some 1) none)) rfl (by rw[Qeq];exact hR)));obtain⟨a,b,rfl,q⟩:=go d hd;exact⟨rfl,q,hk⟩
theorem Qon:Jy ["high", "wide", "thing"] ["high", "wide", "thing"] (Qt Qfu):=⟨rfl,rfl,rfl,by decide +kernel,rfl,by decide +kernel,by decide +kernel⟩
theorem Qpe{f f1  : Addr}{fd fd1:QQ}(F:Fun K "is_place" "is_place" Qfu f fd)(T:GlbA mg)
  (m1:mg "is_whole_within" = some (.ref f1))(G1:FnOk P w K mg base CX0 2 f1 fd1 ["thing", "least", "most"] (Ze false Qeu))(b1:Binds K fd1 ["thing", "least", "most"] [])(k1:PySem.W.keepIn K (.ref f1)=true) :
  FnOk P w K mg base CX0 3 f fd ["high", "wide", "thing"] (Ze false QlT):=by
 refine okQ false F Qon (λargs R EX h=>?_) (λcdv A outer s H E hr=>?_)
 ·obtain⟨h,w,d,rfl,_⟩:=h;rfl
 ·have hU:=Room.u60 hr;have hI:=Room.i60 hr;refine⟨_,QK (QaO (QsA (Qfb (Yt (Yh (Qx (QbS .tuple (by rfl) T.isinstance (qp 2) (by rfl) T.tuple ZE)))) (QeA (QbR Qmc (Qto hU) (Qx (Zc Z6 Qby (by rfl) T.len Qaj (Qa3 (qp 2) QR))) (JE JF) (Z9 _))))) (Q7 (ZK QeC)) ZS)
   (Q7 (ZK (Qdr (JE (J6 G1 (hr.mono (by decide)) (by rfl) m1 k1 b1 Zl (ZN (Qdq Ya Qar (qp 2) (JE JF) (λ_ _=>rfl)) (ZN JF (ZN (Ju (ZI QcZ QdO (qp 0) (JE JF))) JD))))) (Qdp (J6 G1 (hr.mono (by decide)) (by rfl) m1 k1 b1 Zl (ZN (Qdq Ya Qar (qp 2) (JE JF) (λ_ _=>rfl)) (ZN JF (ZN (Ju (ZI QcZ QdO (qp 1) (JE JF))) JD)))))))),λargs R EX h=>?_⟩
  obtain⟨h,w,d,rfl,hR⟩:=h;cases d with
  |tuple ds=>
   match ds,hR with
   |[a,b],hR=>
    refine⟨a,rfl,_,_,_,rfl,?_⟩;refine QcF hR λ_ hR=>?_
    exact⟨b,rfl,_,_,_,rfl,hR⟩
   |[],hR=>exact hR
   |[_],hR=>exact hR
   |a::b::c::r,hR=>
    exact hR
  |_=>exact hR
theorem QmC:(["part", "high", "wide"]:List Str).Nodup:=by decide +kernel
theorem Qoo:Jy ["high", "wide", "thing"] ["high", "wide", "thing"] (Qt Qfv):=⟨rfl,rfl,rfl,by decide +kernel,rfl,by decide +kernel,by decide +kernel⟩
theorem Qpg{f f1 f2  : Addr}{fd fd1 fd2:QQ}(F:Fun K "is_cells" "is_cells" Qfv f fd)(T:GlbA mg)
  (m1:mg "is_place" = some (.ref f1))(G1:FnOk P w K mg base CX0 3 f1 fd1 ["high", "wide", "thing"] (Ze false QlT))(b1:Binds K fd1 ["high", "wide", "thing"] [])(k1:PySem.W.keepIn K (.ref f1)=true)
  (m2:mg "is_rising" = some (.ref f2))(G2:FnOk P w K mg base CX0 1 f2 fd2 ["things"] (Ze false Qf9))(b2:Binds K fd2 ["things"] [])(k2:PySem.W.keepIn K (.ref f2)=true) :
  FnOk P w K mg base CX0 4 f fd ["high", "wide", "thing"] (Ze false Qnq):=by
 refine okQ false F Qoo (λargs R EX h=>?_) (λcdv A outer s H E hr=>?_)
 ·obtain⟨h,w,d,rfl,_⟩:=h;rfl
 ·have hU:=Room.u60 hr;have hI:=Room.i60 hr;refine⟨_,QK (QaO (Yt (Yh (Qx (QbS .tuple (by rfl) T.isinstance (qp 2) (by rfl) T.tuple ZE)))) (Q7 (ZK QeC)) ZS)
   (Q7 (ZK (Qdr (Qx (Zc Qan (Qc7 rfl) (by rfl) T.all Qct (Qa3 (Qx (Qai ["part", "high", "wide"] [none,some 0,some 1] (Y1 (qp 2)) (λcl ex s3 H3 C=>⟨(Zb 0 QmC rfl (QZ rfl) (Q8 rfl)),Zp,(J6 G1 (hr.mono (by decide)) (by rfl) m1 k1 b1 Zl (ZN (qv 1) (ZN (qv 2) (ZN (qv 0) JD))))⟩))) QR))) (Qdp (J6 G2 (hr.mono (by decide)) (by rfl) m2 k2 b2 Zl (ZN (qv 2) JD)))))),λargs R EX h=>?_⟩
  obtain⟨h,w,d,rfl,hR⟩:=h;cases d with
  |tuple ds=>
   refine YJ (λd=>.bool (Qhx h w d)) (λd hd k2 hk=>⟨_,_,_,rfl,hk⟩) (QaW (items:=ds) rfl ?_);refine QcF hR λha hR=>?_
   obtain⟨L,rfl,_⟩:=Qef ha;exact⟨_,.inl rfl,Qbc L,hR⟩
  |_=>exact hR
theorem Qhr:(["row", "column"]:List Str).Nodup:=by decide +kernel
theorem Qhq:(["row", "column"]:List Str).Nodup:=by decide +kernel
theorem Qf7:Jy ["cells", "rows", "columns"] ["cells"] (Qt Qfw):=⟨rfl,rfl,rfl,by decide +kernel,rfl,by decide +kernel,by decide +kernel⟩
theorem Qpi{f   : Addr}{fd  : QQ}(F:Fun K "are_apart" "are_apart" Qfw f fd)(T:GlbA mg) :
  FnOk P w K mg base CX0 1 f fd ["cells"] (Ze false QnF):=by
 refine okQ false F Qf7 (λargs R EX h=>?_) (λcdv A outer s H E hr=>?_)
 ·obtain⟨L,rfl,_⟩:=h;rfl
 ·have hU:=Room.u60 hr;have hI:=Room.i60 hr;refine⟨_,QK (Qij ["row", "column"] [none,none] 1 Qf7.nd (Y1 (qp 0)) (λcl ex s3 H3 C=>⟨(QcX rfl (Yb 0 (Yb 1 QcY Qhr rfl (QZ rfl) (Q8 rfl)) Qhr rfl (QZ rfl) (Q8 rfl))),Zp,(qv 0)⟩))
   (QK (Qij ["row", "column"] [none,none] 2 Qf7.nd (Y1 (qp 0)) (λcl ex s3 H3 C=>⟨(QcX rfl (Yb 0 (Yb 1 QcY Qhq rfl (QZ rfl) (Q8 rfl)) Qhq rfl (QZ rfl) (Q8 rfl))),Zp,(qv 1)⟩))
   (Q7 (ZK (Qdr (Qx (Qfc Qc0 (Qgi hU) (Qx (Qge (by rfl) T.len (by rfl) T.set (qp 1))) (Qx (Zc Z6 Qby (by rfl) T.len Qaj (Qa3 (qp 1) QR))) (Z9 _))) (Qdp (Ju (Qfc Qc0 (Qgi hU) (Qx (Qge (by rfl) T.len (by rfl) T.set (qp 2))) (Qx (Zc Z6 Qby (by rfl) T.len Qaj (Qa3 (qp 2) QR))) (Z9 _)))))))),λargs R EX h=>?_⟩
  obtain⟨L,rfl,hl,hR⟩:=h;have e1:(L.map pairD).map (λd=>Qp (toP d).1)=(L.map (λp=>p.1)).map Qp:=by rw[Jj,Jj];rfl
  have e2:(L.map pairD).map (λd=>Qp (toP d).2)=(L.map (λp=>p.2)).map Qp:=by rw[Jj,Jj];rfl
  refine YJ (λd=>.int (toP d).1) (λd hd k2 hk=>?_) ?_
  ·obtain⟨p,_,rfl⟩:=Qw.mp hd;exact⟨rfl,hk⟩
  ·refine YJ (λd=>.int (toP d).2) (λd hd k2 hk=>?_) ?_
   ·obtain⟨p,_,rfl⟩:=Qw.mp hd;exact⟨rfl,hk⟩
   ·rw[e1,e2];refine⟨_,QaK _,by rw[Qe];exact hl,?_⟩;have c1:∀ns:List Int,decide (((ddI ns).length:Int)=(((ns.map Qp).length:Nat):Int))=decide ns.Nodup:=λns=>by
     rw[Qe];refine decide_eq_decide.mpr ⟨λz=>(Qgz ns).mp (by omega),λz=>by have:=(Qgz ns).mpr z;omega⟩
    show if decide _=true then _ else _
    rw[c1];refine QcF hR λ_ hR=>?_
    refine⟨_,QaK _,by rw[Qe];exact hl,?_⟩;show R (.bool (decide _));rw[c1];exact hR
theorem Qmw:(["cell", "cells"]:List Str).Nodup:=by decide +kernel
theorem Qec:Jy ["board", "thing", "high", "wide", "cells"] ["board", "thing"] (Qt Qft):=⟨rfl,rfl,rfl,by decide +kernel,rfl,by decide +kernel,by decide +kernel⟩
theorem Qpd{f f1 f2  : Addr}{fd fd1 fd2:QQ}(F:Fun K "is_stand" "is_stand" Qft f fd)(T:GlbA mg)
  (m1:mg "is_cells" = some (.ref f1))(G1:FnOk P w K mg base CX0 4 f1 fd1 ["high", "wide", "thing"] (Ze false Qnq))(b1:Binds K fd1 ["high", "wide", "thing"] [])(k1:PySem.W.keepIn K (.ref f1)=true)
  (m2:mg "are_apart" = some (.ref f2))(G2:FnOk P w K mg base CX0 1 f2 fd2 ["cells"] (Ze false QnF))(b2:Binds K fd2 ["cells"] [])(k2:PySem.W.keepIn K (.ref f2)=true) :
  FnOk P w K mg base CX0 5 f fd ["board", "thing"] (Ze false Qlg):=by
 refine okQ false F Qec (λargs R EX h=>?_) (λcdv A outer s H E hr=>?_)
 ·obtain⟨h,w,cs,d,rfl,_⟩:=h;rfl
 ·have hU:=Room.u60 hr;have hI:=Room.i60 hr;refine⟨_,QK (Qu4 (qv 0) (QcX rfl (Yb 2 (Yb 3 (Yb 4 QcY Qec.nd rfl (by first | exact QZ rfl | exact Q8 rfl)) Qec.nd rfl (by first | exact QZ rfl | exact Q8 rfl)) Qec.nd rfl (by first | exact QZ rfl | exact Q8 rfl))))
   (QK (QaO (Yt (Yh (JE (J6 G1 (hr.mono (by decide)) (by rfl) m1 k1 b1 Zl (ZN (qv 2) (ZN (qv 3) (ZN (qv 1) JD))))))) (Q7 (ZK QeC)) ZS)
   (Q7 (ZK (Qdr (Qx (Zc Qan (Qc7 rfl) (by rfl) T.all Qct (Qa3 (Qx (Qai ["cell", "cells"] [none,some 4] (Y1 (qp 1)) (λcl ex s3 H3 C=>⟨(Zb 0 Qmw rfl (QZ rfl) (Q8 rfl)),Zp,(Ju (Qfc Qju (Qmr hI) (qp 0) (qp 1) (by rfl)))⟩))) QR))) (Qdp (J6 G2 (hr.mono (by decide)) (by rfl) m2 k2 b2 Zl (ZN (qv 1) JD))))))),λargs R EX h=>?_⟩
  obtain⟨h,w,cs,d,rfl,hs,hR⟩:=h;refine⟨rfl,_,_,_,rfl,?_⟩;cases d with
  |tuple ds=>
   show if(!(ds.all (Qhx h w)&&Qbi ds))=true then _ else _
   cases hc:(ds.all (Qhx h w)&&Qbi ds) with
   |false=>
    rw[show QiF h w cs (.tuple ds)=false by show((ds.all (Qhx h w)&&Qbi ds)&&_)=false;rw[hc];rfl] at hR;exact hR
   |true=>
    rw[show QiF h w cs (.tuple ds)=(ds.all (inC cs)&&apB (ds.map toP)) by show((ds.all (Qhx h w)&&Qbi ds)&&_)=_;rw[hc];rfl] at hR;obtain⟨L,rfl,hL⟩:=Qef (Qo.mp hc).1;have hl:=hs _ rfl;rw[Qe] at hl;refine YJ (λd=>.bool (inC cs d)) (λd hd k2 hk=>?_) (QaW (items:=L.map pairD) rfl ?_)
    ·obtain⟨p,_,rfl⟩:=Qw.mp hd;exact⟨⟨QeK cs,rfl,by have:=QfK p;omega⟩,hk⟩
    ·rw[Qbv] at hR;refine QcF hR λ_ hR=>⟨L,rfl,by omega,hR⟩
  |_=>exact hR
theorem Qpn:(["part", "many"]:List Str).Nodup:=by decide +kernel
theorem Qsn:Jy ["many", "thing"] ["many", "thing"] (Qt Qkd):=⟨rfl,rfl,rfl,by decide +kernel,rfl,by decide +kernel,by decide +kernel⟩
theorem Qtg{f f1 f2  : Addr}{fd fd1 fd2:QQ}(F:Fun K "is_numbers_rising" "is_numbers_rising" Qkd f fd)(T:GlbA mg)
  (m1:mg "is_whole_within" = some (.ref f1))(G1:FnOk P w K mg base CX0 2 f1 fd1 ["thing", "least", "most"] (Ze false Qeu))(b1:Binds K fd1 ["thing", "least", "most"] [])(k1:PySem.W.keepIn K (.ref f1)=true)
  (m2:mg "is_rising" = some (.ref f2))(G2:FnOk P w K mg base CX0 1 f2 fd2 ["things"] (Ze false Qga))(b2:Binds K fd2 ["things"] [])(k2:PySem.W.keepIn K (.ref f2)=true) :
  FnOk P w K mg base CX0 3 f fd ["many", "thing"] (Ze false Qtq):=by
 refine okQ false F Qsn (λargs R EX h=>?_) (λcdv A outer s H E hr=>?_)
 ·obtain⟨n,d,rfl,_⟩:=h;rfl
 ·have hU:=Room.u60 hr;have hI:=Room.i60 hr;refine⟨_,QK (QaO (Yt (Yh (Qx (QbS .tuple (by rfl) T.isinstance (qp 1) (by rfl) T.tuple ZE)))) (Q7 (ZK QeC)) ZS)
   (Q7 (ZK (Qdr (Qx (Zc Qan (Qc7 rfl) (by rfl) T.all Qct (Qa3 (Qx (Qai ["part", "many"] [none,some 0] (Y1 (qp 1)) (λcl ex s3 H3 C=>⟨(Zb 0 Qpn rfl (QZ rfl) (Q8 rfl)),Zp,(J6 G1 (hr.mono (by decide)) (by rfl) m1 k1 b1 Zl (ZN (qv 0) (ZN JF (ZN (Ju (ZI QcZ QdO (qp 1) (JE JF))) JD))))⟩))) QR))) (Qdp (J6 G2 (hr.mono (by decide)) (by rfl) m2 k2 b2 Zl (ZN (qv 1) JD)))))),λargs R EX h=>?_⟩
  obtain⟨n,d,rfl,hR⟩:=h;cases d with
  |tuple ds=>
   refine YJ (λd=>.bool (inW d 0 (n - 1))) (λd hd k2 hk=>⟨_,_,_,rfl,hk⟩) (QaW (items:=ds) rfl ?_);refine QcF hR λha hR=>?_
   obtain⟨e,_⟩:=Qgs ha;refine⟨ds.map toI,.inl (by rw[<- e]),hR⟩
  |_=>exact hR
theorem QuO:Jy ["n", "thing"] ["n", "thing"] (Qt sLot):=⟨rfl,rfl,rfl,by decide +kernel,rfl,by decide +kernel,by decide +kernel⟩
theorem QvK{f f1  : Addr}{fd fd1:QQ}(F:Fun K "is_lot" "is_lot" sLot f fd)(T:GlbA mg)
  (m1:mg "is_numbers_rising" = some (.ref f1))(G1:FnOk P w K mg base CX0 3 f1 fd1 ["many", "thing"] (Ze false Qtq))(b1:Binds K fd1 ["many", "thing"] [])(k1:PySem.W.keepIn K (.ref f1)=true) :
  FnOk P w K mg base CX0 4 f fd ["n", "thing"] (Ze false Qyi):=by
 refine okQ false F QuO (λargs R EX h=>?_) (λcdv A outer s H E hr=>?_)
 ·obtain⟨n,d,rfl,_⟩:=h;rfl
 ·have hU:=Room.u60 hr;have hI:=Room.i60 hr;refine⟨_,Q7 (ZK (Qdr (JE (J6 G1 (hr.mono (by decide)) (by rfl) m1 k1 b1 Zl (ZN (qv 0) (ZN (qv 1) JD)))) (Qdp (Ju (Qfc Qyd QrH (Qx (Zc Z6 Qby (by rfl) T.len Qaj (Qa3 (qp 1) QR))) (JE JF) (Z9 _)))))),λargs R EX h=>?_⟩;obtain⟨n,d,rfl,hR⟩:=h;refine⟨_,_,rfl,?_⟩;cases d with
  |tuple ds=>exact QnI hR
  |_=>exact hR
theorem Qsm:Jy ["n"] ["n"] (Qt Qkb):=⟨rfl,rfl,rfl,by decide +kernel,rfl,by decide +kernel,by decide +kernel⟩
theorem Qtd{f f1 CS:Addr}{fd fd1:QQ}(hA:∃t,mg "MOST_LINES" = some (.int 6 t))(F:Fun K "refuse_no_number" "refuse_no_number" Qkb f fd)(T:GlbA mg)
  (m1:mg "is_whole_within" = some (.ref f1))(G1:FnOk P w K mg base CX0 2 f1 fd1 ["thing", "least", "most"] (Ze false Qeu))(b1:Binds K fd1 ["thing", "least", "most"] [])(k1:PySem.W.keepIn K (.ref f1)=true)
  (mCS:mg "NoNumber" = some (.ref CS))(qCS:PySem.W.excIn K CS Rx.mroV "ValueError.__new__" = true) :
  FnOk P w K mg base (Rx.CXE P w) 3 f fd ["n"] (Ze false (Qos CS)):=by
 refine QvN false F Qsm (λargs R EX h=>?_) (λcdv A outer s H E hr=>?_)
 ·obtain⟨d,rfl,_⟩:=h;rfl
 ·obtain⟨tA,mA⟩:=hA;have hU:=Room.u60 hr;have hI:=Room.i60 hr;refine⟨_,Q7 (QaO (Yt (Yh (JE (J6 G1 (hr.mono (by decide)) (by rfl) m1 k1 b1 Zl (ZN (qv 0) (ZN JF (ZN (Qu7 6 (by rfl) mA ⟨_,rfl⟩) JD))))))) (Q7 (Qgc (λ_ _ h=>h) mCS qCS (JE QeB))) ZS),λargs R EX h=>?_⟩;obtain⟨d,rfl,hR,hX⟩:=h;refine⟨_,_,_,rfl,?_⟩;cases ha:inW d 1 6 with
  |false=>exact hX ha
  |true=>exact hR ha
theorem Qpm:(["part", "n"]:List Str).Nodup:=by decide +kernel
theorem Qjw:(["lot", "number"]:List Str).Nodup:=by decide +kernel
theorem Qpl:(["lot"]:List Str).Nodup:=by decide +kernel
theorem Qlr:Jy ["n", "thing", "parted"] ["n", "thing"] (Qt Qkc):=⟨rfl,rfl,rfl,by decide +kernel,rfl,by decide +kernel,by decide +kernel⟩
theorem Qte{f f1 f2 f3  : Addr}{fd fd1 fd2 fd3:QQ}{CS:Addr}(F:Fun K "is_parting" "is_parting" Qkc f fd)(T:GlbA mg)
  (m1:mg "refuse_no_number" = some (.ref f1))(G1:FnOk P w K mg base (Rx.CXE P w) 3 f1 fd1 ["n"] (Ze false (Qos CS)))(b1:Binds K fd1 ["n"] [])(k1:PySem.W.keepIn K (.ref f1)=true)
  (m2:mg "is_lot" = some (.ref f2))(G2:FnOk P w K mg base CX0 4 f2 fd2 ["n", "thing"] (Ze false Qyi))(b2:Binds K fd2 ["n", "thing"] [])(k2:PySem.W.keepIn K (.ref f2)=true)
  (m3:mg "is_rising" = some (.ref f3))(G3:FnOk P w K mg base CX0 1 f3 fd3 ["things"] (Ze false Qga))(b3:Binds K fd3 ["things"] [])(k3:PySem.W.keepIn K (.ref f3)=true) :
  FnOk P w K mg base (Rx.CXE P w) 5 f fd ["n", "thing"] (Ze false (Qs5 CS)):=by
 refine QvN false F Qlr (λargs R EX h=>?_) (λcdv A outer s H E hr=>?_)
 ·obtain⟨a,d,rfl,_⟩:=h;rfl
 ·have hU:=Room.u60 hr;have hI:=Room.i60 hr;refine⟨_,QK (QlI (JE (J6 G1 (hr.mono (by decide)) (by rfl) m1 k1 b1 (Rx.Qo6 (E:=E) (λ_ _ h=>h) rfl rfl rfl) (ZN (qv 0) JD))))
   (QK (QaO (QsA (Qfb (Yt (Yh (Qx (QbS .tuple (by rfl) T.isinstance (qp 1) (by rfl) T.tuple ZE)))) (QeA (Yt (Yh (Qx (Zc Qan (Qc7 rfl) (by rfl) T.all Qct (Qa3 (Qx (Qai ["part", "n"] [none,some 0] (Y1 (qp 1)) (λcl ex s3 H3 C=>⟨(Zb 0 Qpm rfl (QZ rfl) (Q8 rfl)),Zp,(J6 G2 (hr.mono (by decide)) (by rfl) m2 k2 b2 Zl (ZN (qv 1) (ZN (qv 0) JD)))⟩))) QR)))))))) (Q7 (ZK QeC)) ZS)
   (QK (Z1 2 (Ju (Zc QdF QiP (by rfl) T.sorted QaU (Qa3 (Qx (QlL ["lot", "number"] [none,none] (Qgx 0) (Y1 (qp 1)) (λcl ex s3 H3 C=>⟨(Zb 0 Qjw rfl (QZ rfl) (Q8 rfl)),Zp,(Y1 (qv 0)),(Zb 1 Qjw rfl (QZ rfl) (Q8 rfl)),Zp,(qv 1)⟩))) QR))) Qlr.nd)
   (Q7 (ZK (Qdr (Qx (Qfc Qc0 (Qgi hU) (qp 2) (Qx (Qjk (by rfl) T.list (by rfl) T.range (qp 0))) (Z9 _))) (Qdp (J6 G3 (hr.mono (by decide)) (by rfl) m3 k3 b3 Zl (ZN (Ju (Qai ["lot"] [none] (Y1 (qp 1)) (λcl ex s3 H3 C=>⟨(Zb 0 Qpl rfl (QZ rfl) (Q8 rfl)),Zp,(Qdq Ya Qar (qp 0) (JE JF) (λ_ _=>rfl))⟩))) JD)))))))),λargs R EX h=>?_⟩
  obtain⟨a,d,rfl,hs,hX,hR⟩:=h;refine⟨_,rfl,λha=>?_,hX⟩;obtain⟨n,rfl,n1,n6⟩:=QkC ha;have hR:=hR n rfl n1 n6;cases d with
  |tuple ls=>
   have hs:=(hs ls rfl).1;refine YJ (λd=>.bool (QbW n d)) (λd hd k2 hk=>⟨_,_,rfl,hk⟩) (QaW (items:=ls) rfl ?_);cases ha:ls.all (QbW n) with
   |false=>
    rw[show Qbb n (.tuple ls)=false by show(ls.all (QbW n)&&_)=false;rw[ha];rfl] at hR;exact hR
   |true=>
    rw[show Qbb n (.tuple ls)=(Ja (.list ((srt (ls.flatMap lotI)).map Qp)) (.list ((Jr n.toNat).map λ(i:Nat)=>Qp i))&&rise (ls.map hdI)) by show(ls.all (QbW n)&&_)=_;rw[ha];rfl] at hR;have hl:=λd hd=>Q4.mp ha d hd
    have l1:=Qeh (by omega) hl;have l2:(ls.flatMap lotI).length<64:=by
     have:(ls.length:Int)*n<=9*6:=Qh2 (by omega) n6 (by omega) (by decide);omega
    refine Qwz Qfd (by rw[Qc3 (by omega) hl,Qe];exact Qk3 l2 (by decide)) (λd hd acc N hb hN=>?_) ?_
    ·obtain⟨i,ns,rfl,_⟩:=Qkr (hl d hd) (by omega);refine QmW id hb (λd hd k2 hk=>hk) ?_
     rw[Qbp];exact hN
    ·refine(Qie (by rw[Qc3 (by omega) hl];exact QaK _) l2 λms pm pw=>?_).1;rw[Qrh pm pw];refine⟨by omega,⟨Qcj _,Qmv _,.inl (QrR _)⟩,?_⟩;refine QcF hR λ_ hR=>?_
     refine YJ (λd=>.int (hdI d)) (λd hd k2 hk=>?_) ⟨ls.map hdI,.inr (by rw[Jj];rfl),hR⟩;obtain⟨i,ns,rfl,_⟩:=Qkr (hl d hd) (by omega);exact⟨_,QaV (j:=0) rfl,hk⟩
  |_=>exact hR
theorem Qlu:Jy ["_law_thing", "_law_high", "_law_wide"] ["_law_thing", "_law_high", "_law_wide"] (Qt QfG):=⟨rfl,rfl,rfl,by decide +kernel,rfl,by decide +kernel,by decide +kernel⟩
theorem Qmo{f f1  : Addr}{fd fd1:QQ}(F:Fun K "_law_is_place" "_law_is_place" QfG f fd)(T:GlbA mg)
  (m1:mg "_law_whole" = some (.ref f1))(G1:FnOk P w K mg base CX0 1 f1 fd1 ["_law_thing"] (Ze false Qev))(b1:Binds K fd1 ["_law_thing"] [])(k1:PySem.W.keepIn K (.ref f1)=true) :
  FnOk P w K mg base CX0 2 f fd ["_law_thing", "_law_high", "_law_wide"] (Ze false QiB):=by
 refine okQ false F Qlu (λargs R EX h=>?_) (λcdv A outer s H E hr=>?_)
 ·obtain⟨d,h,w,rfl,_⟩:=h;rfl
 ·have hU:=Room.u60 hr;have hI:=Room.i60 hr;refine⟨_,QK (QaO (QsA (Qfb (Yt (Yh (Qx (QbS .tuple (by rfl) T.isinstance (qp 0) (by rfl) T.tuple ZE)))) (Qfb (QbR Qmc (Qto hU) (Qx (Zc Z6 Qby (by rfl) T.len Qaj (Qa3 (qp 0) QR))) (JE JF) (Z9 _)) (Qfb (Yt (Yh (JE (J6 G1 (hr.mono (by decide)) (by rfl) m1 k1 b1 Zl (ZN (Qdq Ya Qar (qp 0) (JE JF) (λ_ _=>rfl)) JD))))) (QeA (Yt (Yh (JE (J6 G1 (hr.mono (by decide)) (by rfl) m1 k1 b1 Zl (ZN (Qdq Ya Qar (qp 0) (JE JF) (λ_ _=>rfl)) JD)))))))))) (Q7 (ZK QeC)) ZS)
   (Q7 (ZK (Qdr (Qx (Qw2 Qmf Qme (JE JF) (JE (Qdq Ya Qar (qp 0) (JE JF) (λ_ _=>rfl))) (qp 1))) (Qdp (Ju (Qw2 Qmf Qme (JE JF) (JE (Qdq Ya Qar (qp 0) (JE JF) (λ_ _=>rfl))) (qp 2))))))),λargs R EX h=>?_⟩
  obtain⟨d,h,w,rfl,hR⟩:=h;cases d with
  |tuple ds=>
   match ds,hR with
   |[a,b],hR=>
    have hR:R (.bool (inW a 0 (h - 1)&&inW b 0 (w - 1))):=hR;rw[<- QiG,<- QiG] at hR;refine⟨a,rfl,a,rfl,?_⟩;cases a with
    |int i=>
     refine⟨b,rfl,b,rfl,?_⟩;cases b with
     |int j=>
      refine⟨.int i,rfl,?_⟩;have hR:R (.bool ((decide (0<=i)&&decide (i<h))&&(decide (0<=j)&&decide (j<w)))):=hR;refine ifC (λz1=>?_) λz1=>?_
      ·rw[show decide (0<=i)=true from z1,YV] at hR;refine ifC (λz2=>?_) λz2=>?_
       ·rw[show decide (i<h)=true from z2,YV] at hR;refine⟨.int j,rfl,ifC (λz3=>?_) λz3=>?_⟩
        ·rw[show decide (0<=j)=true from z3,YV] at hR;exact hR
        ·rw[show decide (0<=j)=false from z3,Y7] at hR;exact hR
       ·rw[show decide (i<h)=false from z2,Y7] at hR;exact hR
      ·rw[show decide (0<=i)=false from z1,Y7,Y7] at hR;exact hR
     |_=>simp only[inL,Qdh] at hR;exact hR
    |_=>exact hR
   |[],hR=>exact hR
   |[_],hR=>exact hR
   |a::b::c::r,hR=>
    exact hR
  |_=>exact hR
theorem Qkn:(["_law_k", "_law_things"]:List Str).Nodup:=by decide +kernel
theorem Qlt:Jy ["_law_things"] ["_law_things"] (Qt QfF):=⟨rfl,rfl,rfl,by decide +kernel,rfl,by decide +kernel,by decide +kernel⟩
theorem Qmn{f   : Addr}{fd  : QQ}(F:Fun K "_law_rises" "_law_rises" QfF f fd)(T:GlbA mg) :
  FnOk P w K mg base CX0 1 f fd ["_law_things"] (Ze false Qgo):=by
 refine okQ false F Qlt (λargs R EX h=>?_) (λcdv A outer s H E hr=>?_)
 ·obtain⟨ds,rfl | rfl,_⟩:=h<;>rfl
 ·have hU:=Room.u60 hr;have hI:=Room.i60 hr;refine⟨_,Q7 (QaN (Zc Qan (Qc7 rfl) (by rfl) T.all Qct (Qa3 (Qx (Qai ["_law_k", "_law_things"] [none,some 0] (QaP (by rfl) T.range (Qx (ZI QcZ QdO (Qx (Zc Z6 Qby (by rfl) T.len Qaj (Qa3 (qp 0) QR))) (JE JF)))) (λcl ex s3 H3 C=>⟨(Zb 0 Qkn rfl (QZ rfl) (Q8 rfl)),Zp,(Ju (Qfc (QrB hU) QrG (JE (Qdq Ya Qar (qp 1) (qp 0) (λ_ _=>rfl))) (JE (Qdq Ya Qar (qp 1) (Qx (ZI JW Zq (qp 0) (JE JF))) (λ_ _=>rfl))) (Z9 _)))⟩))) QR))),λargs R EX h=>?_⟩;obtain⟨ds,h,hc,hl,hR⟩:=h;have go:∀(i:Int)(k:Nat),i=k->k<ds.length->atI ds i=some (ds.getD k .none):=λi k e hk=>by rw[e];exact QaV (by rw[Ql hk,Zs,Ql hk];rfl)
  have gm:∀k,k<ds.length->ds.getD k .none∈ds:=λk hk=>by rw[Zs,Ql hk];exact Qcp hk
  rcases h with rfl | rfl
  ·refine⟨⟨by omega,by omega⟩,YJ (λd=>.bool (Qsp ds d)) (λd hd k2 hk=>?_) (QaW (items:=Qed 0 ((ds.length:Int) - 1).toNat) rfl (by rw[Qhf];exact hR))⟩;obtain⟨k,hk'⟩:=Jf.mp hd;obtain⟨hlt,rfl⟩:=QbF hk';have hk:k2 (.bool (ltD (ds.getD (0+(k:Int)).toNat .none) (ds.getD ((0+(k:Int)).toNat+1) .none))):=hk;rw[show(0+(k:Int)).toNat=k by omega] at hk;have m1:=gm k (by omega);have m2:=gm (k+1) (by omega);exact⟨_,go (0+(k:Int)) k (by omega) (by omega),_,go (0+(k:Int)+1) (k+1) (by omega) (by omega),⟨(hc _ m1).1,(hc _ m2).1,(hc _ m1).2.2 _ m2,(hc _ m1).2.1⟩,hk⟩
  ·refine⟨⟨by omega,by omega⟩,YJ (λd=>.bool (Qsp ds d)) (λd hd k2 hk=>?_) (QaW (items:=Qed 0 ((ds.length:Int) - 1).toNat) rfl (by rw[Qhf];exact hR))⟩;obtain⟨k,hk'⟩:=Jf.mp hd;obtain⟨hlt,rfl⟩:=QbF hk';have hk:k2 (.bool (ltD (ds.getD (0+(k:Int)).toNat .none) (ds.getD ((0+(k:Int)).toNat+1) .none))):=hk;rw[show(0+(k:Int)).toNat=k by omega] at hk;have m1:=gm k (by omega);have m2:=gm (k+1) (by omega);exact⟨_,go (0+(k:Int)) k (by omega) (by omega),_,go (0+(k:Int)+1) (k+1) (by omega) (by omega),⟨(hc _ m1).1,(hc _ m2).1,(hc _ m1).2.2 _ m2,(hc _ m1).2.1⟩,hk⟩
theorem Qpq:(["_law_cell", "_law_board"]:List Str).Nodup:=by decide +kernel
theorem Qpp:(["_law_cell", "_law_board"]:List Str).Nodup:=by decide +kernel
theorem Qjy:(["_law_row", "_law_column"]:List Str).Nodup:=by decide +kernel
theorem Qjx:(["_law_row", "_law_column"]:List Str).Nodup:=by decide +kernel
theorem Qlv:Jy ["_law_board", "_law_thing", "_law_lines"] ["_law_board", "_law_thing"] (Qt lIsS):=⟨rfl,rfl,rfl,by decide +kernel,rfl,by decide +kernel,by decide +kernel⟩
theorem Qti{f f1 f2  : Addr}{fd fd1 fd2:QQ}(F:Fun K "_law_is_stand" "_law_is_stand" lIsS f fd)(T:GlbA mg)
  (m1:mg "_law_is_place" = some (.ref f1))(G1:FnOk P w K mg base CX0 2 f1 fd1 ["_law_thing", "_law_high", "_law_wide"] (Ze false QiB))(b1:Binds K fd1 ["_law_thing", "_law_high", "_law_wide"] [])(k1:PySem.W.keepIn K (.ref f1)=true)
  (m2:mg "_law_rises" = some (.ref f2))(G2:FnOk P w K mg base CX0 1 f2 fd2 ["_law_things"] (Ze false Qgo))(b2:Binds K fd2 ["_law_things"] [])(k2:PySem.W.keepIn K (.ref f2)=true) :
  FnOk P w K mg base CX0 3 f fd ["_law_board", "_law_thing"] (Ze false Qiz):=by
 refine okQ false F Qlv (λargs R EX h=>?_) (λcdv A outer s H E hr=>?_)
 ·obtain⟨h,w,cs,d,rfl,_⟩:=h;rfl
 ·have hU:=Room.u60 hr;have hI:=Room.i60 hr;refine⟨_,QK (QaO (QsA (Qfb (Yt (Yh (Qx (QbS .tuple (by rfl) T.isinstance (qp 1) (by rfl) T.tuple ZE)))) (QeA (Yt (Yh (Qx (Zc Qan (Qc7 rfl) (by rfl) T.all Qct (Qa3 (Qx (Qai ["_law_cell", "_law_board"] [none,some 0] (Y1 (qp 1)) (λcl ex s3 H3 C=>⟨(Zb 0 Qpq rfl (QZ rfl) (Q8 rfl)),Zp,(J6 G1 (hr.mono (by decide)) (by rfl) m1 k1 b1 Zl (ZN (qv 0) (ZN (Qdq Ya Qar (qp 1) (JE JF) (λ_ _=>rfl)) (ZN (Qdq Ya Qar (qp 1) (JE JF) (λ_ _=>rfl)) JD))))⟩))) QR)))))))) (Q7 (ZK QeC)) ZS)
   (QK (QaO (QsA (Qfb (Yt (Yh (Qx (Zc Qan (Qc7 rfl) (by rfl) T.all Qct (Qa3 (Qx (Qai ["_law_cell", "_law_board"] [none,some 0] (Y1 (qp 1)) (λcl ex s3 H3 C=>⟨(Zb 0 Qpp rfl (QZ rfl) (Q8 rfl)),Zp,(Ju (Qfc Qju (Qmr hI) (qp 0) (JE (Qdq Ya Qar (qp 1) (JE JF) (λ_ _=>rfl))) (by rfl)))⟩))) QR))))) (QeA (Yt (Yh (JE (J6 G2 (hr.mono (by decide)) (by rfl) m2 k2 b2 Zl (ZN (qv 1) JD)))))))) (Q7 (ZK QeC)) ZS)
   (QK (Z1 2 (Ju (ZI JW Zq (Qx (Qai ["_law_row", "_law_column"] [none,none] (Y1 (qp 1)) (λcl ex s3 H3 C=>⟨(QcX rfl (Yb 0 (Yb 1 QcY Qjy rfl (QZ rfl) (Q8 rfl)) Qjy rfl (QZ rfl) (Q8 rfl))),Zp,(qv 0)⟩))) (Qx (Qai ["_law_row", "_law_column"] [none,none] (Y1 (qp 1)) (λcl ex s3 H3 C=>⟨(QcX rfl (Yb 0 (Yb 1 QcY Qjx rfl (QZ rfl) (Q8 rfl)) Qjx rfl (QZ rfl) (Q8 rfl))),Zp,(Ju (ZI JW Zq (JE JF) (qp 1)))⟩))))) Qlv.nd)
   (Q7 (QaN (Qfc Qc0 (Qgi hU) (Qx (Qge (by rfl) T.len (by rfl) T.set (qp 2))) (Qx (ZI Qmd QrF (JE JF) (Qx (Zc Z6 Qby (by rfl) T.len Qaj (Qa3 (qp 1) QR))))) (Z9 _)))))),λargs R EX h=>?_⟩
  obtain⟨h,w,cs,d,rfl,h6,hs,hR⟩:=h;cases d with
  |tuple ds=>
   have hl:=hs ds rfl;refine YJ (λd=>.bool (Qhx h w d)) (λd hd k2 hk=>⟨_,rfl,_,rfl,_,_,_,rfl,hk⟩) (QaW (items:=ds) rfl ?_);cases ha:ds.all (Qhx h w) with
   |false=>
    rw[show QiF h w cs (.tuple ds)=false by show((ds.all (Qhx h w)&&_)&&_)=false;rw[ha];rfl] at hR;exact hR
   |true=>
    obtain⟨L,rfl,hL⟩:=Qef ha;rw[Qe] at hl;rw[show QiF h w cs (.tuple (L.map pairD))=(Qbi (L.map pairD)&&((L.map pairD).all (inC cs)&&apB L)) by show(((L.map pairD).all (Qhx h w)&&_)&&(_&&apB ((L.map pairD).map toP)))=_;rw[ha,Qbv];rfl] at hR;refine YJ (λd=>.bool (inC cs d)) (λd hd k2 hk=>?_) (QaW (items:=L.map pairD) rfl ?_)
    ·obtain⟨p,_,rfl⟩:=Qw.mp hd;exact⟨_,rfl,⟨QeK cs,rfl,by have:=QfK p;omega⟩,hk⟩
    ·cases hi:(L.map pairD).all (inC cs) with
     |false=>
      rw[hi,Y7,Qdh] at hR;exact hR
     |true=>
      rw[hi,YV] at hR;refine⟨_,.inl rfl,Qbc L,by rw[Qe];omega,?_⟩;cases hr:Qbi (L.map pairD) with
      |false=>
       rw[hr,Y7] at hR;exact hR
      |true=>
       rw[hr,YV] at hR;have e1:(L.map pairD).map (λd=>Qp (toP d).1)=(L.map (λp=>p.1)).map Qp:=by rw[Jj,Jj];rfl
       have e2:(L.map pairD).map (λd=>Qp (6+(toP d).2))=(L.map (λp=>6+p.2)).map Qp:=by rw[Jj,Jj];rfl
       refine YJ (λd=>.int (toP d).1) (λd hd k2 hk=>?_) (YJ (λd=>.int (6+(toP d).2)) (λd hd k2 hk=>?_) ?_)
       ·obtain⟨p,_,rfl⟩:=Qw.mp hd;exact⟨rfl,hk⟩
       ·obtain⟨p,_,rfl⟩:=Qw.mp hd;exact⟨rfl,hk⟩
       ·rw[e1,e2];refine⟨by rw[Qe,Qe,Qe,Qe];omega,?_⟩;rw[<- Q1];refine⟨_,QaK _,by rw[Qd,Qe,Qe];omega,.inl (.inl (by decide)),?_⟩;have c1:decide (((ddI (L.map (λp=>p.1)++L.map (λp=>6+p.2))).length:Int)=2*(((L.map pairD).length:Nat):Int))=apB L:=by
         unfold apB;rw[<- Bool.decide_and];refine decide_eq_decide.mpr ?_
         rw[<- QiC (L:=L) λp hp=>by have:=hL p hp;omega,<- Qgz,Qd,Qe,Qe,Qe];omega
        show R (.bool (decide _));rw[c1];exact hR
  |_=>exact hR
theorem Qps:(["_law_one", "_law_n"]:List Str).Nodup:=by decide +kernel
theorem Qpr:(["_law_lot"]:List Str).Nodup:=by decide +kernel
theorem Qig:Jy ["_law_n", "_law_thing", "_law_things", "_law_lot"] ["_law_n", "_law_thing"] (Qt lIsP):=⟨rfl,rfl,rfl,by decide +kernel,rfl,by decide +kernel,by decide +kernel⟩
theorem Qtj{f f1 f2  : Addr}{fd fd1 fd2:QQ}(F:Fun K "_law_is_parting" "_law_is_parting" lIsP f fd)(T:GlbA mg)
  (m1:mg "_law_whole" = some (.ref f1))(G1:FnOk P w K mg base CX0 1 f1 fd1 ["_law_thing"] (Ze false Qev))(b1:Binds K fd1 ["_law_thing"] [])(k1:PySem.W.keepIn K (.ref f1)=true)
  (m2:mg "_law_rises" = some (.ref f2))(G2:FnOk P w K mg base CX0 1 f2 fd2 ["_law_things"] (Ze false QiA))(b2:Binds K fd2 ["_law_things"] [])(k2:PySem.W.keepIn K (.ref f2)=true) :
  FnOk P w K mg base CX0 2 f fd ["_law_n", "_law_thing"] (Ze false Qty):=by
 refine okQ false F Qig (λargs R EX h=>?_) (λcdv A outer s H E hr=>?_)
 ·obtain⟨n,d,rfl,_⟩:=h;rfl
 ·have hU:=Room.u60 hr;have hI:=Room.i60 hr;refine⟨_,QK (QaO (Yt (Yh (Qx (QbS .tuple (by rfl) T.isinstance (qp 1) (by rfl) T.tuple ZE)))) (Q7 (ZK QeC)) ZS)
   (QK (Qdn 2 (QaE QR) Qig.nd)
   (QK (Qcr Zf rfl (Y1 (qv 1)) (Zb 3 Qig.nd rfl (by first | exact QZ rfl | exact Q8 rfl))
    (QK (QaO (QsA (Qfb (Yt (Yh (Qx (QbS .tuple (by rfl) T.isinstance (qp 3) (by rfl) T.tuple ZE)))) (Qfb (QbR Qc0 (Qgi hU) (qp 3) (Qx (Yw QR)) (Z9 _)) (QeA (Yt (Yh (Qx (Zc Qan (Qc7 rfl) (by rfl) T.all Qct (Qa3 (Qx (Qai ["_law_one", "_law_n"] [none,some 0] (Y1 (qp 3)) (λcl ex s3 H3 C=>⟨(Zb 0 Qps rfl (QZ rfl) (Q8 rfl)),Zp,(Qdr (JE (J6 G1 (hr.mono (by decide)) (by rfl) m1 k1 b1 Zl (ZN (qv 0) JD))) (Qdp (Ju (Qw2 Qmf Qme (JE JF) (qp 0) (qp 1)))))⟩))) QR))))))))) (Q7 (ZK QeC)) ZS)
   (QK (QaO (Yt (Yh (JE (J6 G2 (hr.mono (by decide)) (by rfl) m2 k2 b2 Zl (ZN (qv 3) JD))))) (Q7 (ZK QeC)) ZS)
   (Q7 (QlH 2 (qp 3))))))
   (Q7 (ZK (Qdr (Qx (Qfc Qc0 (Qgi hU) (Qx (Zc QdF QiP (by rfl) T.sorted QaU (Qa3 (qp 2) QR))) (Qx (Qjk (by rfl) T.list (by rfl) T.range (qp 0))) (Z9 _))) (Qdp (J6 G2 (hr.mono (by decide)) (by rfl) m2 k2 b2 Zl (ZN (Ju (Qai ["_law_lot"] [none] (Y1 (qp 1)) (λcl ex s3 H3 C=>⟨(Zb 0 Qpr rfl (QZ rfl) (Q8 rfl)),Zp,(Qdq Ya Qar (qp 0) (JE JF) (λ_ _=>rfl))⟩))) JD)))))))),λargs R EX h=>?_⟩
  obtain⟨n,d,rfl,hs,n1,n6,hR⟩:=h;cases d with
  |tuple ls=>
   obtain⟨h9,hnd,h20⟩:=hs ls rfl;have bad:∀{d},d∈ls->QbW n d=false->R (.bool false):=λ{d} hd hb=>by
    have:ls.all (QbW n)=false:=by
     cases e:ls.all (QbW n) with
     |false=>rfl
     |true=>rw[Q4.mp e d hd] at hb;cases hb
    rw[show Qbb n (.tuple ls)=false by show(ls.all (QbW n)&&_)=false;rw[this];rfl] at hR;exact hR
   refine Qbx (λi δ=>(∃x,δ=[.v (.int n),.v (.tuple ls),.own ((ls.take i).flatMap Qfd),x])/\∀d∈ls.take i,QbW n d=true) ⟨⟨_,rfl⟩,λd hd=>by simp at hd⟩ ?_ ?_
   ·rintro i d δ hd ⟨⟨x,rfl⟩,hall⟩;have hm:=QM hd;cases d with
    |tuple ds=>
     have hl:=h20 ds hm;cases ds with
     |nil=>exact⟨⟨QbH.mp hnd _ hm,rfl,.inr (by decide)⟩,bad hm rfl⟩
     |cons d0 ds=>
      refine⟨⟨QbH.mp hnd _ hm,rfl,.inr (by decide)⟩,?_⟩;refine YJ (λd=>.bool (inW d 0 (n - 1))) (λd hd k2 hk=>⟨d,rfl,?_⟩) (QaW (items:=d0::ds) rfl ?_)
      ·rw[<- QiG] at hk;cases d with
       |int i=>exact QfI (QnI hk)
       |_=>exact hk
      ·cases ha:(d0::ds).all (λd=>inW d 0 (n - 1)) with
       |false=>exact bad hm (by show((_&&_)&&_)=false;rw[ha];rfl)
       |true=>
        obtain⟨e,_⟩:=Qgs ha;refine⟨(d0::ds).map toI,.inl (by rw[<- e]),by rw[Qe];omega,?_⟩;cases hr:rise ((d0::ds).map toI) with
        |false=>exact bad hm (by show((_&&rise ((d0::ds).map toI))&&_)=false;rw[hr];simp)
        |true=>
         have hlot:QbW n (.tuple (d0::ds))=true:=by
          show(((d0::ds).all (λd=>inW d 0 (n - 1))&&rise ((d0::ds).map toI))&&decide (((d0::ds).length:Int) > 0))=true;rw[ha,hr,decide_eq_true (by rw[QC];omega)];rfl
         have b1:=Qeh (by omega) hall;have b2:(ls.take i).length<=9:=by rw[Jo];omega
         have b3:((ls.take i).length:Int)*n<=9*6:=Qh2 (by omega) n6 (by omega) (by decide);refine⟨by rw[Qc3 (by omega) hall,Qe];omega,⟨.v (.tuple (d0::ds)),?_⟩,λd hd'=>?_⟩
         ·rw[JV,hd,ZV];show[Sl.v (.int n),.v (.tuple ls),.own ((ls.take i).flatMap Qfd++(d0::ds)),_]=[Sl.v (.int n),.v (.tuple ls),.own ((ls.take i).flatMap Qfd++(List.flatMap Qfd [Qay (d0::ds)])),_];rw[Zy,Qr9,Ji];rfl
         ·rw[JV,hd] at hd';rcases JB.mp hd' with z | z
          ·exact hall d z
          ·have z:d∈[Qay (d0::ds)]:=z;rw[Jz.mp z];exact hlot
    |_=>exact bad hm rfl
   ·rintro δ ⟨⟨x,rfl⟩,hall⟩;rw[J5] at hall ⊢;have hal:ls.all (QbW n)=true:=Q4.mpr hall;rw[show Qbb n (.tuple ls)=(Ja (.list ((srt (ls.flatMap lotI)).map Qp)) (.list ((Jr n.toNat).map λ(i:Nat)=>Qp i))&&rise (ls.map hdI)) by show(ls.all (QbW n)&&_)=_;rw[hal];rfl] at hR;have l1:=Qeh (by omega) hall;have l2:(ls.flatMap lotI).length<64:=by
     have:(ls.length:Int)*n<=9*6:=Qh2 (by omega) n6 (by omega) (by decide);omega
    refine(Qie (by rw[Qc3 (by omega) hall];exact QaK _) l2 λms pm pw=>?_).1;rw[Qrh pm pw];refine⟨⟨by omega,by omega⟩,⟨Qcj _,Qmv _,.inl (QrR _)⟩,?_⟩;refine QcF hR λ_ hR=>?_
    refine YJ (λd=>.int (hdI d)) (λd hd k2 hk=>?_) ⟨ls.map hdI,.inr (by rw[Jj];rfl),by rw[Qe];omega,hR⟩;obtain⟨i,ns,rfl,_⟩:=Qkr (hall d hd) (by omega);exact⟨_,QaV (j:=0) rfl,hk⟩
  |_=>exact hR
theorem Qch:Jy ["_law_pot_here", "_law_n", "_law_lots_here", "_law_thing", "_law_at"] ["_law_pot_here", "_law_n"] (Qt Qcl):=⟨rfl,rfl,rfl,by decide +kernel,rfl,by decide +kernel,by decide +kernel⟩
theorem Qkl{f f1  : Addr}{fd fd1:QQ}(F:Fun K "_law_parting" "_law_parting" Qcl f fd)(T:GlbA mg)
  (m1:mg "_law_take" = some (.ref f1))(G1:FnOk P w K mg base CX0 1 f1 fd1 ["_law_pot_here", "_law_far"] (Ze true Qg4))(b1:Binds K fd1 ["_law_pot_here", "_law_far"] [])(k1:PySem.W.keepIn K (.ref f1)=true) :
  FnOk P w K mg base CX0 2 f fd ["_law_pot_here", "_law_n"] (Ze false Qyc):=by
 refine okQ false F Qch (λargs R EX h=>?_) (λcdv A outer s H E hr=>?_)
 ·obtain⟨n,rfl,_⟩:=h;rfl
 ·have hU:=Room.u60 hr;have hI:=Room.i60 hr;refine⟨_,QK (Qdn 2 (QaE QR) Qch.nd)
   (QK (Qcr Zf rfl (QaP (by rfl) T.range (qp 1)) (Zb 3 Qch.nd rfl (by first | exact QZ rfl | exact Q8 rfl))
    (QK (Z1 4 (Ju (Qaa G1 (hr.mono (by decide)) (by rfl) m1 k1 b1 Zl (Y0 0 (ZN (Ju (ZI JW Zq (Qx (Zc Z6 Qby (by rfl) T.len Qaj (Qa3 (qp 2) QR))) (JE JF))) JD)))) Qch.nd)
   (QK (QaO (QbR Qc0 (Qgi hU) (qp 4) (Qx (Zc Z6 Qby (by rfl) T.len Qaj (Qa3 (qp 2) QR))) (Z9 _)) (Q7 (Qrp 2 (Ju (Yw QR)))) ZS)
   (Q7 (Qu2 2 (Ju (ZI JW Zq (JE (Qdq Ya Qar (qp 2) (qp 4) (λ_ _=>rfl))) (Qx (Yw (Zg (qv 3) QR))))) (qp 4))))))
   (Q7 (QaN (YX Zv QaG (by rfl) T.tuple ZE (Qa3 (qp 2) QR))))),λargs R EX h=>?_⟩
  obtain⟨n,rfl,n0,n6,hR⟩:=h;refine⟨⟨by omega,by omega⟩,Qgy (λi δ=>∃L x y,δ=[.pot,.v (.int n),.own (L.map pLot),x,y]/\Par i L) ⟨[],_,_,rfl,λl hl=>(nomatch hl),rfl,Qk _⟩ ?_ ?_⟩
  ·rintro i δ hi ⟨L,x,y,rfl,h1,h2,h3⟩;have key:∀(L':List (List Int))(r:Int)(hr:0<=r)(hl:r<L'.length),L'.length<=i+1->L'.flatten.length=i->(∀k l,k≠r.toNat->L'[k]? = some l->l≠[]) ->
     ∃d,atI (L'.map pLot) r=some d/\Qw8 d (.tuple [.int (0+(i:Int))]) λd=>∃j,ixN (L'.map pLot).length r=some j/\∃L2 x y,[Sl.pot,.v (.int n),.own ((L'.map pLot).set j d),.v (.int (0+(i:Int))),.v (.int r)]=[.pot,.v (.int n),.own (L2.map pLot),x,y]/\Par (i+1) L2:=λL' r hr hl hlen hfl hne=>by
    obtain⟨j,rfl⟩:∃j:Nat,r=j:=⟨r.toNat,by omega⟩
    have hj:j<L'.length:=by omega
    have ej:L'[j]? = some L'[j]:=Ql hj;have hll:L'[j].length<=i:=by
     rw[<- hfl];exact Qbz (Qbn (Qcp hj))
    refine⟨pLot L'[j],QaV (by rw[Q5,ej];rfl),?_⟩;show _/\_;refine⟨by rw[Qe];show _+1<=_;omega,j,QtE (by rw[Qe];exact hj),L'.set j (L'[j]++[0+(i:Int)]),.v (.int (0+(i:Int))),.v (.int (j:Int)),?_,λl hl=>?_,?_,?_⟩
    ·rw[List.map_set];show[Sl.pot,.v (.int n),.own ((L'.map pLot).set j (.tuple (L'[j].map Qp++[.int (0+(i:Int))]))),.v (.int (0+(i:Int))),.v (.int (j:Int))]=[.pot,.v (.int n),.own ((L'.map pLot).set j (.tuple ((L'[j]++[0+(i:Int)]).map Qp))),_,_];rw[Q1];rfl
    ·rcases Qpv hl with rfl | ⟨k,hk,e⟩
     ·simp
     ·exact hne k l (by omega) e
    ·rw[QjH L' j _ _ ej,hfl]
    ·rw[ZG];exact hlen
   refine⟨_,rfl,by omega,?_,λr r0 r1=>?_⟩
   ·rw[Qe];omega
   ·rw[Qe] at r1;refine ifC (λz=>?_) λz=>?_
    ·have z:=of_decide_eq_true z;rw[Qe] at z;refine⟨by rw[Qe];omega,?_⟩;have:=key (L++[[]]) r r0 (by rw[Qd];show r<(((L.length+1:Nat)):Int);omega) (by rw[Qd];show L.length+1<=_;omega) (by rw[Yl];simpa using h2) (λk l hk e=>by
      by_cases zz:k<L.length
      ·rw[Zz zz] at e;exact h1 l (QM e)
      ·exfalso
       rw[JR (by omega)] at e;have:k - L.length<[([]:List Int)].length:=(QU.mp e).1;have:k - L.length<1:=this;omega)
     rw[Q1] at this;exact this
    ·have z:=of_decide_eq_false z;rw[Qe] at z;exact key L r r0 (by omega) (by omega) h2 λk l _ e=>h1 l (QM e)
  ·rintro δ ⟨L,x,y,rfl,hp⟩;exact hR L hp
theorem Qrk:Jy ["_law_pot_here", "_law_some"] ["_law_pot_here"] (Qt lOdd):=⟨rfl,rfl,rfl,by decide +kernel,rfl,by decide +kernel,by decide +kernel⟩
theorem QvI{f f1  : Addr}{fd fd1:QQ}(F:Fun K "_law_odd" "_law_odd" lOdd f fd)(T:GlbA mg)
  (m1:mg "_law_take" = some (.ref f1))(G1:FnOk P w K mg base CX0 1 f1 fd1 ["_law_pot_here", "_law_far"] (Ze true Qg4))(b1:Binds K fd1 ["_law_pot_here", "_law_far"] [])(k1:PySem.W.keepIn K (.ref f1)=true) :
  FnOk P w K mg base CX0 2 f fd ["_law_pot_here"] (Ze false Qw5):=by
 refine okQ false F Qrk (λargs R EX h=>?_) (λcdv A outer s H E hr=>?_)
 ·obtain⟨rfl,_⟩:=h;rfl
 ·have hU:=Room.u60 hr;have hI:=Room.i60 hr;refine⟨_,QK (Z1 1 (Ju (QaE (Zg QlK (Zg QeC (Zg QeC (Zg (Ju (Qgd (JE JF))) (Zg JF (Zg (Ju (ZI Qhm Qtp (JE JF) (JE JF))) (Zg QeB (Zg QeB (Zg QeB (Zg (Ju (Yw QR)) (Zg (Ju (Yw (Zg JF QR))) (Zg (Ju (Yw (Zg JF (Zg JF QR)))) (Zg (Ju (QaE (Zg JF QR))) (Zg Qx1 (Zg (Ju (Yw (Zg (Ju (Yw (Zg JF (Zg JF QR)))) QR))) (Zg (Ju (QaE (Zg (Ju (Yw (Zg JF (Zg JF QR)))) QR))) QR)))))))))))))))))) Qrk.nd)
   (Q7 (ZK (Qdq Ya Qar (qp 1) (Qx (Qaa G1 (hr.mono (by decide)) (by rfl) m1 k1 b1 Zl (Y0 0 (ZN JF JD)))) (λ_ _=>rfl)))),λargs R EX h=>?_⟩
  obtain⟨rfl,hR⟩:=h;refine⟨⟨by decide,by decide,by decide⟩,_,rfl,by decide,by decide,λr r0 r1=>Qhv r0 r1 λd hd=>hR d ?_⟩;exact QY (p:=Qaw) (Z2 rfl) (QY (Z2 rfl) (QY (Z2 rfl) (QY (Z2 rfl) (QY (Z2 rfl) (QY (Z2 rfl) (QY (Z2 rfl) (QY (Z2 rfl) (QY (Z2 rfl) (QY (Qcf (by decide +kernel)) (QY (Qcf (by decide +kernel)) (QY (Qcf (by decide +kernel)) (QY (Z2 rfl) (QY (Z2 rfl) (QY (Qcf (by decide +kernel)) (QY (Z2 rfl) (Qcu)))))))))))))))) d hd
theorem QbE:Jy ["_law_pot_here", "_law_n", "_law_parting_here", "_law_at", "_law_lot", "_law_spot", "_law_odd_here", "_law_lots_here", "_law_way", "_law_some"] ["_law_pot_here", "_law_n", "_law_parting_here"] (Qt QfH):=⟨rfl,rfl,rfl,by decide +kernel,rfl,by decide +kernel,by decide +kernel⟩
theorem Qtl{f f1 f2  : Addr}{fd fd1 fd2:QQ}(F:Fun K "_law_bent_parting" "_law_bent_parting" QfH f fd)(T:GlbA mg)
  (m1:mg "_law_take" = some (.ref f1))(G1:FnOk P w K mg base CX0 1 f1 fd1 ["_law_pot_here", "_law_far"] (Ze true Qg4))(b1:Binds K fd1 ["_law_pot_here", "_law_far"] [])(k1:PySem.W.keepIn K (.ref f1)=true)
  (m2:mg "_law_odd" = some (.ref f2))(G2:FnOk P w K mg base CX0 2 f2 fd2 ["_law_pot_here"] (Ze false Qw5))(b2:Binds K fd2 ["_law_pot_here"] [])(k2:PySem.W.keepIn K (.ref f2)=true) :
  FnOk P w K mg base CX0 3 f fd ["_law_pot_here", "_law_n", "_law_parting_here"] (Ze false Qt4):=by
 refine okQ false F QbE (λargs R EX h=>?_) (λcdv A outer s H E hr=>?_)
 ·obtain⟨n,L,rfl,_⟩:=h;rfl
 ·have hU:=Room.u60 hr;have hI:=Room.i60 hr;refine⟨_,QK (Z1 3 (Ju (Qaa G1 (hr.mono (by decide)) (by rfl) m1 k1 b1 Zl (Y0 0 (ZN (Ju (Zc Z6 Qby (by rfl) T.len Qaj (Qa3 (qp 2) QR))) JD)))) QbE.nd)
   (QK (Z1 4 (Qdq Ya Qar (qp 2) (qp 3) (λ_ _=>rfl)) QbE.nd)
   (QK (Z1 5 (Ju (Qaa G1 (hr.mono (by decide)) (by rfl) m1 k1 b1 Zl (Y0 0 (ZN (Ju (Zc Z6 Qby (by rfl) T.len Qaj (Qa3 (qp 4) QR))) JD)))) QbE.nd)
   (QK (Z1 6 (Qdq Ya Qar (Qx (QaE (Zg (qv 1) (Zg (Ju (Qgd (JE JF))) (Zg JF (Zg (Ju (ZI QcZ QdO (qp 1) (JE JF))) (Zg QeC (Zg QeC (Zg QlK (Zg QeB (Zg (Ju (Yw (Zg JF QR))) (Zg (Ju (ZI Qhm Qtp (JE JF) (JE JF))) QR)))))))))))) (Qx (Qaa G1 (hr.mono (by decide)) (by rfl) m1 k1 b1 Zl (Y0 0 (ZN JF JD)))) (λ_ _=>rfl)) QbE.nd)
   (QK (Z1 7 (Ju (QaE (Zg (Ju (ZI JW Zq (Qx (ZI JW Zq (Qx (Yx (qp 4) Yv (Yu (qp 5)))) (Qx (Yw (Zg (qv 6) QR))))) (Qx (Yx (qp 4) (Yu (Qx (ZI JW Zq (qp 5) (JE JF)))) Yv)))) (Zg (Ju (ZI JW Zq (Qx (Yx (qp 4) Yv (Yu (qp 5)))) (Qx (Yx (qp 4) (Yu (Qx (ZI JW Zq (qp 5) (JE JF)))) Yv)))) (Zg (Ju (Qsz (qp 4) (Qx (Qgd (JE JF))))) (Zg (Ju (YX QbM QiQ (by rfl) T.list QcD (Qa3 (qp 4) QR))) QR)))))) QbE.nd)
   (QK (Z1 7 (Ju (ZI JW Zq (qp 7) (Qx (QaE (Zg (Ju (Yw QR)) (Zg (Ju (ZI JW Zq (qp 4) (Qx (Yx (qp 4) (Yu (Qx (Qgd (JE JF)))) Yv)))) (Zg (Ju (ZI JW Zq (qp 4) (Qx (Yw (Zg (qv 6) QR))))) (Zg (qv 6) QR)))))))) QbE.nd)
   (QK (Z1 8 (Ju (Qaa G1 (hr.mono (by decide)) (by rfl) m1 k1 b1 Zl (Y0 0 (ZN JF JD)))) QbE.nd)
   (QK (QaO (QbR Qme QrH (qp 8) (JE JF) (Z9 _)) (Q7 (QaN (ZI JW Zq (Qx (ZI JW Zq (Qx (Yx (qp 2) Yv (Yu (qp 3)))) (Qx (Yw (Zg (Qdq Ya Qar (qp 7) (qp 8) (λ_ _=>rfl)) QR))))) (Qx (Yx (qp 2) (Yu (Qx (ZI JW Zq (qp 3) (JE JF)))) Yv))))) ZS)
   (QK (Z1 9 (Ju (QaE (Zg (Ju (ZI JW Zq (Qx (Yx (qp 2) Yv (Yu (qp 3)))) (Qx (Yx (qp 2) (Yu (Qx (ZI JW Zq (qp 3) (JE JF)))) Yv)))) (Zg (Ju (Qsz (qp 2) (Qx (Qgd (JE JF))))) (Zg (Ju (ZI JW Zq (qp 2) (Qx (Yw (Zg (Ju (Yw QR)) QR))))) (Zg (Ju (YX QbM QiQ (by rfl) T.list QcD (Qa3 (qp 2) QR))) (Zg (Ju (ZI JW Zq (qp 2) (Qx (Yw (Zg (qv 4) QR))))) QR))))))) QbE.nd)
   (Q7 (ZK (Qdq Ya Qar (Qx (ZI JW Zq (qp 9) (Qx (QaE (Zg (J6 G2 (hr.mono (by decide)) (by rfl) m2 k2 b2 Zl (Y0 0 JD)) (Zg (Ju (ZI JW Zq (qp 2) (Qx (Yw (Zg (Ju (Yw (Zg (qv 1) QR))) QR))))) QR)))))) (Qx (ZI QcZ QdO (qp 8) (JE JF))) (λ_ _=>rfl)))))))))))),λargs R EX h=>?_⟩
  obtain⟨n,L,rfl,n1,n6,hp,hR⟩:=h;have hL:L.length<=6:=by have:=hp.2.2;omega
  have hL0:0<L.length:=by
   cases L with
   |nil=>have:=hp.2.1;have:(0:Nat)=n.toNat:=this;omega
   |cons l L=>rw[QC];omega
  have lm:(L.map pLot).length=L.length:=Qe _;have pg:∀d∈L.map pLot,good d:=λd hd=>by obtain⟨_,_,_,_,g⟩:=Qin hp (by omega) hd;exact g
  refine⟨_,rfl,by omega,by omega,λr1 r10 r11=>Qhv r10 r11 λlot hlot=>?_⟩;obtain⟨at_,rfl⟩:∃k:Nat,r1=k:=⟨r1.toNat,by omega⟩
  obtain⟨l,rfl,hne,hl6,gl⟩:=Qin hp (by omega) hlot;have l0:0<l.length:=QnV.mpr hne;have ll:(l.map Qp).length=l.length:=Qe _;have nl:∀d∈l.map Qp,nd d=true:=λd hd=>by obtain⟨i,_,rfl⟩:=Qw.mp hd;rfl
  refine⟨_,rfl,by omega,by omega,λr2 r20 r21=>?_⟩;refine⟨⟨by decide,by decide,by decide⟩,_,rfl,by decide,by decide,λr3 r30 r31=>Qhv r30 r31 λod hod=>?_⟩;have god:good od:=QY (p:=good) ⟨rfl,rfl⟩ (QY ⟨rfl,rfl⟩ (QY ⟨rfl,rfl⟩ (QY ⟨rfl,rfl⟩ (QY ⟨rfl,rfl⟩ (QY ⟨rfl,rfl⟩ (QY ⟨rfl,rfl⟩ (QY ⟨rfl,rfl⟩ (QY ⟨rfl,rfl⟩ (QY ⟨rfl,rfl⟩ Qcu))))))))) od hod;have c1:=QcB (l.map Qp) none (some r2);have c2:=QcB (l.map Qp) (some (r2+1)) none;have c3:=QcB (l.map Qp) (some (-1)) none;have m1:∀d∈Dl.cutD (l.map Qp) none (some r2),nd d=true:=λd hd=>nl d (Qam hd)
  have m2:∀d∈Dl.cutD (l.map Qp) (some (r2+1)) none,nd d=true:=λd hd=>nl d (Qam hd)
  have m3:∀d∈Dl.cutD (l.map Qp) (some (-1)) none,nd d=true:=λd hd=>nl d (Qam hd)
  have ma:∀{a b:List Qa},(∀d∈a,nd d=true)->(∀d∈b,nd d=true)->∀d∈a++b,nd d=true:=λ{a b} ha hb d hd=>(JB.mp hd).elim (ha d) (hb d)
  have mo:∀d∈[od],nd d=true:=λd hd=>by rw[Jz.mp hd];exact god.1
  refine⟨by show _+1<=_;omega,by rw[Qd];show _+1+_<=_;omega,by omega,rfl,?_⟩;refine⟨by omega,by show _+1<=_;omega,by show 4+4<=_;decide,?_⟩;have e1:Dl.cutD (L.map pLot) none (some (at_:Int))=(L.map pLot).take at_:=by rw[QjP _ _ (by omega)];rfl
  have e2:Dl.cutD (L.map pLot) (some ((at_:Int)+1)) none=(L.map pLot).drop (at_+1):=QgC _ (at_+1);have k1:(Dl.cutD (L.map pLot) none (some (at_:Int))).length=at_:=by rw[e1,Jo];omega
  have k2:(Dl.cutD (L.map pLot) (some ((at_:Int)+1)) none).length=L.length - (at_+1):=by rw[e2,Zn];omega
  have g1:∀d∈Dl.cutD (L.map pLot) none (some (at_:Int)),good d:=λd hd=>pg d (Qam hd)
  have g2:∀d∈Dl.cutD (L.map pLot) (some ((at_:Int)+1)) none,good d:=λd hd=>pg d (Qam hd)
  have ga:∀{a b:List Qa},(∀d∈a,good d)->(∀d∈b,good d)->∀d∈a++b,good d:=λ{a b} ha hb d hd=>(JB.mp hd).elim (ha d) (hb d)
  have go1:∀{b:Qa},good b->∀d∈[b],good d:=λ{b} hb d hd=>by rw[Jz.mp hd];exact hb
  refine⟨_,rfl,by decide,by decide,λr4 r40 r41=>ifC (λz=>?_) λz=>?_⟩
  ·have z:=of_decide_eq_true z;refine Qhv r40 (by show r4<8;exact z) λb hb=>?_
   have gb:good b:=QY (p:=good) (QbJ (by rw[Qd,Qd];show _+1+_<=_;omega) (ma (ma m1 mo) m2)) (QY (QbJ (by rw[Qd];omega) (ma m1 m2)) (QY (QbJ (by rw[ZU];omega) (λd hd=>nl d (Qfj.mp hd))) (QY ⟨(show nd (.list (l.map Qp))=true from QbH.mpr nl),rfl⟩ (QY ⟨rfl,rfl⟩ (QY (QbJ (by rw[Qd];omega) (ma nl m3)) (QY (QbJ (by rw[Qd];show _+1<=_;omega) (ma nl mo)) (QY god Qcu))))))) b hb;refine⟨by show _+1<=_;omega,by rw[Qd];show _+1+_<=_;omega,hR _ (Zo ?_ (ga (ga g1 (go1 gb)) g2))⟩;rw[Qd,Qd];show _+1+_<=_;omega
  ·have z:=of_decide_eq_false z;refine⟨by omega,rfl,by show _+1<=_;omega,by show _+1<=_;omega,?_⟩;refine⟨rfl,λod2 hs2=>⟨by show _+1<=_;omega,by show 5+2<=_;decide,Qhv (by omega) (by show _<(7:Int);omega) λd hd=>hR d ?_⟩⟩;exact QY (p:=Qaw) (Zo (by rw[Qd];omega) (ga g1 g2)) (QY (Zo (by rw[ZU];omega) λd hd=>pg d (Qfj.mp hd)) (QY (Zo (by rw[Qd];show _+1<=_;omega) (ga pg (go1 ⟨rfl,rfl⟩))) (QY (Z2 rfl) (QY (Zo (by rw[Qd];show _+1<=_;omega) (ga pg (go1 gl))) (QY hs2 (QY (Zo (by rw[Qd];show _+1<=_;omega) (ga pg (go1 ⟨rfl,rfl⟩))) Qcu)))))) d hd
theorem QuN:Jy ["_law_pot_here"] ["_law_pot_here"] (Qt lNoT):=⟨rfl,rfl,rfl,by decide +kernel,rfl,by decide +kernel,by decide +kernel⟩
theorem QvJ{f f1  : Addr}{fd fd1:QQ}(F:Fun K "_law_no_things" "_law_no_things" lNoT f fd)(T:GlbA mg)
  (m1:mg "_law_take" = some (.ref f1))(G1:FnOk P w K mg base CX0 1 f1 fd1 ["_law_pot_here", "_law_far"] (Ze true Qg4))(b1:Binds K fd1 ["_law_pot_here", "_law_far"] [])(k1:PySem.W.keepIn K (.ref f1)=true) :
  FnOk P w K mg base CX0 2 f fd ["_law_pot_here"] (Ze false Qyg):=by
 refine okQ false F QuN (λargs R EX h=>?_) (λcdv A outer s H E hr=>?_)
 ·obtain⟨rfl,_⟩:=h;rfl
 ·have hU:=Room.u60 hr;have hI:=Room.i60 hr;refine⟨_,Q7 (ZK (Qdq Ya Qar (Qx (QaE (Zg JF (Zg JF (Zg (Ju (Qgd (JE JF))) (Zg (Ju (ZI Qhm Qtp (JE JF) (JE JF))) (Zg QeC (Zg QeC (Zg QlK (Zg QeB (Zg (Ju (Yw (Zg JF QR))) (Zg (Ju (QaE (Zg JF QR))) QR)))))))))))) (Qx (Qaa G1 (hr.mono (by decide)) (by rfl) m1 k1 b1 Zl (Y0 0 (ZN JF JD)))) (λ_ _=>rfl))),λargs R EX h=>?_⟩;obtain⟨rfl,hR⟩:=h;refine⟨⟨by decide,by decide,by decide⟩,_,rfl,by decide,by decide,λr r0 r1=>Qhv r0 r1 λd hd=>hR d ?_⟩;exact QY (p:=λd=>inW d 1 6=false) rfl (QY (rfl) (QY (rfl) (QY (by decide +kernel) (QY (rfl) (QY (rfl) (QY (rfl) (QY (rfl) (QY (rfl) (QY (rfl) (Qcu)))))))))) d hd
end
def Qre:Qa->List Qa
 |.int r=>(Qed 0 r.toNat).map λd=>match d with | .int c=>pairD (r,c) | _=>.none
 |_=>[]
theorem Qi8:∀n:Nat,n<=6->(Qed 0 n).flatMap Qre=(Qfo n).map pairD
 |0,_=>rfl
 |1,_=>rfl
 |2,_=>rfl
 |3,_=>rfl
 |4,_=>rfl
 |5,_=>rfl
 |6,_=>rfl
theorem Qic:∀n:Fin 7,(Qfo n.val).length<=15:=by decide +kernel
def Qi9(CN:Addr):DF:=λargs R EX=>∃a,args=[.v a]/\(inW a 1 6=false->EX CN)/\∀n:Nat,a=.int n->1<=n->n<=6->R (Qrf n)
def Qw3(CN CS:Addr):DF:=λargs R EX=>∃a d,args=[.v a,.v d]/\Qjd d/\(inW a 1 6=false->EX CN)/\(∀n:Nat,a=.int n->1<=n->n<=6->QiF n n (Qfo n) d=false->EX CS)/\∀(n:Nat) L,a=.int n->1<=n->n<=6->d=stT L->QiF n n (Qfo n) d=true->R (QhX (ptN L n))
theorem Qwx{items:List Qa}{wg:DG}{wk wv:DE}{δ:Sts}{Q:Qa->Prop}(G:Qa->Int×Int)(h:∀d∈items,∀(k:Int×Int->Prop),k (G d)->wg d δ λδ4=>wk δ4 (λx=>∃a,x=.int a/\wv δ4 (λv=>∃b,v=.int b/\k (a,b)) XF) XF)(nd:((items.map G).map (·.1)).Nodup)(hl:items.length<1000000)(q:Q (.dict (dkD (items.map G)))):QjV items wg QrU wk wv δ Q:=by
 unfold QjV;refine⟨λi acc=>acc=(items.take i).map G,by simp,λi acc d hd e=>?_,λacc e=>by rw[e,J5];exact q⟩;have hs:(items.take (i+1)).map G=(items.take i).map G++[G d]:=by rw[JV,hd,Q1];simp
 have e:acc=(items.take i).map G:=e;have hi:=(QU.mp hd).1;simp only[QrU,if_true];have hh:=h d (QM hd) (λp=>acc.length<1000000/\(∀q∈acc,q.1≠p.1)/\acc++[p]=(items.take (i+1)).map G) ⟨by rw[e,Qe,Jo];omega,λq hq z=>?_,by rw[hs,e]⟩
 ·exact hh
 ·have ht:((items.take (i+1)).map G).Sublist (items.map G):=(Qp2 _ _).map G;have nd2:=(ht.map (·.1)).nodup nd;rw[hs,Q1,YU] at nd2;rw[e] at hq;exact nd2.2.2 q.1 (List.mem_map_of_mem hq) (G d).1 (by simp) z
theorem Qbw(l:List Int):lotI (pLot l)=l:=Qoe l
theorem QrK{l:List Int}{b:Int}(h:l≠[]):(l.getLast? = some b)↔l.getLastD 0=b:=by
 cases l with
 |nil=>exact absurd rfl h
 |cons x r=>rw[List.getLast?_cons,List.getLastD_cons];simp
theorem Qoz{L:List (Int×Int)}{lots:List (List Int)}{t:Int}{p:Int×Int}(h:(L.find? λp=>decide (p.1=t))=some p):(lots.map pLot).map (λd=>if(lotI d).getLast? = some p.2 then pLot (lotI d++[t]) else d)=(QnY L lots t).map pLot:=by
 unfold QnY;rw[h,Jj,Jj];refine Yk λl _=>?_
 show(if(lotI (pLot l)).getLast? = some p.2 then pLot (lotI (pLot l)++[t]) else pLot l)=pLot (if l.getLast? = some p.2 then l++[t] else l);rw[Qbw];split<;>rfl
section
variable{P:QB}{w:Jl}{K:PySem.W.Frag}{mg:Str->Option Value}{base:Za}
theorem Qhp:(["row", "column"]:List Str).Nodup:=by decide +kernel
theorem Qom:Jy ["n"] ["n"] (Qt Qfs):=⟨rfl,rfl,rfl,by decide +kernel,rfl,by decide +kernel,by decide +kernel⟩
theorem Qpc{f f1  : Addr}{fd fd1:QQ}{CN:Addr}(F:Fun K "steps" "steps" Qfs f fd)(T:GlbA mg)
  (m1:mg "refuse_no_number" = some (.ref f1))(G1:FnOk P w K mg base (Rx.CXE P w) 3 f1 fd1 ["n"] (Ze false (Qos CN)))(b1:Binds K fd1 ["n"] [])(k1:PySem.W.keepIn K (.ref f1)=true) :
  FnOk P w K mg base (Rx.CXE P w) 4 f fd ["n"] (Ze false (Qi9 CN)):=by
 refine QvN false F Qom (λargs R EX h=>?_) (λcdv A outer s H E hr=>?_)
 ·obtain⟨a,rfl,_⟩:=h;rfl
 ·have hU:=Room.u60 hr;have hI:=Room.i60 hr;refine⟨_,QK (QlI (JE (J6 G1 (hr.mono (by decide)) (by rfl) m1 k1 b1 (Rx.Qo6 (E:=E) (λ_ _ h=>h) rfl rfl rfl) (ZN (qv 0) JD))))
   (Q7 (QaN (Yw (Zg (qv 0) (Zg (qv 0) (Zg (Ju (YX Zv QaG (by rfl) T.tuple ZE (Qa3 (Qx (QlL ["row", "column"] [none,none] (Qgx 0) (QaP (by rfl) T.range (qp 0)) (λcl ex s3 H3 C=>⟨(Zb 0 Qhp rfl (QZ rfl) (Q8 rfl)),Zp,(QaP (by rfl) T.range (qp 0)),(Zb 1 Qhp rfl (QZ rfl) (Q8 rfl)),Zp,(Ju (Yw (Zg (qv 0) (Zg (qv 1) QR))))⟩))) QR))) QR)))))),λargs R EX h=>?_⟩
  obtain⟨a,rfl,hX,hR⟩:=h;refine⟨_,rfl,λha=>?_,hX⟩;obtain⟨m,rfl,n1,n6⟩:=QkC ha;obtain⟨n,rfl⟩:∃n:Nat,m=n:=⟨m.toNat,by omega⟩
  have hR:=hR n rfl (by omega) (by omega);have hl:=Qic ⟨n,by omega⟩;refine⟨⟨by omega,by omega⟩,Qno Qre 15 (by rw[JL,Qi8 n (by omega),Qe];exact hl) (λd hd acc N hb hN=>?_) ?_⟩
  ·obtain⟨i,hi⟩:=Jf.mp hd;obtain⟨hi,rfl⟩:=QbF hi;refine⟨⟨by omega,by omega⟩,QmW (λd=>match d with | .int c=>pairD (0+(i:Int),c) | _=>.none) ?_ (λd hd k2 hk=>?_) hN⟩
   ·have hb:acc.length+((Qed 0 (0+(i:Int)).toNat).map λd=>match d with | .int c=>pairD (0+(i:Int),c) | _=>.none).length<=15:=hb;rw[Qe] at hb;exact YH hb (by decide)
   ·obtain⟨c,hc⟩:=Jf.mp hd;obtain⟨hc,rfl⟩:=QbF hc;exact hk
  ·rw[JL,Qi8 n (by omega)];exact hR
theorem Qmx:(["row", "column"]:List Str).Nodup:=by decide +kernel
theorem Qtr:(["lot", "ahead", "thing"]:List Str).Nodup:=by decide +kernel
theorem Qhe:Jy ["n", "stand", "ahead", "lots", "thing"] ["n", "stand"] (Qt sPOf):=⟨rfl,rfl,rfl,by decide +kernel,rfl,by decide +kernel,by decide +kernel⟩
theorem QvH{f f1 f2 CS:Addr}{fd fd1 fd2:QQ}{CN:Addr}(F:Fun K "parting_of" "parting_of" sPOf f fd)(T:GlbA mg)
  (m1:mg "steps" = some (.ref f1))(G1:FnOk P w K mg base (Rx.CXE P w) 4 f1 fd1 ["n"] (Ze false (Qi9 CN)))(b1:Binds K fd1 ["n"] [])(k1:PySem.W.keepIn K (.ref f1)=true)
  (m2:mg "is_stand" = some (.ref f2))(G2:FnOk P w K mg base CX0 5 f2 fd2 ["board", "thing"] (Ze false Qlg))(b2:Binds K fd2 ["board", "thing"] [])(k2:PySem.W.keepIn K (.ref f2)=true)
  (mCS:mg "NoStand" = some (.ref CS))(qCS:PySem.W.excIn K CS Rx.mroV "ValueError.__new__" = true) :
  FnOk P w K mg base (Rx.CXE P w) 6 f fd ["n", "stand"] (Ze false (Qw3 CN CS)):=by
 refine QvN false F Qhe (λargs R EX h=>?_) (λcdv A outer s H E hr=>?_)
 ·obtain⟨a,d,rfl,_⟩:=h;rfl
 ·have hU:=Room.u60 hr;have hI:=Room.i60 hr;refine⟨_,QK (QaO (Yt (Yh (JE (J6 G2 (hr.mono (by decide)) (by rfl) m2 k2 b2 Zl (ZN (J6 G1 (hr.mono (by decide)) (by rfl) m1 k1 b1 (Rx.Qo6 (E:=E) (λ_ _ h=>h) rfl rfl rfl) (ZN (qv 0) JD)) (ZN (qv 1) JD)))))) (Q7 (Qgc (λ_ _ h=>h) mCS qCS (JE QeB))) ZS)
   (QK (Z1 2 (QsB ["row", "column"] [none,none] (Y1 (qp 1)) (λcl ex s3 H3 C=>⟨(QcX rfl (Yb 0 (Yb 1 QcY Qmx rfl (QZ rfl) (Q8 rfl)) Qmx rfl (QZ rfl) (Q8 rfl))),Zp,(qv 0),(qv 1)⟩)) Qhe.nd)
   (QK (Qdn 3 (QaE QR) Qhe.nd)
   (QK (Qu3 (Qcr Zf rfl (QaP (by rfl) T.range (qp 0)) (Zb 4 Qhe.nd rfl (by first | exact QZ rfl | exact Q8 rfl))
    (Q7 (QaO (QbR (QvC (QxF hU)) QvP (qp 4) (qp 2) (by rfl)) (Q7 (Qov ["lot", "ahead", "thing"] [none,some 2,some 4] 3 Qhe.nd (Qdo (qp 3)) (λcl ex s3 H3 C=>⟨(Zb 0 Qtr rfl (QZ rfl) (Q8 rfl)),Zp,(Qx0 (QbR Qc0 (Qgi hU) (JE (Qdq Ya Qar (qp 0) (Qx (Qgd (JE JF))) (λ_ _=>rfl))) (JE (Qdq (Qyj (QxE hU)) QvO (qp 1) (qp 2) (λ_ _=>rfl))) (Z9 _)) (Ju (ZI JW Zq (qp 0) (Qx (Yw (Zg (qv 2) QR))))) (qv 0))⟩))) (Q7 (Qrp 3 (Ju (Yw (Zg (qv 4) QR)))))))))
   (Q7 (QaN (YX Zv QaG (by rfl) T.tuple ZE (Qa3 (qp 3) QR))))))),λargs R EX h=>?_⟩
  obtain⟨a,d,rfl,hs,hN,hS,hR⟩:=h;refine⟨_,rfl,hN,λn ea n1 n6=>?_⟩;subst ea;refine⟨_,_,_,_,rfl,hs,?_⟩;show if(!QiF n n (Qfo n) d)=true then _ else _
  cases hb:QiF n n (Qfo n) d with
  |false=>exact hS n rfl n1 n6 hb
  |true=>
   obtain⟨L,rfl,hL⟩:=Qrg hb;have hR:=hR n L rfl n1 n6 rfl hb;refine Qwx toP (λd hd k hk=>?_) ?_ ?_ ?_
   ·obtain⟨p,_,rfl⟩:=Qw.mp hd;exact⟨rfl,_,rfl,_,rfl,hk⟩
   ·rw[Qbv];exact Qp3.mpr (hL.rows.imp λ{a b}(z:a.1<b.1)=>by show a.1≠b.1;omega)
   ·have:=hs _ rfl;omega
   rw[Qbv];refine⟨⟨by omega,by omega⟩,Qgy (λi δ=>∃x4,δ=[.v (.int n),.v (stT L),.v (.dict (dkD L)),.own ((ptN L i).map pLot),x4]) ⟨_,rfl⟩ ?_ ?_⟩
   ·rintro i δ hi ⟨x4,rfl⟩;rw[JL] at hi;obtain⟨pl1,pl2⟩:=Qgf L i;have ne:=Qrr L i;refine⟨L,rfl,?_⟩;show if(L.find? λp=>decide (p.1=0+(i:Int))).isSome=true then _ else _
    rw[show(0:Int)+(i:Int)=(i:Int) by omega];cases hf:L.find? λp=>decide (p.1=(i:Int)) with
    |some p=>
     refine QfI (YJ (λd=>if(lotI d).getLast? = some p.2 then pLot (lotI d++[(i:Int)]) else d) (λd hd k2 hk=>?_) ⟨.v (.int (i:Int)),?_⟩)
     ·obtain⟨l,hl,rfl⟩:=Qw.mp hd;have l1:=pl2 l hl;have hk:k2 (if(lotI (pLot l)).getLast? = some p.2 then pLot (lotI (pLot l)++[(i:Int)]) else pLot l):=hk;rw[Qbw] at hk;refine⟨_,QtA (QnV.mpr (ne l hl)),L,p.2,rfl,by rw[hf];rfl,?_⟩;show if decide (l.getLastD 0=p.2)=true then _ else _
      by_cases z:l.getLastD 0=p.2
      ·rw[if_pos ((QrK (ne l hl)).mpr z)] at hk;rw[if_pos (decide_eq_true z)];refine⟨by rw[Qe];show _+1<=_;omega,?_⟩;rw[show l.map Qp++[Qp (i:Int)]=(l++[(i:Int)]).map Qp by rw[Q1];rfl];exact hk
      ·rw[if_neg (λe=>z ((QrK (ne l hl)).mp e))] at hk;rw[if_neg (by simpa using z)];exact hk
     ·rw[Qoz hf];rfl
    |none=>
     refine QhY ⟨by rw[Qe];omega,.v (.int (i:Int)),?_⟩;have e:ptN L (i+1)=ptN L i++[[(i:Int)]]:=by
      show QnY L (ptN L i) i=_;unfold QnY;rw[hf]
     rw[e,Q1];rfl
   ·rintro δ ⟨x4,rfl⟩;rw[JL];exact hR
end
def Qw1(CN CP:Addr):DF:=λargs R EX=>∃a d,args=[.v a,.v d]/\Qaw d/\(inW a 1 6=false->EX CN)/\(∀n:Int,a=.int n->1<=n->n<=6->Qbb n d=false->EX CP)/\∀(n:Int) L,a=.int n->1<=n->n<=6->d=QhX L->Qbb n d=true->∀es:List Qa,es.Perm ((QdE L).map pairD)->es.Pairwise (λa b=>ltD b a=false)->R (.tuple es)
def Qtv:DF:=λargs R _=>∃L,args=[.v (QhX L)]/\L.length<=9/\(∀l∈L,l.length<=20)/\∀es:List Qa,es.Perm ((QdE L).map pairD)->es.Pairwise (λa b=>ltD b a=false)->R (.tuple es)
def Qtx:DF:=λargs R _=>∃(n:Nat)(L:List (Int×Int)),args=[.v (.int n),.v (stT L)]/\n<=6/\L.length<=9/\∀es:List Qa,es.Perm ((Qyh n L).map pLot)->es.Pairwise (λa b=>ltD b a=false)->R (.tuple es)
def Qtu:DF:=λargs R _=>∃n:Nat,args=[.v (.int n)]/\n<=6/\R (Qrf n)
def Qgr:DF:=λargs R _=>∃(n:Int)(L:List (Int×Int)),args=[.pot,.v (.int n),.v (stT L)]/\1<=n/\n<=6/\L.length<=6/\∀d,Qaw d->R d
theorem QrA{n:Int}{d:Qa}(h:Qbb n d=true)(hs:Qaw d)(n0:0<=n)(n6:n<=6):∃L,d=QhX L/\L.length<=9/\∀l∈L,l.length<=20:=by
 cases d<;>first | (cases h;done) | skip
 rename_i ls
 have h:=(Qo.mp (show(ls.all (QbW n)&&_)=true from h)).1;have h9:=(hs ls rfl).1;have hl:=λd hd=>Qkr (Q4.mp h d hd) n0
 refine⟨ls.map lotI,?_,by rw[Qe];exact h9,λl hl'=>?_⟩
 ·show Qay ls=.tuple ((ls.map lotI).map pLot);rw[Jj]
  congr 1
  conv=>lhs;rw[<- Qbp ls]
  refine Yk λd hd=>?_
  obtain⟨i,ns,e,_,e2,_⟩:=hl d hd;show d=pLot (lotI d);rw[e2,e];rfl
 ·obtain⟨d,hd,rfl⟩:=Qw.mp hl';obtain⟨i,ns,e,h1,e2,_⟩:=hl d hd;rw[e2];omega
theorem Qek{L:List (List Int)}(h9:L.length<=9)(h:∀l∈L,l.length<=20):(QdE L).length<=180:=by
 have:∀M:List (List Int),(∀l∈M,l.length<=20)->(QdE M).length<=20*M.length:=by
  intro M;induction M with
  |nil=>intro _;exact Qk _
  |cons l M ih=>
   intro h;have h1:=h l (.head _);have h2:=ih λl hl=>h l (.tail _ hl)
   have h3:=Qc6 l;unfold QdE at h2 ⊢;rw[Zy,Qd,QC];omega
 have:=this L h;omega
def QyJ(d:Qa):List Qa:=(QfY (Qfd d) (Dl.cutD (Qfd d) (some 1) none)).map Qug
theorem Qjc(L:List (List Int)):(L.map pLot).flatMap QyJ=(QdE L).map pairD:=by
 unfold QdE;induction L with
 |nil=>rfl
 |cons l L ih=>
  rw[Jh,Zy,ih,Zy,Q1]
  congr 1
  exact Qi1 l
theorem Qlk(L:List (List Int)):QbN (L.map pLot):=⟨λx hx y hy=>by
  obtain⟨a,_,rfl⟩:=Qw.mp hx;obtain⟨b,_,rfl⟩:=Qw.mp hy;exact cmpKs_int a b,λx hx=>by
  obtain⟨a,_,rfl⟩:=Qw.mp hx;show QV (a.map Qp)+1<=20;have:=QcA (n:=0) (ds:=a.map Qp) λd hd=>by obtain⟨p,_,rfl⟩:=Qw.mp hd;exact Qk _
  omega⟩
where
 cmpKs_int:∀a b:List Int,Qc5 (a.map Qp) (b.map Qp)=true
  |[],[]=>rfl
  |[],_::_=>rfl
  |_::_,[]=>rfl
  |x::a,y::b=>by show(true&&Qc5 (a.map Qp) (b.map Qp))=true;rw[cmpKs_int a b];rfl
theorem Qmy(L:List (List Int)):nds (L.map pLot)=true:=QbH.mpr λd hd=>by
 obtain⟨l,_,rfl⟩:=Qw.mp hd;exact Qcj l
theorem Qnc(l:List Int):(pLot l).depth<=50:=by
 show QV (l.map Qp)+1<=50;have:=QcA (n:=0) (ds:=l.map Qp) λd hd=>by obtain⟨p,_,rfl⟩:=Qw.mp hd;exact Qk _
 omega
theorem fm_lots(p:List Int->Bool):∀L:List (List Int),(L.map pLot).filterMap (λd=>if p (lotI d)=true then some d else none)=(L.filter p).map pLot
 |[]=>rfl
 |x::r=>by
  rw[Jh,Ym,Qbw,fm_lots p r];cases h:p x with
  |true=>rw[Qcc h];rfl
  |false=>rw[Qcd (by rw[h];exact QF)];rfl
theorem Qoi{ms ns:List Int}(p:ms.Perm ns)(w:ms.Pairwise (·<=·)):ms=srtS ns:=Qbt (le:=λa b=>a<=b) (λa b _ _ h1 h2=>Quu h1 h2) w (Qlh _) (p.trans (Qex _).symm)
theorem Qnn(xs:List Qa):(Dl.cutD xs (some (-1)) none).length<=1:=by
 unfold Dl.cutD;rw[Jo,Zn];have h2:xs.length - 1<=HT.sIx xs.length 0 (some (-1)):=by
  show xs.length - 1<=(if(-1:Int)<0 then((-1:Int)+(xs.length:Int)).toNat else min (-1:Int).toNat xs.length);rw[if_pos (by decide)];omega
 omega
theorem Qwc(q:List Int->Bool)(L:List (List Int)):L.filter (λl => !decide (l∈L.filter q))=L.filter λl => !q l:=by
 refine List.filter_congr λl hl=>?_
 rw[show decide (l∈L.filter q)=q l from by
  rw[ZW,decide_eq_true_iff,Qbo];exact⟨λh=>h.2,λh=>⟨hl,h⟩⟩]
section
variable{P:QB}{w:Jl}{K:PySem.W.Frag}{mg:Str->Option Value}{base:Za}
theorem Qit:(["lot", "ahead", "thing"]:List Str).Nodup:=by decide +kernel
theorem Qrj:Jy ["n", "parting", "cells"] ["n", "parting"] (Qt sSOf):=⟨rfl,rfl,rfl,by decide +kernel,rfl,by decide +kernel,by decide +kernel⟩
theorem QvF{f f1 CP:Addr}{fd fd1:QQ}{CN:Addr}(F:Fun K "stand_of" "stand_of" sSOf f fd)(T:GlbA mg)
  (m1:mg "is_parting" = some (.ref f1))(G1:FnOk P w K mg base (Rx.CXE P w) 5 f1 fd1 ["n", "thing"] (Ze false (Qs5 CN)))(b1:Binds K fd1 ["n", "thing"] [])(k1:PySem.W.keepIn K (.ref f1)=true)
  (mCP:mg "NoParting" = some (.ref CP))(qCP:PySem.W.excIn K CP Rx.mroV "ValueError.__new__" = true) :
  FnOk P w K mg base (Rx.CXE P w) 6 f fd ["n", "parting"] (Ze false (Qw1 CN CP)):=by
 refine QvN false F Qrj (λargs R EX h=>?_) (λcdv A outer s H E hr=>?_)
 ·obtain⟨a,d,rfl,_⟩:=h;rfl
 ·have hU:=Room.u60 hr;have hI:=Room.i60 hr;refine⟨_,QK (QaO (Yt (Yh (JE (J6 G1 (hr.mono (by decide)) (by rfl) m1 k1 b1 (Rx.Qo6 (E:=E) (λ_ _ h=>h) rfl rfl rfl) (ZN (qv 0) (ZN (qv 1) JD)))))) (Q7 (Qgc (λ_ _ h=>h) mCP qCP (JE QeB))) ZS)
   (QK (Qow ["lot", "ahead", "thing"] [none,none,none] 2 Qrj.nd (Qgx 0) (Y1 (qp 1)) (λcl ex s3 H3 C=>⟨(Zb 0 Qit rfl (QZ rfl) (Q8 rfl)),Zp,(QlJ (by rfl) T.zip (qv 0) (Ju (Yx (qp 0) (Yu (JE JF)) Yv))),(QcX rfl (Yb 1 (Yb 2 QcY Qit rfl (QZ rfl) (Q8 rfl)) Qit rfl (QZ rfl) (Q8 rfl))),Zp,(Ju (Yw (Zg (qv 2) (Zg (qv 1) QR))))⟩))
   (Q7 (QaN (YX Zv QaG (by rfl) T.tuple ZE (Qa3 (Qx (Zc (Qcm hU) Qel (by rfl) T.sorted QaU (Qa3 (qp 2) QR))) QR))))),λargs R EX h=>?_⟩
  obtain⟨a,d,rfl,hs,hN,hP,hR⟩:=h;refine⟨_,_,rfl,hs,hN,λn ea n1 n6=>?_⟩;subst ea;show if(!Qbb n d)=true then _ else _
  cases hb:Qbb n d with
  |false=>exact hP n rfl n1 n6 hb
  |true=>
   obtain⟨L,rfl,h9,h20⟩:=QrA hb hs (by omega) n6;have hR:=hR n L rfl n1 n6 rfl hb;have hc:=Qek h9 h20;refine Qno QyJ 180 (by rw[Qjc,Qe];exact hc) (λd hd acc N hb hN=>?_) ?_
   ·obtain⟨l,hl,rfl⟩:=Qw.mp hd;refine QmW Qug ?_ (λd hd k2 hk=>?_) hN
    ·have hb:acc.length+((QfY (Qfd (pLot l)) (Dl.cutD (Qfd (pLot l)) (some 1) none)).map Qug).length<=180:=hb;rw[Qe] at hb;exact YH hb (by decide)
    ·obtain⟨i,hi⟩:=Jf.mp hd;obtain⟨a,b,ha,hb,rfl⟩:=Dl.zip_get hi;exact⟨rfl,hk⟩
   ·rw[Qjc];exact(Qeb (Qbh _) λes pm pw=>hR es pm pw).1
theorem Qpo:(["_law_k", "_law_lot"]:List Str).Nodup:=by decide +kernel
theorem Qif:Jy ["_law_parting_here", "_law_found", "_law_lot"] ["_law_parting_here"] (Qt QfE):=⟨rfl,rfl,rfl,by decide +kernel,rfl,by decide +kernel,by decide +kernel⟩
theorem Qth{f   : Addr}{fd  : QQ}(F:Fun K "_law_stand" "_law_stand" QfE f fd)(T:GlbA mg) :
  FnOk P w K mg base CX0 1 f fd ["_law_parting_here"] (Ze false Qtv):=by
 refine okQ false F Qif (λargs R EX h=>?_) (λcdv A outer s H E hr=>?_)
 ·obtain⟨L,rfl,_⟩:=h;rfl
 ·have hU:=Room.u60 hr;have hI:=Room.i60 hr;refine⟨_,QK (Qdn 1 (QaE QR) Qif.nd)
   (QK (Qcr Zf rfl (Y1 (qv 0)) (Zb 2 Qif.nd rfl (by first | exact QZ rfl | exact Q8 rfl))
    (Q7 (Qro 1 (Qx (Qai ["_law_k", "_law_lot"] [none,some 2] (QaP (by rfl) T.range (Qx (ZI QcZ QdO (Qx (Zc Z6 Qby (by rfl) T.len Qaj (Qa3 (qp 2) QR))) (JE JF)))) (λcl ex s3 H3 C=>⟨(Zb 0 Qpo rfl (QZ rfl) (Q8 rfl)),Zp,(Ju (Yw (Zg (Qdq Ya Qar (qp 1) (Qx (ZI JW Zq (qp 0) (JE JF))) (λ_ _=>rfl)) (Zg (Qdq Ya Qar (qp 1) (qp 0) (λ_ _=>rfl)) QR))))⟩))))))
   (Q7 (QaN (YX Zv QaG (by rfl) T.tuple ZE (Qa3 (Qx (Zc (Qcm hU) Qel (by rfl) T.sorted QaU (Qa3 (qp 1) QR))) QR))))),λargs R EX h=>?_⟩
  obtain⟨L,rfl,h9,h20,hR⟩:=h;have hc:=Qek h9 h20;refine Qbx (λi δ=>∃x2,δ=[.v (QhX L),.own ((QdE (L.take i)).map pairD),x2]) ⟨_,rfl⟩ ?_ ?_
  ·rintro i d δ hd ⟨x2,rfl⟩;rw[Q5] at hd;obtain⟨l,hl,rfl⟩:∃l,L[i]? = some l/\d=pLot l:=by
    cases z:L[i]? with
    |none=>rw[z] at hd;cases hd
    |some r=>rw[z] at hd;cases hd;exact⟨r,rfl,rfl⟩
   have l20:=h20 l (QM hl);have ll:(l.map Qp).length=l.length:=Qe _;have ht:=Qek (L:=L.take i) (by rw[Jo];omega) λl hl=>h20 l (Qdd hl)
   refine⟨⟨by omega,by omega⟩,YJ (QwB l) (λd hd k2 hk=>?_) ?_⟩
   ·obtain⟨k,hk'⟩:=Jf.mp hd;obtain⟨hlt,rfl⟩:=QbF hk';have hk:k2 (pairD (l.getD ((0+(k:Int)).toNat+1) 0,l.getD (0+(k:Int)).toNat 0)):=hk;rw[show(0+(k:Int)).toNat=k by omega] at hk;have go:∀(i:Int)(k:Nat),i=k->k<l.length->atI (l.map Qp) i=some (.int (l.getD k 0)):=λi k e hk=>by rw[e];exact QaV (by rw[Q5,Ql hk,Zs,Ql hk];rfl)
    exact⟨_,go _ (k+1) (by omega) (by omega),_,go _ k (by omega) (by omega),hk⟩
   ·rw[Qor];have cl:=Qc6 l;refine⟨by rw[Qe,Qe];omega,.v (pLot l),?_⟩;rw[JV,hl];show _=[Sl.v (QhX L),.own ((QdE (L.take i++[l])).map pairD),_];unfold QdE;rw[ZV,Q1,Zy,Qr9,Ji];rfl
  ·rintro δ ⟨x2,rfl⟩;rw[Qe,J5];exact(Qeb (Qbh _) λes pm pw=>hR es pm pw).1
theorem QmB:(["_law_thing"]:List Str).Nodup:=by decide +kernel
theorem QmA:(["_law_lot", "_law_column", "_law_row"]:List Str).Nodup:=by decide +kernel
theorem Qmz:(["_law_lot", "_law_near"]:List Str).Nodup:=by decide +kernel
theorem Qa8:Jy ["_law_n", "_law_stand_here", "_law_lots_here", "_law_row", "_law_column", "_law_near", "_law_wide", "_law_lot"] ["_law_n", "_law_stand_here"] (Qt Qkw):=⟨rfl,rfl,rfl,by decide +kernel,rfl,by decide +kernel,by decide +kernel⟩
theorem Qpf{f   : Addr}{fd  : QQ}(F:Fun K "_law_lots" "_law_lots" Qkw f fd)(T:GlbA mg) :
  FnOk P w K mg base CX0 1 f fd ["_law_n", "_law_stand_here"] (Ze false Qtx):=by
 refine okQ false F Qa8 (λargs R EX h=>?_) (λcdv A outer s H E hr=>?_)
 ·obtain⟨n,L,rfl,_⟩:=h;rfl
 ·have hU:=Room.u60 hr;have hI:=Room.i60 hr;refine⟨_,QK (Qij ["_law_thing"] [none] 2 Qa8.nd (QaP (by rfl) T.range (qp 0)) (λcl ex s3 H3 C=>⟨(Zb 0 QmB rfl (QZ rfl) (Q8 rfl)),Zp,(Ju (Yw (Zg (qv 0) QR)))⟩))
   (QK (Qcr Zf rfl (Y1 (qv 1)) (QcX rfl (Yb 3 (Yb 4 QcY Qa8.nd rfl (by first | exact QZ rfl | exact Q8 rfl)) Qa8.nd rfl (by first | exact QZ rfl | exact Q8 rfl)))
    (QK (Z1 5 (Ju (Qai ["_law_lot", "_law_column", "_law_row"] [none,some 4,some 3] (Qdo (qp 2)) (λcl ex s3 H3 C=>⟨(Zb 0 QmA rfl (QZ rfl) (Q8 rfl)),(QlG (QsA (Qfb (QbR Qju (Qmr hI) (qp 2) (qp 0) (by rfl)) (QeA (QbR Qju (Qmr hI) (qp 1) (qp 0) (by rfl)))))),(qv 0)⟩))) Qa8.nd)
   (QK (Qdn 6 (QaE QR) Qa8.nd)
   (QK (Qcr Zf rfl (Qdo (qv 5)) (Zb 7 Qa8.nd rfl (by first | exact QZ rfl | exact Q8 rfl))
    (Q7 (QlH 6 (qp 7))))
   (Q7 (Z1 2 (Ju (ZI JW Zq (Qx (Qai ["_law_lot", "_law_near"] [none,some 5] (Qdo (qp 2)) (λcl ex s3 H3 C=>⟨(Zb 0 Qmz rfl (QZ rfl) (Q8 rfl)),(QlG (QbR Qmb (Qmr hI) (qp 0) (qp 1) (by rfl))),(qv 0)⟩))) (Qx (QaE (Zg (Ju (YX Zv QaG (by rfl) T.tuple ZE (Qa3 (Qx (Zc QdF QiP (by rfl) T.sorted QaU (Qa3 (qp 6) QR))) QR))) QR))))) Qa8.nd))))))
   (Q7 (QaN (YX Zv QaG (by rfl) T.tuple ZE (Qa3 (Qx (Zc (Qcm hU) Qel (by rfl) T.sorted QaU (Qa3 (qp 2) QR))) QR))))),λargs R EX h=>?_⟩
  obtain⟨n,L,rfl,n6,l9,hR⟩:=h;obtain⟨o1,o2⟩:=Qpa n;refine⟨⟨by omega,by omega⟩,?_⟩;refine YJ (λd=>.tuple [d]) (λd hd k2 hk=>hk) ?_
  have e0:(Qed 0 ((n:Int)).toNat).map (λd=>Qay [d])=(one0 n).map pLot:=by
   unfold Qed one0;rw[Jj,Jj,JL];refine Yk λk _=>?_
   show Qay [.int (0+(k:Int))]=.tuple [.int k];rw[show(0:Int)+(k:Int)=(k:Int) by omega]
  rw[e0];refine Qbx (λi δ=>∃x3 x4 x5 x6 x7,δ=[.v (.int n),.v (stT L),.v (.list (((L.take i).foldl lotGo (one0 n)).map pLot)),x3,x4,x5,x6,x7]) ⟨_,_,_,_,_,rfl⟩ ?_ ?_
  ·rintro i d δ hd ⟨x3,x4,x5,x6,x7,rfl⟩;rw[Q5] at hd;obtain⟨p,hp,rfl⟩:∃p,L[i]? = some p/\d=pairD p:=by
    cases z:L[i]? with
    |none=>rw[z] at hd;cases hd
    |some r=>rw[z] at hd;cases hd;exact⟨r,rfl,rfl⟩
   obtain⟨b1,b2⟩:=Qtw (L.take i) (one0 n);have e1:(L.take (i+1)).foldl lotGo (one0 n)=lotGo ((L.take i).foldl lotGo (one0 n)) p:=by rw[JV,hp,List.foldl_append];rfl
   rw[e1];have lt:(L.take i).length<=9:=by rw[Jo];omega
   generalize (L.take i).foldl lotGo (one0 n)=lots at b1 b2 ⊢;refine⟨rfl,?_⟩;refine Qwy (λd=>if(λl:List Int=>decide (p.1∈l)||decide (p.2∈l)) (lotI d)=true then some d else none) (λd hd k1 k2 h1 h2=>?_) ?_
   ·obtain⟨l,_,rfl⟩:=Qw.mp hd;rw[Qbw] at h1 h2;have h1:(if(decide (p.1∈l)||decide (p.2∈l))=true then some (pLot l) else none)=none->k1:=h1;have h2:∀e,(if(decide (p.1∈l)||decide (p.2∈l))=true then some (pLot l) else none)=some e->k2 e:=h2
    refine⟨⟨Qcj l,rfl,Qv 50⟩,?_⟩;show if((l.map Qp).any λe=>Ja e (.int p.1))=true then _ else _
    rw[QnH];cases z1:decide (p.1∈l) with
    |true=>rw[z1] at h2;exact h2 _ rfl
    |false=>
     rw[z1,QwY] at h1 h2;refine QhY ⟨⟨Qcj l,rfl,Qv 50⟩,?_⟩;show if((l.map Qp).any λe=>Ja e (.int p.2))=true then _ else _
     rw[QnH];cases z2:decide (p.2∈l) with
     |true=>rw[z2] at h2;exact h2 _ rfl
     |false=>rw[z2] at h1;exact h1 rfl
   ·rw[fm_lots λl:List Int=>decide (p.1∈l)||decide (p.2∈l)];have fp:=QeS (λl:List Int=>decide (p.1∈l)||decide (p.2∈l)) lots;have lg:lotGo lots p=lots.filter (λl => !(decide (p.1∈l)||decide (p.2∈l)))++[srtS (lots.filter λl=>decide (p.1∈l)||decide (p.2∈l)).flatten]:=rfl;have fi:=Qwc (λl:List Int=>decide (p.1∈l)||decide (p.2∈l)) lots;rw[lg,<- fi];have fl:(lots.filter λl => !decide (l∈lots.filter λl:List Int=>decide (p.1∈l)||decide (p.2∈l))).length<=lots.length:=QcL _ _;have nl:(lots.filter λl:List Int=>decide (p.1∈l)||decide (p.2∈l)).length<=lots.length:=QcL _ _;generalize (lots.filter λl:List Int=>decide (p.1∈l)||decide (p.2∈l))=near at *;refine Qbx (λj δ=>∃x7,δ=[.v (.int n),.v (stT L),.v (.list (lots.map pLot)),.v (.int p.1),.v (.int p.2),.v (.list (near.map pLot)),.own (((near.take j).flatten).map Qp),x7]) ⟨_,rfl⟩ ?_ ?_
    ·rintro j d δ hd ⟨x7,rfl⟩;rw[Q5] at hd;obtain⟨l,hl,rfl⟩:∃l,near[j]? = some l/\d=pLot l:=by
      cases z:near[j]? with
      |none=>rw[z] at hd;cases hd
      |some r=>rw[z] at hd;cases hd;exact⟨r,rfl,rfl⟩
     have q1:(near.take j).flatten.length+l.length<=near.flatten.length:=by
      have:(near.take (j+1)).flatten.length<=near.flatten.length:=by
       conv=>rhs;rw[<- Jw (j+1) near]
       rw[Yl,Qd];omega
      rw[JV,hl,Yl,Qd] at this;have e:((some l).toList).flatten=l:=by simp
      rw[e] at this;exact this
     refine⟨by rw[Qe,Qe];omega,.v (pLot l),?_⟩;rw[JV,hl,Yl,Q1];show _=[_,_,_,_,_,_,Sl.own ((near.take j).flatten.map Qp++([l].flatten).map Qp),_];rw[show[l].flatten=l by simp];rfl
    ·rintro δ ⟨x7,rfl⟩;rw[Qe,J5];refine Qwy (λd=>if(λl:List Int => !decide (l∈near)) (lotI d)=true then some d else none) (λd hd k1 k2 h1 h2=>?_) ?_
     ·obtain⟨l,_,rfl⟩:=Qw.mp hd;rw[Qbw] at h1 h2;refine⟨⟨Qmy near,Qcj l,Qnc l⟩,?_⟩;show if(!((near.map pLot).any λe=>Ja e (pLot l)))=true then _ else _
      rw[Qt6];cases z:(!decide (l∈near)) with
      |true=>exact h2 _ (by show(if(!decide (l∈near))=true then some (pLot l) else none)=_;rw[z];rfl)
      |false=>exact h1 (by show(if(!decide (l∈near))=true then some (pLot l) else none)=_;rw[z];rfl)
     ·rw[fm_lots λl:List Int => !decide (l∈near)];refine(Qie (ds:=near.flatten.map Qp) (ns:=near.flatten) (QaK _) (by omega) λms pm pw=>?_).1;rw[Qoi pm pw];refine⟨by rw[Qe];show _+1<=_;omega,.v (.int p.1),.v (.int p.2),.v (.list (near.map pLot)),.own (near.flatten.map Qp),x7,?_⟩;rw[Q1];rfl
  ·rintro δ ⟨x3,x4,x5,x6,x7,rfl⟩;rw[Qe,J5];exact(Qeb (Qlk _) λes pm pw=>hR es pm pw).1
theorem Qkm:(["_law_column", "_law_row"]:List Str).Nodup:=by decide +kernel
theorem Qez:Jy ["_law_n", "_law_cells", "_law_row"] ["_law_n"] (Qt QfD):=⟨rfl,rfl,rfl,by decide +kernel,rfl,by decide +kernel,by decide +kernel⟩
theorem Qmm{f   : Addr}{fd  : QQ}(F:Fun K "_law_steps" "_law_steps" QfD f fd)(T:GlbA mg) :
  FnOk P w K mg base CX0 1 f fd ["_law_n"] (Ze false Qtu):=by
 refine okQ false F Qez (λargs R EX h=>?_) (λcdv A outer s H E hr=>?_)
 ·obtain⟨n,rfl,_⟩:=h;rfl
 ·have hU:=Room.u60 hr;have hI:=Room.i60 hr;refine⟨_,QK (Qdn 1 (QaE QR) Qez.nd)
   (QK (Qcr Zf rfl (QaP (by rfl) T.range (qp 0)) (Zb 2 Qez.nd rfl (by first | exact QZ rfl | exact Q8 rfl))
    (Q7 (Qro 1 (Qx (Qai ["_law_column", "_law_row"] [none,some 2] (QaP (by rfl) T.range (qp 2)) (λcl ex s3 H3 C=>⟨(Zb 0 Qkm rfl (QZ rfl) (Q8 rfl)),Zp,(Ju (Yw (Zg (qv 1) (Zg (qv 0) QR))))⟩))))))
   (Q7 (QaN (Yw (Zg (qv 0) (Zg (qv 0) (Zg (Ju (YX Zv QaG (by rfl) T.tuple ZE (Qa3 (qp 1) QR))) QR))))))),λargs R EX h=>?_⟩
  obtain⟨n,rfl,n6,hR⟩:=h;have hl:∀i,i<=n->(((Qed 0 i).flatMap Qre)).length<=15:=λi hi=>by rw[Qi8 i (by omega),Qe];exact Qic ⟨i,by omega⟩
  refine⟨⟨by omega,by omega⟩,Qgy (λi δ=>∃x2,δ=[.v (.int n),.own ((Qed 0 i).flatMap Qre),x2]) ⟨_,rfl⟩ ?_ ?_⟩
  ·rintro i δ hi ⟨x2,rfl⟩;rw[JL] at hi;refine⟨⟨by omega,by omega⟩,YJ (λd=>match d with | .int c=>pairD (0+(i:Int),c) | _=>.none) (λd hd k2 hk=>?_) ?_⟩
   ·obtain⟨c,hc⟩:=Jf.mp hd;obtain⟨hc,rfl⟩:=QbF hc;exact hk
   ·have e:(Qed 0 (i+1)).flatMap Qre=(Qed 0 i).flatMap Qre++Qre (.int (0+(i:Int))):=by
     unfold Qed;rw[QgM,Q1,ZV];simp
    have h1:=hl i (by omega);have h2:=hl (i+1) (by omega);rw[e,Qd] at h2;have h3:(Qre (.int (0+(i:Int)))).length=((Qed 0 (0+(i:Int)).toNat).map λd=>match d with | .int c=>pairD (0+(i:Int),c) | _=>.none).length:=rfl;refine⟨by omega,.v (.int (0+(i:Int))),?_⟩;rw[e];rfl
  ·rintro δ ⟨x2,rfl⟩;rw[JL,Qi8 n n6];exact hR
theorem QcV:Jy ["_law_pot_here", "_law_n", "_law_stand_here", "_law_at", "_law_place", "_law_some"] ["_law_pot_here", "_law_n", "_law_stand_here"] (Qt Qky):=⟨rfl,rfl,rfl,by decide +kernel,rfl,by decide +kernel,by decide +kernel⟩
theorem Qph{f f1 f2  : Addr}{fd fd1 fd2:QQ}(F:Fun K "_law_bent" "_law_bent" Qky f fd)(T:GlbA mg)
  (m1:mg "_law_take" = some (.ref f1))(G1:FnOk P w K mg base CX0 1 f1 fd1 ["_law_pot_here", "_law_far"] (Ze true Qg4))(b1:Binds K fd1 ["_law_pot_here", "_law_far"] [])(k1:PySem.W.keepIn K (.ref f1)=true)
  (m2:mg "_law_odd" = some (.ref f2))(G2:FnOk P w K mg base CX0 2 f2 fd2 ["_law_pot_here"] (Ze false Qw5))(b2:Binds K fd2 ["_law_pot_here"] [])(k2:PySem.W.keepIn K (.ref f2)=true) :
  FnOk P w K mg base CX0 3 f fd ["_law_pot_here", "_law_n", "_law_stand_here"] (Ze false Qgr):=by
 refine okQ false F QcV (λargs R EX h=>?_) (λcdv A outer s H E hr=>?_)
 ·obtain⟨n,L,rfl,_⟩:=h;rfl
 ·have hU:=Room.u60 hr;have hI:=Room.i60 hr;refine⟨_,QK (Z1 3 (Ju (Qaa G1 (hr.mono (by decide)) (by rfl) m1 k1 b1 Zl (Y0 0 (ZN (Ju (ZI JW Zq (Qx (Zc Z6 Qby (by rfl) T.len Qaj (Qa3 (qp 2) QR))) (JE JF))) JD)))) QcV.nd)
   (QK (Z1 4 (Ju (Yw (Zg (Ju (Qaa G1 (hr.mono (by decide)) (by rfl) m1 k1 b1 Zl (Y0 0 (ZN (qv 1) JD)))) (Zg (Ju (Qaa G1 (hr.mono (by decide)) (by rfl) m1 k1 b1 Zl (Y0 0 (ZN (qv 1) JD)))) QR)))) QcV.nd)
   (QK (Z1 5 (Ju (QaE (Zg (Ju (ZI JW Zq (Qx (Yx (qp 2) Yv (Yu (qp 3)))) (Qx (Yx (qp 2) (Yu (Qx (ZI JW Zq (qp 3) (JE JF)))) Yv)))) (Zg (Ju (YX Zv QaG (by rfl) T.tuple ZE (Qa3 (Qx (Zc (Qcm hU) Qel (by rfl) T.sorted QaU (Qa3 (Qx (ZI JW Zq (qp 2) (Qx (Yw (Zg (qv 4) QR))))) QR))) QR))) (Zg (Ju (ZI JW Zq (qp 2) (Qx (Yw (Zg (qv 4) QR))))) (Zg (Ju (ZI JW Zq (qp 2) (Qx (Yx (qp 2) (Yu (Qx (Qgd (JE JF)))) Yv)))) QR)))))) QcV.nd)
   (QK (Z1 5 (Ju (ZI JW Zq (qp 5) (Qx (QaE (Zg (Ju (YX QbM QiQ (by rfl) T.list QcD (Qa3 (qp 2) QR))) (Zg (Ju (Qsz (qp 2) (Qx (Qgd (JE JF))))) (Zg (Ju (ZI JW Zq (Qx (ZI JW Zq (Qx (Yx (qp 2) Yv (Yu (qp 3)))) (Qx (Yw (Zg (Ju (Yw (Zg (Qdq Ya Qar (qp 4) (JE JF) (λ_ _=>rfl)) (Zg QeC QR)))) QR))))) (Qx (Yx (qp 2) (Yu (qp 3)) Yv)))) (Zg (Ju (Yw (Zg (qv 2) QR))) QR)))))))) QcV.nd)
   (Q7 (ZK (Qdq Ya Qar (Qx (ZI JW Zq (qp 5) (Qx (QaE (Zg (J6 G2 (hr.mono (by decide)) (by rfl) m2 k2 b2 Zl (Y0 0 JD)) QR))))) (Qx (Qaa G1 (hr.mono (by decide)) (by rfl) m1 k1 b1 Zl (Y0 0 (ZN JF JD)))) (λ_ _=>rfl))))))),λargs R EX h=>?_⟩
  obtain⟨n,L,rfl,n1,n6,l6,hR⟩:=h;have lm:(L.map pairD).length=L.length:=Qe _;have pg:∀d∈L.map pairD,good d:=λd hd=>by obtain⟨p,_,rfl⟩:=Qw.mp hd;exact⟨rfl,rfl⟩
  refine⟨_,rfl,by omega,by omega,λr1 r10 r11=>⟨_,rfl,by omega,by omega,λra ra0 ra1=>⟨_,rfl,by omega,by omega,λrb rb0 rb1=>?_⟩⟩⟩;obtain⟨at_,rfl⟩:∃k:Nat,r1=k:=⟨r1.toNat,by omega⟩
  have c1:(Dl.cutD (L.map pairD) none (some (at_:Int))).length=at_:=by rw[QjP _ _ (by omega),Jo];omega
  have c2:(Dl.cutD (L.map pairD) (some ((at_:Int)+1)) none).length=L.length - (at_+1):=by rw[show Dl.cutD (L.map pairD) (some ((at_:Int)+1)) none=(L.map pairD).drop (at_+1) from QgC _ (at_+1),Zn,lm]
  have c3:=Qnn (L.map pairD);have c4:(Dl.cutD (L.map pairD) (some (at_:Int)) none).length=L.length - at_:=by rw[QgC,Zn,lm]
  have g1:∀d∈Dl.cutD (L.map pairD) none (some (at_:Int)),good d:=λd hd=>pg d (Qam hd)
  have g2:∀d∈Dl.cutD (L.map pairD) (some ((at_:Int)+1)) none,good d:=λd hd=>pg d (Qam hd)
  have g3:∀d∈Dl.cutD (L.map pairD) (some (-1)) none,good d:=λd hd=>pg d (Qam hd)
  have g4:∀d∈Dl.cutD (L.map pairD) (some (at_:Int)) none,good d:=λd hd=>pg d (Qam hd)
  have ga:∀{a b:List Qa},(∀d∈a,good d)->(∀d∈b,good d)->∀d∈a++b,good d:=λ{a b} ha hb d hd=>(JB.mp hd).elim (ha d) (hb d)
  have go1:∀{b:Qa},good b->∀d∈[b],good d:=λ{b} hb d hd=>by rw[Jz.mp hd];exact hb
  refine⟨by omega,by show _+1<=_;omega,?_⟩;refine(Qeb (ds:=L.map pairD++[pairD (ra,rb)]) (by have:=Qbh (L++[(ra,rb)]);rw[Q1] at this;exact this) λes pm pw=>?_).2;have ge:∀d∈es,good d:=λd hd=>ga pg (go1 (b:=pairD (ra,rb)) ⟨rfl,rfl⟩) d (pm.mem_iff.mp hd)
  have le:es.length=L.length+1:=by rw[pm.length_eq,Qd,lm];rfl
  refine⟨by show _+1<=_;omega,by omega,rfl,?_⟩;refine⟨_,QaV (j:=0) rfl,by show _+1<=_;omega,by rw[Qd];show _+1+_<=_;omega,by show 4+4<=_;decide,?_⟩;refine⟨rfl,λod hod=>⟨by show 8+1<=_;decide,_,rfl,by decide,by decide,λr4 r40 r41=>Qhv r40 (by show r4<9;exact r41) λd hd=>hR d ?_⟩⟩;exact QY (p:=Qaw) (Zo (by rw[Qd];omega) (ga g1 g2)) (QY (Zo (by omega) ge) (QY (Zo (by rw[Qd];show _+1<=_;omega) (ga pg (go1 ⟨rfl,rfl⟩))) (QY (Zo (by rw[Qd];omega) (ga pg g3)) (QY (Z2 rfl) (QY (Zo (by rw[ZU];omega) λd hd=>pg d (Qfj.mp hd)) (QY (Zo (by rw[Qd,Qd];show _+1+_<=_;omega) (ga (ga g1 (go1 ⟨rfl,rfl⟩)) g4)) (QY (Zo (by show 1<=9;decide) (go1 (QbJ (by omega) λd hd=>(pg d hd).1))) (QY hod Qcu)))))))) d hd
end
theorem Ql7{n:Nat}{L:List (List Int)}(hp:Par n L)(hn:n<=6):Qaw (QhX L):=Zo (by rw[Qe];have:=hp.2.2;omega) λd hd=>by obtain⟨_,_,_,_,g⟩:=Qin hp hn hd;exact g
def Qsg:DF:=λargs R _=>∃(way:Int)(a d:Qa),args=[.v (.int way),.v a,.v d]/\Qaw d/\0<=way/\way<=2/\(inW a 1 6=false->R (.str "number")) /\
 (∀n:Nat,a=.int n->1<=n->n<=6->(way=0->R (Qrf n)) /\
  (way=1->(QiF n n (Qfo n) d=false->R (.str "stand"))/\∀L,d=stT L->QiF n n (Qfo n) d=true->R (QhX (ptN L n))) /\
  (way=2->(Qbb n d=false->R (.str "parting"))/\∀L,d=QhX L->Qbb n d=true->∀es:List Qa,es.Perm ((QdE L).map pairD)->es.Pairwise (λa b=>ltD b a=false)->R (.tuple es)))
theorem Qt8{r:Int}{m:Nat}{Q:Qa->Prop}(e:1+r=m)(h:Q (.int m)):Qw8 (.int 1) (.int r) Q:=by
 show Q (.int (1+r));rw[e];exact h
theorem Qmt{m:Nat}(m1:1<=m)(m6:m<=6)(ha:inW (.int m) 1 6=false):False:=by
 rw[Qv7 (by omega) (by omega)] at ha;cases ha
theorem Qhs{m n:Nat}(e:Qp m=.int n):m=n:=by have:=Qe1 e;omega
theorem QeH{es:List Qa}{M:List (Int×Int)}(p:es.Perm (M.map pairD)):∃S:List (Int×Int),S.Perm M/\es=S.map pairD:=QdN pairD p rfl
theorem QrI(S:List (Int×Int)):nd (stT S)=true:=QeK S
theorem QpK(n:Nat){l:List Int}(h:l.length<=1000):Qb3 (n+1) (pLot l)=true:=by
 show(decide ((l.map Qp).length<=1000)&&(l.map Qp).all (Qb3 n))=true;rw[Qe,decide_eq_true h,YV];exact Q4.mpr λd hd=>by obtain⟨i,_,rfl⟩:=Qw.mp hd;cases n<;>rfl
theorem QpJ(n:Nat){L:List (List Int)}(h:L.length<=1000)(hl:∀l∈L,l.length<=1000):Qb3 (n+2) (QhX L)=true:=by
 show(decide ((L.map pLot).length<=1000)&&(L.map pLot).all (Qb3 (n+1)))=true;rw[Qe,decide_eq_true h,YV];exact Q4.mpr λd hd=>by obtain⟨l,hm,rfl⟩:=Qw.mp hd;exact QpK n (hl l hm)
theorem QjG(n:Nat){S:List (Int×Int)}(h:S.length<=1000):Qb3 (n+2) (stT S)=true:=by
 show(decide ((S.map pairD).length<=1000)&&(S.map pairD).all (Qb3 (n+1)))=true;rw[Qe,decide_eq_true h,YV];exact Q4.mpr λd hd=>by obtain⟨p,_,rfl⟩:=Qw.mp hd;cases n<;>rfl
theorem QpI{m:Nat}(h:m<=6):Qb3 3 (Qrf m)=true:=by
 have:=Qic ⟨m,by omega⟩;have e:Qb3 2 (stT (Qfo m))=true:=QjG 0 (Jc this (by decide));show(true&&([Qp m,.int m,stT (Qfo m)].all (Qb3 2)))=true;rw[Qa7,Qa7,Qa7,e];rfl
theorem QvQ(m:Nat):nd (Qrf m)=true:=by
 show nds [Qp m,.int m,stT (Qfo m)]=true;show(true&&(true&&(nd (stT (Qfo m))&&true)))=true;rw[QrI];rfl
theorem Qtf{S:List (Int×Int)}:∀d∈S.map pairD,okK d=true:=λd hd=>by obtain⟨p,_,rfl⟩:=Qw.mp hd;rfl
theorem Qoj{S:List (Int×Int)}(h:S.length<=9):Qaw (stT S):=Zo (by rw[Qe];exact h) λd hd=>by obtain⟨p,_,rfl⟩:=Qw.mp hd;exact⟨rfl,rfl⟩
theorem Qey{d:Qa}(h:Qaw d):Qjd d:=λds e=>by have:=(h ds e).1;omega
section
variable{P:QB}{w:Jl}{K:PySem.W.Frag}{mg:Str->Option Value}{base:Za}
theorem Qlp:Jy ["_law_way", "_law_n", "_law_thing", "_law_e"] ["_law_way", "_law_n", "_law_thing"] (Qt Qkt):=⟨rfl,rfl,rfl,by decide +kernel,rfl,by decide +kernel,by decide +kernel⟩
theorem Qtb{f f1 f2 f3  : Addr}{fd fd1 fd2 fd3:QQ}{CN CS CP:Addr}(F:Fun K "_law_told" "_law_told" Qkt f fd)(T:GlbA mg)
  (m1:mg "steps" = some (.ref f1))(G1:FnOk P w K mg base (Rx.CXE P w) 4 f1 fd1 ["n"] (Ze false (Qi9 CN)))(b1:Binds K fd1 ["n"] [])(k1:PySem.W.keepIn K (.ref f1)=true)
  (m2:mg "parting_of" = some (.ref f2))(G2:FnOk P w K mg base (Rx.CXE P w) 6 f2 fd2 ["n", "stand"] (Ze false (Qw3 CN CS)))(b2:Binds K fd2 ["n", "stand"] [])(k2:PySem.W.keepIn K (.ref f2)=true)
  (m3:mg "stand_of" = some (.ref f3))(G3:FnOk P w K mg base (Rx.CXE P w) 6 f3 fd3 ["n", "parting"] (Ze false (Qw1 CN CP)))(b3:Binds K fd3 ["n", "parting"] [])(k3:PySem.W.keepIn K (.ref f3)=true)
  {fK R:Addr} {cs:List Addr} {fdK:QQ} (mK:mg "_law_kind_of" = some (.ref fK)) (GK:Rx.FnM P w K mg base 1 fK fdK ["_law_e"] (Qjb K cs)) (bK:Binds K fdK ["_law_e"] []) (kK:PySem.W.keepIn K (.ref fK)=true) (mR:mg "RookError" = some (.ref R)) (oN:KOk K cs R CN "number") (oS:KOk K cs R CS "stand") (oP:KOk K cs R CP "parting") :
  FnOk P w K mg base CX0 7 f fd ["_law_way", "_law_n", "_law_thing"] (Ze false Qsg):=by
 refine okQ false F Qlp (λargs R EX h=>?_) (λcdv A outer s H E hr=>?_)
 ·obtain⟨way,a,d,rfl,_⟩:=h;rfl
 ·have hU:=Room.u60 hr;have hI:=Room.i60 hr;refine⟨_,Q7 (Qu1 (i:=3) (ks:=λC wd=>KOk K cs R C wd) (Qog (QxO (QbR Qc0 (Qgi hU) (qp 0) (JE JF) (Z9 _)) (Qld (Qrd (Quw G1 (hr.mono (by decide)) (by rfl) m1 k1 b1 (ZN (qv 1) JD)))) Qsk) (Qld (Qrd (Qsd (QmZ f2 (Qw3 CN CS) (by rfl) m2 (QmZ f3 (Qw1 CN CP) (by rfl) m3 Qv8)) (QY ⟨_,_,_,G2,hr.mono (by decide),k2,b2⟩ (QY ⟨_,_,_,G3,hr.mono (by decide),k3,b3⟩ Qcu)) (Qx (ZI QcZ QdO (qp 0) (JE JF))) (ZN (qv 1) (ZN (qv 2) JD)))))) Qlp.nd mR (Qsy GK (hr.mono (by decide)) mK kK bK) (λo=>handled o)),λargs R EX h=>?_⟩;obtain⟨way,a,d,rfl,hs,w0,w2,hN,hR⟩:=h;have hw:way=0∨way=1∨way=2:=by omega
  rcases hw with rfl | rfl | rfl
  ·exact⟨_,rfl,λha=>⟨"number",oN,by decide +kernel,hN ha⟩,λn ea n1 n6=>(hR n ea n1 n6).1 rfl⟩
  ·exact⟨rfl,_,QaV (j:=0) rfl,_,_,rfl,Qey hs,λha=>⟨"number",oN,by decide +kernel,hN ha⟩,λn ea n1 n6 hb=>⟨"stand",oS,by decide +kernel,((hR n ea n1 n6).2.1 rfl).1 hb⟩,λn L ea n1 n6 ed hb=>((hR n ea n1 n6).2.1 rfl).2 L ed hb⟩
  ·refine⟨rfl,_,QaV (j:=1) rfl,_,_,rfl,hs,λha=>⟨"number",oN,by decide +kernel,hN ha⟩,λn ea n1 n6 hb=>?_,λn L ea n1 n6 ed hb es pm pw=>?_⟩
   ·obtain⟨m,rfl⟩:∃m:Nat,n=m:=⟨n.toNat,by omega⟩
    exact⟨"parting",oP,by decide +kernel,((hR m ea (by omega) (by omega)).2.2 rfl).1 hb⟩
   ·obtain⟨m,rfl⟩:∃m:Nat,n=m:=⟨n.toNat,by omega⟩
    exact((hR m ea (by omega) (by omega)).2.2 rfl).2 L ed hb es pm pw
end
section
variable{P:QB}{w:Jl}{K:PySem.W.Frag}{mg:Str->Option Value}{base:Za}
theorem Qts:(["_law_way", "_law_none", "_law_parting_here", "_law_pot_here", "_law_stand_here"]:List Str).Nodup:=by decide +kernel
theorem Qa9:Jy ["_law_script", "_law_k", "_law_pot_here", "_law_n", "_law_parting_here", "_law_stand_here", "_law_board", "_law_thing", "_law_due", "_law_none"] ["_law_script"] (Qt sLaw):=⟨rfl,rfl,rfl,by decide +kernel,rfl,by decide +kernel,by decide +kernel⟩
theorem QvL{f f1 f2 f3 f4 f5 f6 f7 f8 f9 f10 f11 f12 f13 f14  : Addr}{fd fd1 fd2 fd3 fd4 fd5 fd6 fd7 fd8 fd9 fd10 fd11 fd12 fd13 fd14:QQ}(F:Fun K "law" "law" sLaw f fd)(T:GlbA mg)
  (m1:mg "_law_cell_at" = some (.ref f1))(G1:FnOk P w K mg base CX0 1 f1 fd1 ["_law_script", "_law_k"] (QcU K))(b1:Binds K fd1 ["_law_script", "_law_k"] [])(k1:PySem.W.keepIn K (.ref f1)=true)
  (m2:mg "_law_pot" = some (.ref f2))(G2:FnOk P w K mg base CX0 1 f2 fd2 ["_law_cell"] (Ze true Qx3))(b2:Binds K fd2 ["_law_cell"] [])(k2:PySem.W.keepIn K (.ref f2)=true)
  (m3:mg "_law_take" = some (.ref f3))(G3:FnOk P w K mg base CX0 1 f3 fd3 ["_law_pot_here", "_law_far"] (Ze true Qg4))(b3:Binds K fd3 ["_law_pot_here", "_law_far"] [])(k3:PySem.W.keepIn K (.ref f3)=true)
  (m4:mg "_law_parting" = some (.ref f4))(G4:FnOk P w K mg base CX0 2 f4 fd4 ["_law_pot_here", "_law_n"] (Ze false Qyc))(b4:Binds K fd4 ["_law_pot_here", "_law_n"] [])(k4:PySem.W.keepIn K (.ref f4)=true)
  (m5:mg "_law_stand" = some (.ref f5))(G5:FnOk P w K mg base CX0 1 f5 fd5 ["_law_parting_here"] (Ze false Qtv))(b5:Binds K fd5 ["_law_parting_here"] [])(k5:PySem.W.keepIn K (.ref f5)=true)
  (m6:mg "_law_steps" = some (.ref f6))(G6:FnOk P w K mg base CX0 1 f6 fd6 ["_law_n"] (Ze false Qtu))(b6:Binds K fd6 ["_law_n"] [])(k6:PySem.W.keepIn K (.ref f6)=true)
  (m7:mg "_law_same" = some (.ref f7))(G7:FnOk P w K mg base CX0 5 f7 fd7 ["_law_found", "_law_due"] (Ze false (Qso 3)))(b7:Binds K fd7 ["_law_found", "_law_due"] [])(k7:PySem.W.keepIn K (.ref f7)=true)
  (m8:mg "_law_told" = some (.ref f8))(G8:FnOk P w K mg base CX0 7 f8 fd8 ["_law_way", "_law_n", "_law_thing"] (Ze false Qsg))(b8:Binds K fd8 ["_law_way", "_law_n", "_law_thing"] [])(k8:PySem.W.keepIn K (.ref f8)=true)
  (m9:mg "_law_bent" = some (.ref f9))(G9:FnOk P w K mg base CX0 3 f9 fd9 ["_law_pot_here", "_law_n", "_law_stand_here"] (Ze false Qgr))(b9:Binds K fd9 ["_law_pot_here", "_law_n", "_law_stand_here"] [])(k9:PySem.W.keepIn K (.ref f9)=true)
  (m10:mg "_law_is_stand" = some (.ref f10))(G10:FnOk P w K mg base CX0 3 f10 fd10 ["_law_board", "_law_thing"] (Ze false Qiz))(b10:Binds K fd10 ["_law_board", "_law_thing"] [])(k10:PySem.W.keepIn K (.ref f10)=true)
  (m11:mg "_law_lots" = some (.ref f11))(G11:FnOk P w K mg base CX0 1 f11 fd11 ["_law_n", "_law_stand_here"] (Ze false Qtx))(b11:Binds K fd11 ["_law_n", "_law_stand_here"] [])(k11:PySem.W.keepIn K (.ref f11)=true)
  (m12:mg "_law_bent_parting" = some (.ref f12))(G12:FnOk P w K mg base CX0 3 f12 fd12 ["_law_pot_here", "_law_n", "_law_parting_here"] (Ze false Qt4))(b12:Binds K fd12 ["_law_pot_here", "_law_n", "_law_parting_here"] [])(k12:PySem.W.keepIn K (.ref f12)=true)
  (m13:mg "_law_is_parting" = some (.ref f13))(G13:FnOk P w K mg base CX0 2 f13 fd13 ["_law_n", "_law_thing"] (Ze false Qty))(b13:Binds K fd13 ["_law_n", "_law_thing"] [])(k13:PySem.W.keepIn K (.ref f13)=true)
  (m14:mg "_law_no_things" = some (.ref f14))(G14:FnOk P w K mg base CX0 2 f14 fd14 ["_law_pot_here"] (Ze false Qyg))(b14:Binds K fd14 ["_law_pot_here"] [])(k14:PySem.W.keepIn K (.ref f14)=true) :
  FnOk P w K mg base CX0 8 f fd ["_law_script"] (Qfp K):=by
 refine QzG F Qa9 (λcdv A outer s H E hr=>?_);have hU:=Room.u60 hr;have hI:=Room.i60 hr;refine⟨_,QK (Qcr Zf rfl (QaP (by rfl) T.range (Qx (Zc (Qnv rfl) Qt1 (by rfl) T.max QwE (Qa3 (JE JF) (Qa3 (Qx (Zc (Qnu rfl) Qt0 (by rfl) T.min QwD (Qa3 (Qx (Qu6 0 (by rfl) T.len)) (Qa3 (JE JF) QR)))) QR))))) (Zb 1 Qa9.nd rfl (by first | exact QZ rfl | exact Q8 rfl))
    (QK (Qsw 2 (Qaa G2 (hr.mono (by decide)) (by rfl) m2 k2 b2 Zl (ZN (Ju (Qu8 0 G1 (hr.mono (by decide)) (by rfl) m1 k1 b1 (qp 1))) JD)) Qa9.nd)
   (QK (Z1 3 (Ju (ZI JW Zq (JE JF) (Qx (Qaa G3 (hr.mono (by decide)) (by rfl) m3 k3 b3 Zl (Y0 2 (ZN JF JD)))))) Qa9.nd)
   (QK (Z1 4 (J6 G4 (hr.mono (by decide)) (by rfl) m4 k4 b4 Zl (Y0 2 (ZN (qv 3) JD))) Qa9.nd)
   (QK (Z1 5 (J6 G5 (hr.mono (by decide)) (by rfl) m5 k5 b5 Zl (ZN (qv 4) JD)) Qa9.nd)
   (QK (Z1 6 (J6 G6 (hr.mono (by decide)) (by rfl) m6 k6 b6 Zl (ZN (qv 3) JD)) Qa9.nd)
   (QK (QaO (Yt (Yh (JE (J6 G7 (hr.mono (by decide)) (by rfl) m7 k7 b7 Zl (ZN (J6 G8 (hr.mono (by decide)) (by rfl) m8 k8 b8 Zl (ZN JF (ZN (qv 3) (ZN QlK JD)))) (ZN (qv 6) JD)))))) (Q7 (ZK QeC)) ZS)
   (QK (Qcr Zf rfl (Qdo (Ju (QaE (Zg (qv 5) (Zg (J6 G9 (hr.mono (by decide)) (by rfl) m9 k9 b9 Zl (Y0 2 (ZN (qv 3) (ZN (qv 5) JD)))) (Zg (J6 G9 (hr.mono (by decide)) (by rfl) m9 k9 b9 Zl (Y0 2 (ZN (qv 3) (ZN (qv 5) JD)))) (Zg (qv 5) QR))))))) (Zb 7 Qa9.nd rfl (by first | exact QZ rfl | exact Q8 rfl))
    (QK (Z1 8 QeB Qa9.nd)
   (QK (QaO (Yh (JE (J6 G10 (hr.mono (by decide)) (by rfl) m10 k10 b10 Zl (ZN (qv 6) (ZN (qv 7) JD))))) (Q7 (Z1 8 (J6 G11 (hr.mono (by decide)) (by rfl) m11 k11 b11 Zl (ZN (qv 3) (ZN (qv 7) JD))) Qa9.nd)) ZS)
   (Q7 (QaO (Yt (Yh (JE (J6 G7 (hr.mono (by decide)) (by rfl) m7 k7 b7 Zl (ZN (J6 G8 (hr.mono (by decide)) (by rfl) m8 k8 b8 Zl (ZN JF (ZN (qv 3) (ZN (qv 7) JD)))) (ZN (qv 8) JD)))))) (Q7 (ZK QeC)) ZS)))))
   (QK (Qcr Zf rfl (Qdo (Ju (QaE (Zg (qv 4) (Zg (J6 G12 (hr.mono (by decide)) (by rfl) m12 k12 b12 Zl (Y0 2 (ZN (qv 3) (ZN (qv 4) JD)))) (Zg (qv 4) QR)))))) (Zb 7 Qa9.nd rfl (by first | exact QZ rfl | exact Q8 rfl))
    (QK (Z1 8 QeB Qa9.nd)
   (QK (QaO (Yh (JE (J6 G13 (hr.mono (by decide)) (by rfl) m13 k13 b13 Zl (ZN (qv 3) (ZN (qv 7) JD))))) (Q7 (Z1 8 (J6 G5 (hr.mono (by decide)) (by rfl) m5 k5 b5 Zl (ZN (qv 7) JD)) Qa9.nd)) ZS)
   (Q7 (QaO (Yt (Yh (JE (J6 G7 (hr.mono (by decide)) (by rfl) m7 k7 b7 Zl (ZN (J6 G8 (hr.mono (by decide)) (by rfl) m8 k8 b8 Zl (ZN JF (ZN (qv 3) (ZN (qv 7) JD)))) (ZN (qv 8) JD)))))) (Q7 (ZK QeC)) ZS)))))
   (QK (Z1 9 (J6 G14 (hr.mono (by decide)) (by rfl) m14 k14 b14 Zl (Y0 2 JD)) Qa9.nd)
   (Q7 (QaO (QbR Qmc (Qto hU) (Qx (Qai ["_law_way", "_law_none", "_law_parting_here", "_law_pot_here", "_law_stand_here"] [none,some 9,some 4,some 2,some 5] (QaP (by rfl) T.range (JE JF)) (λcl ex s3 H3 C=>⟨(Zb 0 Qts rfl (QZ rfl) (Q8 rfl)),Zp,(J6 G8 (hr.mono (by decide)) (by rfl) m8 k8 b8 Zl (ZN (qv 0) (ZN (qv 1) (ZN (Qdq Ya Qar (Qx (QaE (Zg (qv 4) (Zg (qv 2) (Zg QlK QR))))) (Qx (Qaa G3 (hr.mono (by decide)) (by rfl) m3 k3 b3 Zl (Y0 3 (ZN JF JD)))) (λ_ _=>rfl)) JD))))⟩))) (Qx (ZI Qmd QrF (Qx (QaE (Zg QeB QR))) (JE JF))) (Z9 _)) (Q7 (ZK QeC)) ZS))))))))))))
   (Q7 (ZK QeC)),?_⟩
 intro n0 n63;refine⟨⟨by split<;>split<;>omega,by split<;>split<;>omega⟩,Qgy (λi δ=>∃x1 x2 x3 x4 x5 x6 x7 x8 x9,δ=[.scr,x1,x2,x3,x4,x5,x6,x7,x8,x9]) ⟨_,_,_,_,_,_,_,_,_,rfl⟩ ?_ ?_⟩
 ·rintro i δ hi ⟨x1,x2,x3,x4,x5,x6,x7,x8,x9,rfl⟩;refine⟨by omega,λc=>⟨c,rfl,λn1=>?_⟩⟩;refine⟨_,rfl,by decide,by decide,λr1 r10 r11=>?_⟩;show(λd2=>Qw8 (Qp 1) d2 _) (Qp r1);obtain⟨m,hm⟩:∃m:Nat,(1:Int)+r1=m:=⟨(1+r1).toNat,by omega⟩
  have m1:1<=m:=by omega
  have m6:m<=6:=by omega
  refine Qt8 hm ?_
  refine⟨_,rfl,by omega,by omega,λP hp=>?_⟩;have hp:Par m P:=by rw[JL] at hp;exact hp
  have smP:Qaw (QhX P):=Ql7 hp m6;have pl:P.length<=9:=by have:=hp.2.2;omega
  have pf:=hp.2.1;have p20:∀l∈P,l.length<=20:=λl hl=>by have:=Qbz (Qbn hl);omega
  refine⟨P,rfl,pl,p20,λes pm pw=>?_⟩;obtain⟨S,pS,rfl⟩:=QeH pm;have sl:S.length<=6:=by have:=Qnr P;rw[pS.length_eq];omega
  have smS:Qaw (stT S):=Qoj (by omega);refine⟨m,rfl,m6,?_⟩;refine⟨0,_,_,rfl,(Z2 rfl),by decide,by decide,λha=>(Qmt m1 m6 ha).elim,λnn en _ _=>?_⟩;obtain rfl:m=nn:=Qhs en;refine⟨λ_=>?_,λz=>absurd z (by decide),λz=>absurd z (by decide)⟩;refine⟨Qrf m,rfl,QvQ m,QpI m6,?_⟩;refine⟨_,S,rfl,by omega,by omega,sl,λd1 sm1=>⟨_,S,rfl,by omega,by omega,sl,λd2 sm2=>?_⟩⟩;refine Qbx (λ_ δ=>∃x7 x8 x9,δ=[.scr,.v (.int (0+(i:Int))),.pot,.v (.int m),.v (QhX P),.v (stT S),.v (Qrf m),x7,x8,x9]) ⟨_,_,_,rfl⟩ ?_ ?_
  ·rintro j d δ hd ⟨x7,x8,x9,rfl⟩;have sd:Qaw d:=QY (p:=Qaw) smS (QY sm1 (QY sm2 (QY smS Qcu))) d (QM hd);refine⟨_,_,_,_,rfl,by omega,Qey sd,?_⟩;cases hb:QiF m m (Qfo m) d with
   |false=>
    refine⟨1,_,_,rfl,sd,by decide,by decide,λha=>(Qmt m1 m6 ha).elim,λnn en _ _=>?_⟩;obtain rfl:m=nn:=Qhs en;refine⟨λz=>absurd z (by decide),λ_=>⟨λ_=>?_,λL e h=>(by rw[hb] at h;cases h)⟩,λz=>absurd z (by decide)⟩;exact⟨.str "stand",rfl,rfl,rfl,⟨_,_,_,rfl⟩⟩
   |true=>
    obtain⟨L,rfl,hL⟩:=Qrg hb;obtain⟨ll,_⟩:=Qlf m6 hL;refine⟨m,L,rfl,m6,by omega,λes2 pm2 pw2=>?_⟩;rw[Qpy m6 hL pm2 pw2];refine⟨1,_,_,rfl,sd,by decide,by decide,λha=>(Qmt m1 m6 ha).elim,λnn en _ _=>?_⟩;obtain rfl:m=nn:=Qhs en;refine⟨λz=>absurd z (by decide),λ_=>⟨λh=>(by rw[hb] at h;cases h),λL' e _=>?_⟩,λz=>absurd z (by decide)⟩;obtain rfl:L=L':=by have:=congrArg stL e;rwa [QuJ,QuJ] at this
    exact⟨QhX (ptN L m),rfl,Qmy _,QpJ 1 (by have:=(Qgf L m).1;omega) (λl hl=>by have:=(Qgf L m).2 l hl;omega),⟨_,_,_,rfl⟩⟩
  ·rintro δ ⟨x7,x8,x9,rfl⟩;refine⟨_,_,rfl,by omega,by omega,by rw[JL];exact hp,λd3 sm3=>?_⟩;refine Qbx (λ_ δ=>∃x7 x8 x9,δ=[.scr,.v (.int (0+(i:Int))),.pot,.v (.int m),.v (QhX P),.v (stT S),.v (Qrf m),x7,x8,x9]) ⟨_,_,_,rfl⟩ ?_ ?_
   ·rintro j d δ hd ⟨x7,x8,x9,rfl⟩;have sd:Qaw d:=QY (p:=Qaw) smP (QY sm3 (QY smP Qcu)) d (QM hd);refine⟨_,_,rfl,sd,by omega,by omega,?_⟩;cases hb:Qbb m d with
    |false=>
     refine⟨2,_,_,rfl,sd,by decide,by decide,λha=>(Qmt m1 m6 ha).elim,λnn en _ _=>?_⟩;obtain rfl:m=nn:=Qhs en;refine⟨λz=>absurd z (by decide),λz=>absurd z (by decide),λ_=>⟨λ_=>?_,λL e h=>(by rw[hb] at h;cases h)⟩⟩;exact⟨.str "parting",rfl,rfl,rfl,⟨_,_,_,rfl⟩⟩
    |true=>
     obtain⟨L,rfl,L9,L20⟩:=QrA hb sd (by omega) (by omega);refine⟨L,rfl,L9,L20,λes3 pm3 pw3=>?_⟩;refine⟨2,_,_,rfl,sd,by decide,by decide,λha=>(Qmt m1 m6 ha).elim,λnn en _ _=>?_⟩;obtain rfl:m=nn:=Qhs en;refine⟨λz=>absurd z (by decide),λz=>absurd z (by decide),λ_=>⟨λh=>(by rw[hb] at h;cases h),λL' e _ es4 pm4 pw4=>?_⟩⟩;obtain rfl:L=L':=by
      have e:L.map pLot=L'.map pLot:=PyData.tuple.inj e;have:=congrArg (List.map lotI) e;rw[Jj,Jj] at this;have f:∀M:List (List Int),M.map (lotI∘pLot)=M:=λM=>by
       conv=>rhs;rw[<- Qbp M]
       exact Yk λl _=>Qbw l
      rwa [f,f] at this
     obtain rfl:es4=es3:=by
      obtain⟨S3,p3,rfl⟩:=QeH pm3;exact Qha (pm4.trans pm3.symm) Qtf pw4 pw3
     obtain⟨S3,p3,rfl⟩:=QeH pm4;exact⟨stT S3,rfl,QrI _,QjG 1 (by have:=Qek L9 L20;rw[p3.length_eq];omega),⟨_,_,_,rfl⟩⟩
   ·rintro δ ⟨x7,x8,x9,rfl⟩;refine⟨rfl,λno hno=>?_⟩;refine⟨⟨by decide,by decide⟩,YJ (λ_=>.str "number") (λd hd k2 hk=>?_) ?_⟩
    ·obtain⟨q,hq⟩:=Jf.mp hd;obtain⟨hq',rfl⟩:=QbF hq;have hq3:q<3:=hq';refine⟨_,rfl,by decide,by decide,λr r0 r1=>Qhv r0 r1 λd2 hd2=>⟨_,_,_,rfl,QY (p:=Qaw) smS (QY smP (QY (Z2 rfl) Qcu)) d2 hd2,by omega,by omega,λ_=>hk,λn ea n1 n6=>?_⟩⟩;subst ea;rw[Qv7 (by omega) (by omega)] at hno;cases hno
    ·refine⟨⟨by decide,by decide,by decide⟩,⟨rfl,rfl,.inr (by decide +kernel)⟩,ifF ?_ ⟨_,_,_,_,_,_,_,_,_,rfl⟩⟩;show(!Ja (.list [.str "number",.str "number",.str "number"]) (.list [.str "number",.str "number",.str "number"]))=false;decide +kernel
 ·rintro δ ⟨x1,x2,x3,x4,x5,x6,x7,x8,x9,rfl⟩;rfl
end
theorem Qri{fr:Bool}{fD gD:DF}{vs:List V}{H:Hp}{Q:VK}{Ex:XK}(h:∀args R EX,fD args R EX->gD args R EX)(q:Ze fr fD vs H Q Ex):Ze fr gD vs H Q Ex:=by
 obtain⟨A,pt,args,R,EX,dm,hp,qa,hh,k,kx⟩:=q;exact⟨A,pt,args,R,EX,dm,hp,qa,h _ _ _ hh,k,kx⟩
theorem QhE(ns:List Int):QjW (ns.map Qp):=λx hx=>by
 obtain⟨p,_,rfl⟩:=Qw.mp hx;refine⟨rfl,Qv _,λy hy=>?_⟩;obtain⟨q,_,rfl⟩:=Qw.mp hy;rfl
theorem ltD_int(i j:Int):ltD (.int i) (.int j)=decide (i<j):=by
 show isL (Qe3 i j)=_;unfold Qe3;by_cases z:i<j
 ·rw[if_pos z,decide_eq_true z];rfl
 ·rw[if_neg z,decide_eq_false z];split<;>rfl
theorem Qlx:∀ns:List Int,Qbi (ns.map Qp)=rise ns
 |[]=>rfl
 |[_]=>rfl
 |x::y::r=>by
  show(ltD (.int x) (.int y)&&Qbi ((y::r).map Qp))=(decide (x<y)&&rise (y::r));rw[ltD_int,Qlx (y::r)]
theorem Qlw(args:List Sl)(R:Qa->Prop)(EX:XP)(h:Qga args R EX):Qf9 args R EX:=by
 obtain⟨ns,h,hR⟩:=h;exact⟨ns.map Qp,h,QhE ns,by rw[Qlx];exact hR⟩
theorem QmG(args:List Sl)(R:Qa->Prop)(EX:XP)(h:QiA args R EX):Qgo args R EX:=by
 obtain⟨ns,h,hl,hR⟩:=h;exact⟨ns.map Qp,h,QhE ns,by rw[Qe];omega,by rw[Qlx];exact hR⟩
end Rk
namespace Rk
open L2 _root_.Rd
def Qv4:Qa->Bool
 |.tuple _=>true
 |.list _=>true
 |_=>false
def QzQ:Qa->Bool
 |.list _=>true
 |_=>false
def QzN:Qa->Bool
 |.tuple _=>true
 |_=>false
def QzS:Qa->Bool
 |.bool _=>true
 |_=>false
def QzO:Qa->Bool
 |.str _=>true
 |_=>false
theorem Quy{K:PySem.W.Frag}{H:Hp}:∀{x:V}{d:Qa},Dat H x d->∃t,TyOf K H x t/\PySem.W.kitAny K t [.type "list",.type "tuple"]=some (Qv4 d)/\PySem.W.kitOne K t (.type "list")=some (QzQ d)/\PySem.W.kitOne K t (.type "tuple")=some (QzN d) /\
  PySem.W.kitOne K t (.type "bool")=some (QzS d)/\PySem.W.kitOne K t (.type "str")=some (QzO d)
 |_,_,.non=>⟨_,.non,rfl,rfl,rfl,rfl,rfl⟩
 |_,_,.bl _=>⟨_,.bl _,rfl,rfl,rfl,rfl,rfl⟩
 |_,_,.int _=>⟨_,.int _,rfl,rfl,rfl,rfl,rfl⟩
 |_,_,.str _ _=>⟨_,.str _,rfl,rfl,rfl,rfl,rfl⟩
 |_,_,.tup e _=>⟨_,.tup e,rfl,rfl,rfl,rfl,rfl⟩
 |_,_,.lst e _=>⟨_,.lst e,rfl,rfl,rfl,rfl,rfl⟩
theorem QvR:(["_law_one", "_law_other"]:List Str).Nodup:=by decide +kernel
def Qlj:Sp:=λvs H Q _=>∃p x,vs=[x]/\Kn p H x/\Q (.bl (isI x)) H
section
variable{P:QB}{w:Jl}{K:PySem.W.Frag}{mg:Str->Option Value}{base:Za}
theorem Qop:Jy ["_law_thing"] ["_law_thing"] (Qt QdP):=⟨rfl,rfl,rfl,by decide +kernel,rfl,by decide +kernel,by decide +kernel⟩
theorem Qmi{f:Addr}{fd:QQ}(F:Fun K "_law_whole" "_law_whole" QdP f fd)(T:GlbA mg):FnOk P w K mg base CX0 1 f fd ["_law_thing"] Qlj:=by
 refine F.ok Qop (λvs H Q E h=>?_) (λcdv A outer s H vs Q E hr h=>?_)
 ·obtain⟨p,x,rfl,_⟩:=h;rfl
 ·obtain⟨p,x,rfl,kn,k⟩:=h;refine⟨_,Qab (Qba (Qhk (Zu ZM (by rfl) T.isinstance JT (JH (pv 0) (JH (Qac (v:=.ty "int") (by rfl) T.int Qnw rfl) J4)))
   (Qhj (Qrx (Zu ZM (by rfl) T.isinstance JT (JH (pv 0) (JH (Qac (v:=.ty "bool") (by rfl) T.bool QdG rfl) J4))))))),?_⟩
  obtain⟨t,ty,e⟩:=QpE (K:=K) kn;obtain⟨t2,ty2,e2⟩:=QmT (K:=K) kn;refine⟨_,rfl,_,t,_,_,rfl,ty,e,_,rfl,?_⟩;cases x with
  |int i=>exact QfI ⟨_,rfl,_,t2,_,_,rfl,ty2,e2,_,rfl,k⟩
  |bl i=>exact QfI ⟨_,rfl,_,t2,_,_,rfl,ty2,e2,_,rfl,k⟩
  |_=>exact QhY k
theorem QuP:Jy ["_law_found", "_law_due"] ["_law_found", "_law_due"] (Qt Qkv):=⟨rfl,rfl,rfl,by decide +kernel,rfl,by decide +kernel,by decide +kernel⟩
theorem Qmj{f f1:Addr}{fd fd1:QQ}(F:Fun K "_law_same" "_law_same" Qkv f fd)(T:GlbA mg)(mf:mg "_law_same" = some (.ref f))(bf:Binds K fd ["_law_found", "_law_due"] [])(kf:PySem.W.keepIn K (.ref f)=true)
  (m1:mg "_law_whole" = some (.ref f1))(G1:FnOk P w K mg base CX0 1 f1 fd1 ["_law_thing"] Qlj)(b1:Binds K fd1 ["_law_thing"] [])(k1:PySem.W.keepIn K (.ref f1)=true) :
  ∀n:Nat,FnOk P w K mg base CX0 (n+1) f fd ["_law_found", "_law_due"] (Qid n)
 |0=>⟨λ_ _ _ _ h=>h.elim,λ_ _ _ _ _ _ _ _ _ _ _ _ _ h=>h.elim⟩
 |n+1=>by
  have IH:=Qmj F T mf bf kf m1 G1 b1 k1 n;refine F.ok QuP (λvs H Q E h=>?_) (λcdv A outer s H vs Q E hr h=>?_)
  ·obtain⟨x,y,d,rfl,_⟩:=h;rfl
  ·obtain⟨x,y,d,rfl,qx,qy,fl,k⟩:=h;have hr1:Room 1 _:=hr.mono (by omega);refine⟨_,ZC (Qik (Qhh (Zu QkK (by rfl) T.isinstance JT (JH (pv 1) (JH (QlX (JH (Qac (v:=.ty "list") (by rfl) T.list QcD rfl) (JH (Qac (v:=.ty "tuple") (by rfl) T.tuple ZE rfl) J4))) J4))))
     (ZC (Qik (QlM (Qcx Qo8 (Zu ZM (by rfl) T.isinstance JT (JH (pv 1) (JH (Qac (v:=.ty "list") (by rfl) T.list QcD rfl) J4))) (Zu ZM (by rfl) T.isinstance JT (JH (pv 0) (JH (Qac (v:=.ty "list") (by rfl) T.list QcD rfl) J4))) (Z9 _))
      (Qjl (Qcx Qo8 (Zu ZM (by rfl) T.isinstance JT (JH (pv 1) (JH (Qac (v:=.ty "tuple") (by rfl) T.tuple ZE rfl) J4))) (Zu ZM (by rfl) T.isinstance JT (JH (pv 0) (JH (Qac (v:=.ty "tuple") (by rfl) T.tuple ZE rfl) J4))) (Z9 _)))).pt (Qab (Qba QoM)) Qcy)
     (Qab (Qba (Qhk (QeE Qs8 (Zu Qat (by rfl) T.len Qaj (JH (pv 0) J4)) (Zu Qat (by rfl) T.len Qaj (JH (pv 1) J4)) (Z9 _))
      (Qhj (Zu Qan (by rfl) T.all Qct (JH (Qjr (M:=["_law_one", "_law_other"]) (cap:=[none,none]) (g:=Qys K 2 (QpH (QeR 0) (QpH (QeR 1) Qyt))) (tc:=Qib) (te:=Qsj (Qid n) [] E0 (Qew (QhW 0) (Qew (QhW 1) Qrb))) rfl (by rfl)
       (Qx4 (Qrt (by rfl) T.zip (JH (pv 0) (JH (pv 1) J4))) (QlU (by rfl) T.zip (JH (pv 0) (JH (pv 1) J4))))
       (λcl ex s3 H3 C=>⟨Qru rfl (Qgh (QeD (i:=0) QvR rfl (QZ rfl) (Q8 rfl)) (Qgh (QeD (i:=1) QvR rfl (QZ rfl) (Q8 rfl)) QlV)),QlN,QeG IH (hr.mono (Qk _)) (by rfl) mf kf bf .nil Qvw (JH (pv 0) (JH (pv 1) J4))⟩)) J4)))))))
     Qcy)
    (ZC (Qik (QlM (Qcx QvA (pv 1) Qry (Z9 _)) (QlM (Qhh (Zu ZM (by rfl) T.isinstance JT (JH (pv 1) (JH (Qac (v:=.ty "bool") (by rfl) T.bool QdG rfl) J4)))) (Qjl (Qhh (Zu ZM (by rfl) T.isinstance JT (JH (pv 1) (JH (Qac (v:=.ty "str") (by rfl) T.str QwC rfl) J4))))))).pt
     (Qab (Qba (Qhk (QeE Qmg (pv 0) (pv 1) (Z9 _)) (Qhj (QeE Qs8 (Zu ZM (by rfl) T.isinstance JT (JH (pv 0) (JH (Qac (v:=.ty "bool") (by rfl) T.bool QdG rfl) J4))) (Zu ZM (by rfl) T.isinstance JT (JH (pv 1) (JH (Qac (v:=.ty "bool") (by rfl) T.bool QdG rfl) J4))) (Z9 _)))))) Qcy)
    (Qab (Qba (Qhk (QeG G1 hr1 (by rfl) m1 k1 b1 .nil Qvw (JH (pv 0) J4)) (Qhj (QeE Qmg (pv 0) (pv 1) (Z9 _))))))),?_⟩
   refine⟨_,rfl,by show 2<=1000;decide,λtp H1 s1 n1 e1=>?_⟩;have qx1:=qx.same s1;have qy1:=qy.same s1;obtain⟨t,ty,a1,a2,a3,a4,a5⟩:=Quy (K:=K) qy1;obtain⟨t',ty',a1',a2',a3',a4',a5'⟩:=Quy (K:=K) qx1;refine⟨y,t,tp,["list", "tuple"],_,d,rfl,e1,qy1,ty,a1,_,rfl,?_⟩;have k1':∀H',Same H1 H'->Q (.bl true) H':=λH' s'=>k H' (s1.trans s')
   cases d with
   |tuple ds=>
    obtain⟨m,rfl⟩:∃m,n=m+1:=by
     cases n with
     |zero=>cases fl
     |succ m=>exact⟨m,rfl⟩
    have fl':=Qo.mp (show(decide (ds.length<=1000)&&ds.all (Qb3 m))=true from fl);have hdl:ds.length<=1000:=of_decide_eq_true fl'.1;refine QfI ?_
    cases qy1 with
    |@tup b ys _ eb qs=>
    cases qx1 with
    |@tup a xs _ ea ps=>
    refine⟨_,rfl,_,t,_,_,rfl,ty,a2,_,rfl,_,t',_,_,rfl,ty',a2',rfl,_,rfl,QmO rfl ?_⟩;refine⟨_,rfl,_,t,_,_,rfl,ty,a3,_,rfl,_,t',_,_,rfl,ty',a3',rfl,_,rfl,QmO rfl ?_⟩;have hxl:=ps.length;have hyl:=qs.length;refine⟨_,rfl,a,xs,rfl,.inr (SqT.of ea),_,rfl,b,ys,rfl,.inr (SqT.of eb),rfl,_,rfl,?_⟩;rw[show decide (V.int (xs.length:Nat)=V.int (ys.length:Nat))=true from decide_eq_true (by rw[hxl,hyl])];refine QfI (.inl ⟨_,rfl,_,rfl,a,b,xs,ys,rfl,ea,eb,λp hp=>?_⟩);refine QfL ds.length (Qbk hdl) (λ_=>true) hp (λi H2 hi2 s2=>?_) (λH2 s2=>?_) λH2 s2 e2=>?_
    ·have hx:xs[i]? = some xs[i]:=Ql (by omega);have hy:ys[i]? = some ys[i]:=Ql (by omega);have ea2:=s2 a _ ea;have eb2:=s2 b _ eb;refine⟨⟨xs,ys,_,_,ea2,eb2,hx,hy⟩,λv H3 ⟨r,x',y',hr0,ex,ey,ev,eH⟩ kk hk=>?_⟩;have ex':=ex xs ea2;have ey':=ey ys eb2;rw[hx] at ex';rw[hy] at ey';cases ex';cases ey';subst ev eH;obtain⟨d1,hd1,q1⟩:=ps.get i _ hx;obtain⟨d2,hd2,q2⟩:=qs.get i _ hy;rw[hd1] at hd2;cases hd2;have fd1:Qb3 m d1=true:=Q4.mp fl'.2 d1 (QM hd1);refine⟨r,[xs[i],ys[i]],rfl,SqT.of Jm,rfl,xs[i],[ys[i]],rfl,ys[i],[],rfl,rfl,⟨trivial,?_⟩⟩;exact⟨_,rfl,_,rfl,xs[i],ys[i],d1,rfl,(q1.same s2).same (Jk hr0),(q2.same s2).same (Jk hr0),fd1,λH' s'=>hk H' ((Jk hr0).trans s')⟩
    ·refine⟨xs,ys,s2 a _ ea,s2 b _ eb,?_⟩;omega
    ·refine⟨p,_,rfl,SqL.of e2,rfl,?_⟩;have e3:((Jr ds.length).map λ_=>true).all id=true:=by
      rw[Q4];intro z hz;obtain⟨_,_,rfl⟩:=Qw.mp hz;rfl
     rw[e3];exact k1' H2 s2
   |list ds=>
    obtain⟨m,rfl⟩:∃m,n=m+1:=by
     cases n with
     |zero=>cases fl
     |succ m=>exact⟨m,rfl⟩
    have fl':=Qo.mp (show(decide (ds.length<=1000)&&ds.all (Qb3 m))=true from fl);have hdl:ds.length<=1000:=of_decide_eq_true fl'.1;refine QfI ?_
    cases qy1 with
    |@lst b ys _ eb qs=>
    cases qx1 with
    |@lst a xs _ ea ps=>
    refine⟨_,rfl,_,t,_,_,rfl,ty,a2,_,rfl,_,t',_,_,rfl,ty',a2',rfl,_,rfl,QmO rfl ?_⟩;refine⟨_,rfl,_,t,_,_,rfl,ty,a3,_,rfl,_,t',_,_,rfl,ty',a3',rfl,_,rfl,QmO rfl ?_⟩;have hxl:=ps.length;have hyl:=qs.length;refine⟨_,rfl,a,xs,rfl,.inl (SqL.of ea),_,rfl,b,ys,rfl,.inl (SqL.of eb),rfl,_,rfl,?_⟩;rw[show decide (V.int (xs.length:Nat)=V.int (ys.length:Nat))=true from decide_eq_true (by rw[hxl,hyl])];refine QfI (.inr ⟨_,rfl,_,rfl,a,b,xs,ys,rfl,ea,eb,λp hp=>?_⟩);refine QfL ds.length (Qbk hdl) (λ_=>true) hp (λi H2 hi2 s2=>?_) (λH2 s2=>?_) λH2 s2 e2=>?_
    ·have hx:xs[i]? = some xs[i]:=Ql (by omega);have hy:ys[i]? = some ys[i]:=Ql (by omega);have ea2:=s2 a _ ea;have eb2:=s2 b _ eb;refine⟨⟨xs,ys,_,_,ea2,eb2,hx,hy⟩,λv H3 ⟨r,x',y',hr0,ex,ey,ev,eH⟩ kk hk=>?_⟩;have ex':=ex xs ea2;have ey':=ey ys eb2;rw[hx] at ex';rw[hy] at ey';cases ex';cases ey';subst ev eH;obtain⟨d1,hd1,q1⟩:=ps.get i _ hx;obtain⟨d2,hd2,q2⟩:=qs.get i _ hy;rw[hd1] at hd2;cases hd2;have fd1:Qb3 m d1=true:=Q4.mp fl'.2 d1 (QM hd1);refine⟨r,[xs[i],ys[i]],rfl,SqT.of Jm,rfl,xs[i],[ys[i]],rfl,ys[i],[],rfl,rfl,⟨trivial,?_⟩⟩;exact⟨_,rfl,_,rfl,xs[i],ys[i],d1,rfl,(q1.same s2).same (Jk hr0),(q2.same s2).same (Jk hr0),fd1,λH' s'=>hk H' ((Jk hr0).trans s')⟩
    ·refine⟨xs,ys,s2 a _ ea,s2 b _ eb,?_⟩;omega
    ·refine⟨p,_,rfl,SqL.of e2,rfl,?_⟩;have e3:((Jr ds.length).map λ_=>true).all id=true:=by
      rw[Q4];intro z hz;obtain⟨_,_,rfl⟩:=Qw.mp hz;rfl
     rw[e3];exact k1' H2 s2
   |none=>
    refine QhY ?_
    have hy:y=.non:=by cases qy1;rfl
    subst hy;refine⟨_,rfl,rfl,_,rfl,QfI (QfI ?_)⟩;refine⟨_,rfl,_,rfl,Qdb,Qdb,qx1,qy1,by rw[QcO];show _+Jt Qdb<cLine;rw[show Jt Qdb=0 from by simp[Jt]];exact hr.units0,_,rfl,?_⟩;rw[Qda Qdb rfl];refine QfI ?_
    refine⟨_,rfl,_,t',_,_,rfl,ty',a4',_,rfl,_,t,_,_,rfl,ty,a4,rfl,?_⟩;rw[show ∀b:Bool,decide (V.bl b=V.bl b)=true from λb=>decide_eq_true rfl];exact k1' H1 (Same.refl H1)
   |bool v=>
    refine QhY ?_
    have hy:y=.bl v:=by cases qy1;rfl
    subst hy;refine⟨_,rfl,rfl,_,rfl,QhY ?_⟩;refine⟨_,rfl,_,t,_,_,rfl,ty,a4,_,rfl,QfI (QfI ?_)⟩;refine⟨_,rfl,_,rfl,(YG v),(YG v),qx1,qy1,by rw[QcO];show _+Jt (YG v)<cLine;rw[show Jt (YG v)=0 from by simp[Jt]];exact hr.units0,_,rfl,?_⟩;rw[Qda (YG v) rfl];refine QfI ?_
    refine⟨_,rfl,_,t',_,_,rfl,ty',a4',_,rfl,_,t,_,_,rfl,ty,a4,rfl,?_⟩;rw[show ∀b:Bool,decide (V.bl b=V.bl b)=true from λb=>decide_eq_true rfl];exact k1' H1 (Same.refl H1)
   |str v=>
    refine QhY ?_
    have hy:y=.str v:=by cases qy1;rfl
    subst hy;have cl:YY (.str v)=true:=by cases qy1 with | str _ c=>exact c
    refine⟨_,rfl,rfl,_,rfl,QhY ?_⟩;refine⟨_,rfl,_,t,_,_,rfl,ty,a4,_,rfl,QhY ?_⟩;refine⟨_,rfl,_,t,_,_,rfl,ty,a5,_,rfl,QfI ?_⟩;refine⟨_,rfl,_,rfl,(Qd4 v),(Qd4 v),qx1,qy1,by rw[QcO];show _+Jt (Qd4 v)<cLine;rw[show Jt (Qd4 v)=0 from by simp[Jt]];exact hr.units0,_,rfl,?_⟩;rw[Qda (Qd4 v) cl];refine QfI ?_
    refine⟨_,rfl,_,t',_,_,rfl,ty',a4',_,rfl,_,t,_,_,rfl,ty,a4,rfl,?_⟩;rw[show ∀b:Bool,decide (V.bl b=V.bl b)=true from λb=>decide_eq_true rfl];exact k1' H1 (Same.refl H1)
   |int i=>
    refine QhY ?_
    have hy:y=.int i:=by cases qy1;rfl
    have hx:x=.int i:=by cases qx1;rfl
    subst hy;subst hx;refine⟨_,rfl,rfl,_,rfl,QhY ?_⟩;refine⟨_,rfl,_,t,_,_,rfl,ty,a4,_,rfl,QhY ?_⟩;refine⟨_,rfl,_,t,_,_,rfl,ty,a5,_,rfl,QhY ?_⟩;refine⟨_,rfl,0,.int i,rfl,trivial,_,rfl,QfI ?_⟩;refine⟨_,rfl,_,rfl,.int i,.int i,qx1,qy1,by rw[QcO];show _+Jt (.int i)<cLine;rw[show Jt (.int i)=0 from by simp[Jt]];exact hr.units0,?_⟩;rw[Qda (.int i) rfl];exact k1' H1 (Same.refl H1)
   |dict ds=>cases qx
end
section
variable{P:QB}{w:Jl}{K:PySem.W.Frag}{mg:Str->Option Value}{base:Za}
theorem QdM:Jy ["_law_e", "_law_some", "_law_words"] ["_law_e"] (Qt Qkx):=⟨rfl,rfl,rfl,by decide +kernel,rfl,by decide +kernel,by decide +kernel⟩
theorem Qtk{f c1 c2 c3 c4 c5 c6 c7 c8 c9 c10 c11 c12 c13 c14 c15 c16 c17 c18 c19:Addr}{fd:QQ}(F:Fun K "_law_kind_of" "_law_kind_of" Qkx f fd)(T:GlbA mg)(mV:mg "ValueError" = none)
  (m1:mg "NoText" = some (.ref c1))(m2:mg "NoOrder" = some (.ref c2))(m3:mg "NoLines" = some (.ref c3))(m4:mg "TooFew" = some (.ref c4))(m5:mg "NoSize" = some (.ref c5))(m6:mg "TooMany" = some (.ref c6))(m7:mg "NoNumber" = some (.ref c7))(m8:mg "NoStand" = some (.ref c8))(m9:mg "NoCell" = some (.ref c9))(m10:mg "NotSquare" = some (.ref c10))(m11:mg "NoHits" = some (.ref c11))(m12:mg "NoCounts" = some (.ref c12))(m13:mg "NoStairs" = some (.ref c13))(m14:mg "NotAlike" = some (.ref c14))(m15:mg "NoParting" = some (.ref c15))(m16:mg "NoPlace" = some (.ref c16))(m17:mg "Double" = some (.ref c17))(m18:mg "NoDeed" = some (.ref c18))(m19:mg "NoRow" = some (.ref c19)) :
  Rx.FnM P w K mg base 1 f fd ["_law_e"] (Qjb K [c1,c2,c3,c4,c5,c6,c7,c8,c9,c10,c11,c12,c13,c14,c15,c16,c17,c18,c19]):=by
 refine Rx.okM F QdM (λvs H Q E h=>?_) (λcdv A outer s H vs Q E hr h=>?_)
 ·obtain⟨a,C,bs,j,wd,rfl,_⟩:=h;rfl
 ·obtain⟨a,C,bs,j,wd,rfl,ha,hc,pb,eV,hcnt,hj,hm,hw,k⟩:=h;refine' ⟨_,ZC (QaQ (i:=1) QdM.nd rfl (QZ rfl) (QbG (Qfy (x := "_law_e") (ns:=["NoText", "NoOrder", "NoLines", "TooFew"]) (cs:=[c1,c2,c3,c4]) rfl (QZ rfl) (by decide) (by decide) (by rfl) T.isinstance (by decide +kernel) (by rfl) (.cons m1 (.cons m2 (.cons m3 (.cons m4 .nil))))))) ?p1,?rd⟩
  case p1=>
   show PSs _ _ _;refine' ZC (QaQ (i:=1) QdM.nd rfl (QZ rfl) (QaF QeI (pv 1) (QbG (Qfy (x := "_law_e") (ns:=["NoSize", "TooMany", "NoNumber", "NoStand"]) (cs:=[c5,c6,c7,c8]) rfl (QZ rfl) (by decide) (by decide) (by rfl) T.isinstance (by decide +kernel) (by rfl) (.cons m5 (.cons m6 (.cons m7 (.cons m8 .nil)))))))) ?_
   show PSs _ _ _;refine' ZC (QaQ (i:=1) QdM.nd rfl (QZ rfl) (QaF QeI (pv 1) (QbG (Qfy (x := "_law_e") (ns:=["NoCell", "NotSquare", "NoHits", "NoCounts"]) (cs:=[c9,c10,c11,c12]) rfl (QZ rfl) (by decide) (by decide) (by rfl) T.isinstance (by decide +kernel) (by rfl) (.cons m9 (.cons m10 (.cons m11 (.cons m12 .nil)))))))) ?_
   show PSs _ _ _;refine' ZC (QaQ (i:=1) QdM.nd rfl (QZ rfl) (QaF QeI (pv 1) (QbG (Qfy (x := "_law_e") (ns:=["NoStairs", "NotAlike", "NoParting", "NoPlace"]) (cs:=[c13,c14,c15,c16]) rfl (QZ rfl) (by decide) (by decide) (by rfl) T.isinstance (by decide +kernel) (by rfl) (.cons m13 (.cons m14 (.cons m15 (.cons m16 .nil)))))))) ?_
   show PSs _ _ _;refine' ZC (QaQ (i:=1) QdM.nd rfl (QZ rfl) (QaF QeI (pv 1) (QbG (Qfy (x := "_law_e") (ns:=["Double", "NoDeed", "NoRow"]) (cs:=[c17,c18,c19]) rfl (QZ rfl) (by decide) (by decide) (by rfl) T.isinstance (by decide +kernel) (by rfl) (.cons m17 (.cons m18 (.cons m19 .nil))))))) ?_
   show PSs _ _ _;refine' ZC (Qik (QlM (Qcx Qo8 (Ql0 PySem.F.plainAttrs_list PySem.F.slot_list_count PySem.F.type_list_count Rx.Qpu (pv 1) (JH QoM J4)) YQ (Z9 _)) (Qjl (Qrq (Qhh (Zu Rx.QhI (by rfl) T.isinstance JT (JH (pv 0) (JH (Qac (v:=.ty "ValueError") (by rfl) mV QyD rfl) J4))))))).pt (Qab (Qba QlY)) Qcy) ?_
   show PSs _ _ _;refine' ZC ?a1 ?_
   case a1=>
    refine' QaQ (i:=2) (hs:=?hh) (hf:=?hf) ?hN ?hi ?hx ?he
    case hN=>exact QdM.nd
    case hi=>exact rfl
    case hx=>exact QZ rfl
    case hf=>exact QZ rfl
    case hh=>kernel_rfl
    case he=>
     refine' QbG ?ww
     case ww=>exact Qio (ws:=Qg1.take 10) (by kernel_rfl)
   show PSs _ _ _;refine' ZC ?a2 ?_
   case a2=>
    refine' QaQ (i:=2) (hs:=?hh) (hf:=?hf) ?hN ?hi ?hx ?he
    case hN=>exact QdM.nd
    case hi=>exact rfl
    case hx=>exact QZ rfl
    case hf=>exact QZ rfl
    case hh=>kernel_rfl
    case he=>
     refine' QaF QeI (pv 2) ?ww
     case ww=>
      refine' QbG ?w2
      case w2=>exact Qio (ws:=Qg1.drop 10) (by kernel_rfl)
   show PSs _ _ _;exact Qab (Qba (Qkh Qdx (pv 2) (Ql0 PySem.F.plainAttrs_list PySem.F.slot_list_index PySem.F.type_list_index Rx.Qpt (pv 1) (JH QoM J4)) (λ_ _=>rfl)))
  obtain⟨b1,bs1,rfl,q1,pb1⟩:=JM pb;obtain⟨b2,bs2,rfl,q2,pb2⟩:=JM pb1;obtain⟨b3,bs3,rfl,q3,pb3⟩:=JM pb2;obtain⟨b4,bs4,rfl,q4,pb4⟩:=JM pb3;obtain⟨b5,bs5,rfl,q5,pb5⟩:=JM pb4;obtain⟨b6,bs6,rfl,q6,pb6⟩:=JM pb5;obtain⟨b7,bs7,rfl,q7,pb7⟩:=JM pb6;obtain⟨b8,bs8,rfl,q8,pb8⟩:=JM pb7;obtain⟨b9,bs9,rfl,q9,pb9⟩:=JM pb8;obtain⟨b10,bs10,rfl,q10,pb10⟩:=JM pb9;obtain⟨b11,bs11,rfl,q11,pb11⟩:=JM pb10;obtain⟨b12,bs12,rfl,q12,pb12⟩:=JM pb11;obtain⟨b13,bs13,rfl,q13,pb13⟩:=JM pb12;obtain⟨b14,bs14,rfl,q14,pb14⟩:=JM pb13;obtain⟨b15,bs15,rfl,q15,pb15⟩:=JM pb14;obtain⟨b16,bs16,rfl,q16,pb16⟩:=JM pb15;obtain⟨b17,bs17,rfl,q17,pb17⟩:=JM pb16;obtain⟨b18,bs18,rfl,q18,pb18⟩:=JM pb17;obtain⟨b19,bs19,rfl,q19,pb19⟩:=JM pb18;cases Qki pb19;refine⟨a,C,[b1,b2,b3,b4],rfl,ha,hc,(.cons q1 (.cons q2 (.cons q3 (.cons q4 .nil)))),by show 4<=1000;decide,λl1 H1 s1 n1 e_1=>?_⟩;have h1:=s1 _ _ ha;refine⟨_,rfl,a,C,[b5,b6,b7,b8],rfl,h1,hc,(.cons q5 (.cons q6 (.cons q7 (.cons q8 .nil)))),by show 4<=1000;decide,λl2 H2 s2 n2 e_2=>⟨l1,l2,_,_,rfl,rfl,s2 _ _ e_1,e_2,by show 8<=1000;decide,λl3 H3 s3 n3 e_3=>?_⟩⟩;have h3:=s3 _ _ (s2 _ _ h1);refine⟨_,rfl,a,C,[b9,b10,b11,b12],rfl,h3,hc,(.cons q9 (.cons q10 (.cons q11 (.cons q12 .nil)))),by show 4<=1000;decide,λl4 H4 s4 n4 e_4=>⟨l3,l4,_,_,rfl,rfl,s4 _ _ e_3,e_4,by show 12<=1000;decide,λl5 H5 s5 n5 e_5=>?_⟩⟩;have h5:=s5 _ _ (s4 _ _ h3);refine⟨_,rfl,a,C,[b13,b14,b15,b16],rfl,h5,hc,(.cons q13 (.cons q14 (.cons q15 (.cons q16 .nil)))),by show 4<=1000;decide,λl6 H6 s6 n6 e_6=>⟨l5,l6,_,_,rfl,rfl,s6 _ _ e_5,e_6,by show 16<=1000;decide,λl7 H7 s7 n7 e_7=>?_⟩⟩;have h7:=s7 _ _ (s6 _ _ h5);refine⟨_,rfl,a,C,[b17,b18,b19],rfl,h7,hc,(.cons q17 (.cons q18 (.cons q19 .nil))),by show 3<=1000;decide,λl8 H8 s8 n8 e_8=>⟨l7,l8,_,_,rfl,rfl,s8 _ _ e_7,e_8,by show 19<=1000;decide,λl9 H9 s9 n9 e_9=>?_⟩⟩;have h9:=s9 _ _ (s8 _ _ h7);have S:=((((((((s1.trans s2).trans s3).trans s4).trans s5).trans s6).trans s7).trans s8).trans s9);have EL:H9 l9=some (.lst (([b1,b2,b3,b4,b5,b6,b7,b8,b9,b10,b11,b12,b13,b14,b15,b16,b17,b18,b19]:List Bool).map V.bl)):=e_9;refine⟨_,rfl,.inl ⟨rfl,_,SqL.of EL⟩,l9,_,rfl,rfl,EL,rfl,_,rfl,?_⟩;rw[hcnt];refine QmO rfl ?_
  refine⟨_,rfl,a,C,.ty "ValueError",.type "ValueError",true,rfl,h9,hc,(λu r=>r),eV,_,rfl,?_⟩;refine⟨by show 10<=1000;decide,λl10 H10 s10 n10 e_10=>?_⟩;refine⟨_,rfl,by show 9<=1000;decide,λl11 H11 s11 n11 e_11=>⟨l10,l11,_,_,rfl,rfl,s11 _ _ e_10,e_11,by show 19<=1000;decide,λl12 H12 s12 n12 e_12=>?_⟩⟩;have EL2:=s12 _ _ (s11 _ _ (s10 _ _ EL));refine⟨_,rfl,_,rfl,.inl ⟨rfl,_,SqL.of EL2⟩,l9,_,j,rfl,rfl,EL2,hj,hm,?_⟩;have EW:H12 l12=some (.lst (Qg1.map V.str)):=e_12;exact⟨l12,_,_,.str wd,rfl,rfl,SqL.of EW,QaV (by rw[Q5,hw];rfl),k H12 (((S.trans s10).trans s11).trans s12)⟩
end
end Rk
def PySem.W.Fast.tw11376218043013317821:Nat:=0
def PySem.W.Fast.tw1545682471508591759:Nat:=0
def PySem.W.Fast.tw1477568353866595129:Nat:=0
def PySem.W.Fast.tw18286963009686894041:Nat:=0
def PySem.W.Fast.tw11294340178639716163:Nat:=0
def PySem.W.Fast.tw13672291834264977226:Nat:=0
def PySem.W.Fast.tw8214412686344716063:Nat:=0
def PySem.W.Fast.tw7088766817790043696:Nat:=0
def PySem.W.Fast.tw12944418209216020206:Nat:=0
def PySem.W.Fast.tw13565303119595504872:Nat:=0
def PySem.W.Fast.tw2785250169482427900:Nat:=0
def PySem.W.Fast.tw7201195447572207586:Nat:=0
def PySem.W.Fast.tw16457869546051169911:Nat:=0
def PySem.W.Fast.tw4267311683238159490:Nat:=0
def PySem.W.Fast.tw8300241494765002032:Nat:=0
def PySem.W.Fast.tw12850746707304026573:Nat:=0
def PySem.W.Fast.tw8922675157877372073:Nat:=0
def PySem.W.Fast.tw641217171417593087:Nat:=0
def PySem.W.Fast.tw1920639308023399189:Nat:=0
def PySem.W.Fast.tw6844564551490059985:Nat:=0
def PySem.W.Fast.tw7601221064525727724:Nat:=0
def PySem.W.Fast.tw7140490110590918573:Nat:=0
def PySem.W.Fast.tw3762890215133273387:Nat:=0
def PySem.W.Fast.tw15011179391150489061:Nat:=0
def PySem.W.Fast.tw18012278717552051077:Nat:=0
def PySem.W.Fast.tw11695804336940284770:Nat:=0
def PySem.W.Fast.tw17279681131406071995:Nat:=0
def PySem.W.Fast.tw14298800297949641093:Nat:=0
def PySem.W.Fast.tw15555814784794283417:Nat:=0
def PySem.W.Fast.tw9202701829972226502:Nat:=0
def PySem.W.Fast.tw13394674983199572297:Nat:=0
def PySem.W.Fast.tw8883970960447814967:Nat:=0
def PySem.W.Fast.tw1887104818810322267:Nat:=0
def PySem.W.Fast.tw15291519533790397369:Nat:=0
def PySem.W.Fast.tw217341828359762671:Nat:=0
def PySem.W.Fast.tw12049370932433065250:Nat:=0
def PySem.W.Fast.tw18197980735169674374:Nat:=0
def PySem.W.Fast.tw7540631433531051091:Nat:=0
def PySem.W.Fast.tw13331998513310271221:Nat:=0
def PySem.W.Fast.tw5808689032855111527:Nat:=0
def PySem.W.Fast.tw3114655120761217395:Nat:=0
def PySem.W.Fast.tw12865106669080031816:Nat:=0
def PySem.W.Fast.tw11677245092663798235:Nat:=0
def PySem.W.Fast.tw10181730534476100117:Nat:=0
def PySem.W.Fast.tw5576753877466985949:Nat:=0
def PySem.W.Fast.tw11508648322257237117:Nat:=0
def PySem.W.Fast.tw3580263521199617679:Nat:=0
def PySem.W.Fast.tw12425937575206256769:Nat:=0
def PySem.W.Fast.tw6111345386516805393:Nat:=0
def PySem.W.Fast.tw5456107657262158161:Nat:=0
def PySem.W.Fast.tw8932895774483078722:Nat:=0
def PySem.W.Fast.tw1630973802972541171:Nat:=0
def PySem.W.Fast.tw15667968572546258415:Nat:=0
def PySem.W.Fast.tw7152690793037199592:Nat:=0
def PySem.W.Fast.tw17707994424976697091:Nat:=0
def PySem.W.Fast.tw16148201265991261293:Nat:=0
def PySem.W.Fast.tw10260436791404829443:Nat:=0
def PySem.W.Fast.tw13211016968580558463:Nat:=0
def PySem.W.Fast.tw8663264925355870479:Nat:=0
def PySem.W.Fast.tw8119680612421693684:Nat:=0
def PySem.W.Fast.tw18403414332326792196:Nat:=0
def PySem.W.Fast.tw11893448745212931159:Nat:=0
def PySem.W.Fast.tw619791556070120471:Nat:=0
def PySem.W.Fast.tw4521109158558918020:Nat:=0
def PySem.W.Fast.tw6666704376924043470:Nat:=0
def PySem.W.Fast.tw5768200035364050156:Nat:=0
def PySem.W.Fast.tw8747691298826403079:Nat:=0
def PySem.W.Fast.tw6885041892501129563:Nat:=0
def PySem.W.Fast.tw7035151243587659432:Nat:=0
def PySem.W.Fast.tw7354107901709530088:Nat:=0
def PySem.W.Fast.tw9849299544582877676:Nat:=0
def PySem.W.Fast.tw14878713823376512569:Nat:=0
def PySem.W.Fast.tw14399447288378662477:Nat:=0
def PySem.W.Fast.tw2011984001096503646:Nat:=0
def PySem.W.Fast.tw15858663238112715655:Nat:=0
def PySem.W.Fast.tw1952553841033737092:Nat:=0
def PySem.W.Fast.tw13148532317148050844:Nat:=0
def PySem.W.Fast.tw3508978005570840497:Nat:=0
def PySem.W.Fast.tw8606440647847728621:Nat:=0
def PySem.W.Fast.tw14706121834718277552:Nat:=0
def PySem.W.Fast.tw8986693372856432707:Nat:=0
def PySem.W.Fast.tw2397837618605503431:Nat:=0
def PySem.W.Fast.tw16185265640390512978:Nat:=0
def PySem.W.Fast.tw13405584492540709940:Nat:=0
def PySem.W.Fast.tw720559669362323903:Nat:=0
def PySem.W.Fast.tw3798652845817129403:Nat:=0
def PySem.W.Fast.tw15185908008341812727:Nat:=0
def PySem.W.Fast.tw2603638721558447153:Nat:=0
def PySem.W.Fast.tw10627657434953942568:Nat:=0
def PySem.W.Fast.tw6908435436960113263:Nat:=0
def PySem.W.Fast.tw7321447797936870542:Nat:=0
def PySem.W.Fast.tw7440557596709487727:Nat:=0
def PySem.W.Fast.tw6379885412179457929:Nat:=0
def PySem.W.Fast.tw13338070611085084194:Nat:=0
def PySem.W.Fast.tw17876365295719445896:Nat:=0
def PySem.W.Fast.tw10463656236624288106:Nat:=0
def PySem.W.Fast.tw17026948274498002159:Nat:=0
def PySem.W.Fast.tw1625391722450029588:Nat:=0
def PySem.W.Fast.tw7012429657158006378:Nat:=0
def PySem.W.Fast.tw16589415223683356538:Nat:=0
def PySem.W.Fast.tw5961636731859917972:Nat:=0
def PySem.W.Fast.tw4168466645646043439:Nat:=0
def PySem.W.Fast.tw15892437705636807537:Nat:=0
def PySem.W.Fast.tw11867386049165277203:Nat:=0
def PySem.W.Fast.tw18073617711873795932:Nat:=0
def PySem.W.Fast.tw16781871406145139274:Nat:=0
def PySem.W.Fast.tw2334273023763900940:Nat:=0
def PySem.W.Fast.tw14025583325932508562:Nat:=0
def PySem.W.Fast.tw10199182613015396028:Nat:=0
def PySem.W.Fast.tw11359140980696996333:Nat:=0
def PySem.W.Fast.tw7203455833106856941:Nat:=0
def PySem.W.Fast.tw4025929399242179746:Nat:=0
def PySem.W.Fast.tw9500935771726026750:Nat:=0
def PySem.W.Fast.tw11132392656050786729:Nat:=0
def PySem.W.Fast.tw6776031539147919887:Nat:=0
def PySem.W.Fast.tw7843419819827047571:Nat:=0
def PySem.W.Fast.tw12435565519041271086:Nat:=0
def PySem.W.Fast.tw550074656909910672:Nat:=0
def PySem.W.Fast.tw2952353725952943271:Nat:=0
def PySem.W.Fast.tw4730125070876630688:Nat:=0
def PySem.W.Fast.tw5680028419769128676:Nat:=0
def PySem.W.Fast.tw6229171255589167316:Nat:=0
def PySem.W.Fast.tw16280257716086830434:Nat:=0
def PySem.W.Fast.tw5101887156676673460:Nat:=0
def PySem.W.Fast.tw13773321635984837752:Nat:=0
def PySem.W.Fast.tw12202268218667451235:Nat:=0
def PySem.W.Fast.tw11796435943388828936:Nat:=0
def PySem.W.Fast.tw658427884172341811:Nat:=0
def PySem.W.Fast.tw9914445159078703957:Nat:=0
def PySem.W.Fast.tw2889950819893332601:Nat:=0
def PySem.W.Fast.tw15199253447951434065:Nat:=0
def PySem.W.Fast.tw11362455390641448463:Nat:=0
def PySem.W.Fast.tw9636819842804336887:Nat:=0
def PySem.W.Fast.tw16138584060704501978:Nat:=0
def PySem.W.Fast.tw11449848257073443392:Nat:=0
def PySem.W.Fast.tw415019639941957441:Nat:=0
def PySem.W.Fast.tw325820470209404959:Nat:=0
def PySem.W.Fast.tw1484728806637042244:Nat:=0
def PySem.W.Fast.tw11841378500391572853:Nat:=0
def PySem.W.Fast.tw5570897969817375828:Nat:=0
def PySem.W.Fast.tw18297715331847083186:Nat:=0
def PySem.W.Fast.tw9687147648125414052:Nat:=0
def PySem.W.Fast.tw12387367710711776762:Nat:=0
def PySem.W.Fast.tw14633351232008897496:Nat:=0
def PySem.W.Fast.tw9305035148766492771:Nat:=0
def PySem.W.Fast.tw3261344556301106535:Nat:=0
def PySem.W.Fast.tw18160192307123891046:Nat:=0
def PySem.W.Fast.tw10311135093620796760:Nat:=0
def PySem.W.Fast.tw3309136155572292378:Nat:=0
def PySem.W.Fast.tw11902629951517957611:Nat:=0
def PySem.W.Fast.tw17599269366276875417:Nat:=0
def PySem.W.Fast.tw10394339011909634597:Nat:=0
def PySem.W.Fast.tw8997716663619850834:Nat:=0
def PySem.W.Fast.tw9692581489733682269:Nat:=0
def PySem.W.Fast.tw5124226577525153355:Nat:=0
def PySem.W.Fast.tw14164663125661813664:Nat:=0
def PySem.W.Fast.tw9861232907117781771:Nat:=0
def PySem.W.Fast.tw7179982637052445955:Nat:=0
def PySem.W.Fast.tw4689216355016762997:Nat:=0
def PySem.W.Fast.tw10519702346762381478:Nat:=0
def PySem.W.Fast.tw12830869189470700255:Nat:=0
def PySem.W.Fast.tw4087139269273935901:Nat:=0
def PySem.W.Fast.tw6089082106701212436:Nat:=0
def PySem.W.Fast.tw2836018932452492671:Nat:=0
def PySem.W.Fast.tw16264130427583868293:Nat:=0
def PySem.W.Fast.tw7113626743374967682:Nat:=0
def PySem.W.Fast.tw5936418696474166964:Nat:=0
def PySem.W.Fast.tw18432132118500824986:Nat:=0
def PySem.W.Fast.tw5698800403752113803:Nat:=0
def PySem.W.Fast.tw13136533233111158100:Nat:=0
def PySem.W.Fast.tw14207154467276658906:Nat:=0
def PySem.W.Fast.tw9104073600615610549:Nat:=0
def PySem.W.Fast.tw14066989381323407653:Nat:=0
def PySem.W.Fast.tw7202197319999682468:Nat:=0
def PySem.W.Fast.tw13251354207493998834:Nat:=0
def PySem.W.Fast.tw18331810173261859010:Nat:=0
def PySem.W.Fast.tw11264644197491657088:Nat:=0
def PySem.W.Fast.tw13244400065470184980:Nat:=0
def PySem.W.Fast.tw16634221843627811289:Nat:=0
def PySem.W.Fast.tw14395322101109886328:Nat:=0
def PySem.W.Fast.tw1468096675675312943:Nat:=0
def PySem.W.Fast.tw10799786317146677300:Nat:=0
def PySem.W.Fast.tw11777642061974189942:Nat:=0
def PySem.W.Fast.tw4999584152638649519:Nat:=0
def PySem.W.Fast.tw5831814835452235355:Nat:=0
def PySem.W.Fast.tw17816895448014751498:Nat:=0
def PySem.W.Fast.tw7558674598824261281:Nat:=0
def PySem.W.Fast.tw12525582094526036576:Nat:=0
def PySem.W.Fast.tw1433633357930447295:Nat:=0
def PySem.W.Fast.tw18091701922237487334:Nat:=0
def PySem.W.Fast.tw1000072798147716171:Nat:=0
def PySem.W.Fast.tw5499644711627621194:Nat:=0
def PySem.W.Fast.tw18136795152369556396:Nat:=0
def PySem.W.Fast.tw5459025563210357134:Nat:=0
def PySem.W.Fast.tw18097343805762216702:Nat:=0
def PySem.W.Fast.tw13889673279657871834:Nat:=0
def PySem.W.Fast.tw15235803050857591210:Nat:=0
def PySem.W.Fast.tw15943000739030005658:Nat:=0
def PySem.W.Fast.tw2577114211976610190:Nat:=0
def PySem.W.Fast.tw9067167151329603268:Nat:=0
def PySem.W.Fast.tw4969977033230548580:Nat:=0
def PySem.W.Fast.tw10744661525337336531:Nat:=0
def PySem.W.Fast.tw10526615978949560426:Nat:=0
def PySem.W.Fast.tw13343148090557868622:Nat:=0
def PySem.W.Fast.tw11232272805082581330:Nat:=0
def PySem.W.Fast.tw5280550831156208195:Nat:=0
def PySem.W.Fast.tw10612828781769519608:Nat:=0
def PySem.W.Fast.tw6088960122555637974:Nat:=0
def PySem.W.Fast.tw15593772629309504169:Nat:=0
def PySem.W.Fast.tw242392922413105534:Nat:=0
def PySem.W.Fast.tw15972636947441861194:Nat:=0
def PySem.W.Fast.tw14326797145325509121:Nat:=0
def PySem.W.Fast.tw15307499427933806559:Nat:=0
def PySem.W.Fast.tw5696652460949899463:Nat:=0
def PySem.W.Fast.tw2067889957746646392:Nat:=0
def PySem.W.Fast.tw12322911385010106618:Nat:=0
def PySem.W.Fast.tw6765390761762809963:Nat:=0
def PySem.W.Fast.tw17863448777861676196:Nat:=0
def PySem.W.Fast.tw7107123374140871634:Nat:=0
def PySem.W.Fast.tw2114728926911839082:Nat:=0
def PySem.W.Fast.tw6218822938500448877:Nat:=0
def PySem.W.Fast.tw1006598321051621482:Nat:=0
def PySem.W.Fast.tw17591833908410821143:Nat:=0
def PySem.W.Fast.tw6186306279741326287:Nat:=0
def PySem.W.Fast.tw12666362112362502850:Nat:=0
def PySem.W.Fast.tw5679302312646992227:Nat:=0
def PySem.W.Fast.tw11586048612981646466:Nat:=0
def PySem.W.Fast.tw4496605231865011121:Nat:=0
def PySem.W.Fast.tw16628283680385477560:Nat:=0
def PySem.W.Fast.tw8400101652328778276:Nat:=0
def PySem.W.Fast.tw1368135582548588655:Nat:=0
def PySem.W.Fast.tw7656060484715252957:Nat:=0
def PySem.W.Fast.tw17637468168082992981:Nat:=0
def PySem.W.Fast.tw15355992442646230101:Nat:=0
def PySem.W.Fast.tw14904716690800950069:Nat:=0
def PySem.W.Fast.tw11650241978446855060:Nat:=0
def PySem.W.Fast.tw12890575902538504974:Nat:=0
def PySem.W.Fast.tw5208807200812330766:Nat:=0
def PySem.W.Fast.tw14703011425678316761:Nat:=0
def PySem.W.Fast.tw14013311727058182811:Nat:=0
def PySem.W.Fast.tw14468737268494950315:Nat:=0
def PySem.W.Fast.tw737902778118387371:Nat:=0
def PySem.W.Fast.tw9421825525695832904:Nat:=0
def PySem.W.Fast.tw13368211261110500722:Nat:=0
def PySem.W.Fast.tw8717035691179787025:Nat:=0
def PySem.W.Fast.tw4512176161602539006:Nat:=0
def PySem.W.Fast.tw10698431038137874248:Nat:=0
def PySem.W.Fast.tw1721155398589805508:Nat:=0
def PySem.W.Fast.tw733402224016077576:Nat:=0
def PySem.W.Fast.tw3898033240530511199:Nat:=0
def PySem.W.Fast.tw16531225851914535487:Nat:=0
def PySem.W.Fast.tw12259269793067347649:Nat:=0
def PySem.W.Fast.tw16106957291613105757:Nat:=0
def PySem.W.Fast.tw5627530377798567896:Nat:=0
def PySem.W.Fast.tw10726311622745433117:Nat:=0
def PySem.W.Fast.tw4553393566587315506:Nat:=0
def PySem.W.Fast.tw15038647434411186695:Nat:=0
def PySem.W.Fast.tw5701760325067186297:Nat:=0
def PySem.W.Fast.tw296385312582775810:Nat:=0
def PySem.W.Fast.tw9481119184523075772:Nat:=0
def PySem.W.Fast.tw5420402762839493000:Nat:=0
def PySem.W.Fast.tw12254307916341584787:Nat:=0
def PySem.W.Fast.tw15996452288893244031:Nat:=0
def PySem.W.Fast.tw10196103295304809618:Nat:=0
def PySem.W.Fast.tw17937666447597039898:Nat:=0
def PySem.W.Fast.tw14246486841139551253:Nat:=0
def PySem.W.Fast.tw9395008971713788442:Nat:=0
def PySem.W.Fast.tw3371852842500840472:Nat:=0
def PySem.W.Fast.tw10280448792919541733:Nat:=0
def PySem.W.Fast.tw18072330005235944131:Nat:=0
def PySem.W.Fast.tw12140907519203183442:Nat:=0
def PySem.W.Fast.tw15349899992697096660:Nat:=0
def PySem.W.Fast.tw17573871470655974012:Nat:=0
def PySem.W.Fast.tw15969983461268527911:Nat:=0
def PySem.W.Fast.tw10196253496402916180:Nat:=0
def PySem.W.Fast.tw11089197592580274790:Nat:=0
def PySem.W.Fast.tw7308188568370554837:Nat:=0
def PySem.W.Fast.tw13597452546294454800:Nat:=0
def PySem.W.Fast.tw8403417920993576884:Nat:=0
def PySem.W.Fast.tw6662631742694117657:Nat:=0
def PySem.W.Fast.tw16001184322534965663:Nat:=0
def PySem.W.Fast.tw17356998110008122258:Nat:=0
def PySem.W.Fast.tw12461834640306128268:Nat:=0
def PySem.W.Fast.tw17224653772725422693:Nat:=0
def PySem.W.Fast.tw13587025391005219187:Nat:=0
def PySem.W.Fast.tw7918829859175048110:Nat:=0
def PySem.W.Fast.tw4661842854085924016:Nat:=0
namespace Rk
open L2
theorem QwI{l:PySem.W.OpenLaw}{w:Jl}{K:PySem.W.Frag}{h:Za}{mg:Str->Option Value}{fa f1 f2 f3 f4 f5 f6 f7 f8 f9 f10 f11 f12 f13 f14 f15 f16 f17 f18 f19 f20 f21 f22 f23 f24 f25 f26 f27 f28 f29 f30 f31 f32 f33 f34:Addr}(X:K.In h)(G:h.Ns mainGlobals mg)(hfa:mg "law" = some (.ref fa))
  {od1 an1 od2 an2 od3 an3 od4 an4 od5 an5 od6 an6 od7 an7 od8 an8 od9 an9 od10 an10 od11 an11 od12 an12 od13 an13 od14 an14 od15 an15 od16 an16 od17 an17 od18 an18 od19 an19 od20 an20 od21 an21 od22 an22 od23 an23 od24 an24 od25 an25 od26 an26 od27 an27 od28 an28 od29 an29 od30 an30 od31 an31 od32 an32 od33 an33 od34 an34:Option Addr} {sl1 sl2 sl3 sl4 sl5 sl6 sl7 sl8 sl9 sl10 sl11 sl12 sl13 sl14 sl15 sl16 sl17 sl18 sl19 sl20 sl21 sl22 sl23 sl24 sl25 sl26 sl27 sl28 sl29 sl30 sl31 sl32 sl33 sl34:Array (Option Value)} {oc1 kV1 dc1 pm1 cd1 ct1 oc2 kV2 dc2 pm2 cd2 ct2 oc3 kV3 dc3 pm3 cd3 ct3 oc4 kV4 dc4 pm4 cd4 ct4 oc5 kV5 dc5 pm5 cd5 ct5 oc6 kV6 dc6 pm6 cd6 ct6 oc7 kV7 dc7 pm7 cd7 ct7 oc8 kV8 dc8 pm8 cd8 ct8 oc9 kV9 dc9 pm9 cd9 ct9 oc10 kV10 dc10 pm10 cd10 ct10 oc11 kV11 dc11 pm11 cd11 ct11 oc12 kV12 dc12 pm12 cd12 ct12 oc13 kV13 dc13 pm13 cd13 ct13 oc14 kV14 dc14 pm14 cd14 ct14 oc15 kV15 dc15 pm15 cd15 ct15 oc16 kV16 dc16 pm16 cd16 ct16 oc17 kV17 dc17 pm17 cd17 ct17 oc18 kV18 dc18 pm18 cd18 ct18 oc19 kV19 dc19 pm19 cd19 ct19 oc20 kV20 dc20 pm20 cd20 ct20 oc21 kV21 dc21 pm21 cd21 ct21 oc22 kV22 dc22 pm22 cd22 ct22 oc23 kV23 dc23 pm23 cd23 ct23 oc24 kV24 dc24 pm24 cd24 ct24 oc25 kV25 dc25 pm25 cd25 ct25 oc26 kV26 dc26 pm26 cd26 ct26 oc27 kV27 dc27 pm27 cd27 ct27 oc28 kV28 dc28 pm28 cd28 ct28 oc29 kV29 dc29 pm29 cd29 ct29 oc30 kV30 dc30 pm30 cd30 ct30 oc31 kV31 dc31 pm31 cd31 ct31 oc32 kV32 dc32 pm32 cd32 ct32 oc33 kV33 dc33 pm33 cd33 ct33 oc34 kV34 dc34 pm34 cd34 ct34:Value}
  (a1:PySem.W.nsIn K mainGlobals "is_whole" = some (some (.ref f1))) (l1:K.lookup f1=some ⟨oc1,od1,.func (PySem.W.fnOf "is_whole" "is_whole" (JN Qfr) (Js Qfr) (Qt Qfr) .none kV1 dc1 pm1 an1 cd1 ct1),sl1⟩) (c1:PySem.W.codeIn K cd1 "is_whole" = true) (k1:PySem.W.keepIn K (.ref f1)=true)
  (a2:PySem.W.nsIn K mainGlobals "is_whole_within" = some (some (.ref f2)))(l2:K.lookup f2=some ⟨oc2,od2,.func (PySem.W.fnOf "is_whole_within" "is_whole_within" (JN Qdj) (Js Qdj) (Qt Qdj) .none kV2 dc2 pm2 an2 cd2 ct2),sl2⟩)(c2:PySem.W.codeIn K cd2 "is_whole_within" = true)(k2:PySem.W.keepIn K (.ref f2)=true)
  (a3:PySem.W.nsIn K mainGlobals "is_rising" = some (some (.ref f3)))(l3:K.lookup f3=some ⟨oc3,od3,.func (PySem.W.fnOf "is_rising" "is_rising" (JN Qdk) (Js Qdk) (Qt Qdk) .none kV3 dc3 pm3 an3 cd3 ct3),sl3⟩)(c3:PySem.W.codeIn K cd3 "is_rising" = true)(k3:PySem.W.keepIn K (.ref f3)=true)
  (a4:PySem.W.nsIn K mainGlobals "is_cells" = some (some (.ref f4)))(l4:K.lookup f4=some ⟨oc4,od4,.func (PySem.W.fnOf "is_cells" "is_cells" (JN Qfv) (Js Qfv) (Qt Qfv) .none kV4 dc4 pm4 an4 cd4 ct4),sl4⟩)(c4:PySem.W.codeIn K cd4 "is_cells" = true)(k4:PySem.W.keepIn K (.ref f4)=true)
  (a5:PySem.W.nsIn K mainGlobals "is_place" = some (some (.ref f5)))(l5:K.lookup f5=some ⟨oc5,od5,.func (PySem.W.fnOf "is_place" "is_place" (JN Qfu) (Js Qfu) (Qt Qfu) .none kV5 dc5 pm5 an5 cd5 ct5),sl5⟩)(c5:PySem.W.codeIn K cd5 "is_place" = true)(k5:PySem.W.keepIn K (.ref f5)=true)
  (a6:PySem.W.nsIn K mainGlobals "is_numbers_rising" = some (some (.ref f6)))(l6:K.lookup f6=some ⟨oc6,od6,.func (PySem.W.fnOf "is_numbers_rising" "is_numbers_rising" (JN Qkd) (Js Qkd) (Qt Qkd) .none kV6 dc6 pm6 an6 cd6 ct6),sl6⟩)(c6:PySem.W.codeIn K cd6 "is_numbers_rising" = true)(k6:PySem.W.keepIn K (.ref f6)=true)
  (a7:PySem.W.nsIn K mainGlobals "is_stand" = some (some (.ref f7)))(l7:K.lookup f7=some ⟨oc7,od7,.func (PySem.W.fnOf "is_stand" "is_stand" (JN Qft) (Js Qft) (Qt Qft) .none kV7 dc7 pm7 an7 cd7 ct7),sl7⟩)(c7:PySem.W.codeIn K cd7 "is_stand" = true)(k7:PySem.W.keepIn K (.ref f7)=true)
  (a8:PySem.W.nsIn K mainGlobals "are_apart" = some (some (.ref f8)))(l8:K.lookup f8=some ⟨oc8,od8,.func (PySem.W.fnOf "are_apart" "are_apart" (JN Qfw) (Js Qfw) (Qt Qfw) .none kV8 dc8 pm8 an8 cd8 ct8),sl8⟩)(c8:PySem.W.codeIn K cd8 "are_apart" = true)(k8:PySem.W.keepIn K (.ref f8)=true)
  (a9:PySem.W.nsIn K mainGlobals "is_parting" = some (some (.ref f9)))(l9:K.lookup f9=some ⟨oc9,od9,.func (PySem.W.fnOf "is_parting" "is_parting" (JN Qkc) (Js Qkc) (Qt Qkc) .none kV9 dc9 pm9 an9 cd9 ct9),sl9⟩)(c9:PySem.W.codeIn K cd9 "is_parting" = true)(k9:PySem.W.keepIn K (.ref f9)=true)
  (a10:PySem.W.nsIn K mainGlobals "is_lot" = some (some (.ref f10)))(l10:K.lookup f10=some ⟨oc10,od10,.func (PySem.W.fnOf "is_lot" "is_lot" (JN sLot) (Js sLot) (Qt sLot) .none kV10 dc10 pm10 an10 cd10 ct10),sl10⟩)(c10:PySem.W.codeIn K cd10 "is_lot" = true)(k10:PySem.W.keepIn K (.ref f10)=true)
  (a11:PySem.W.nsIn K mainGlobals "refuse_no_number" = some (some (.ref f11)))(l11:K.lookup f11=some ⟨oc11,od11,.func (PySem.W.fnOf "refuse_no_number" "refuse_no_number" (JN Qkb) (Js Qkb) (Qt Qkb) .none kV11 dc11 pm11 an11 cd11 ct11),sl11⟩)(c11:PySem.W.codeIn K cd11 "refuse_no_number" = true)(k11:PySem.W.keepIn K (.ref f11)=true)
  (a12:PySem.W.nsIn K mainGlobals "steps" = some (some (.ref f12)))(l12:K.lookup f12=some ⟨oc12,od12,.func (PySem.W.fnOf "steps" "steps" (JN Qfs) (Js Qfs) (Qt Qfs) .none kV12 dc12 pm12 an12 cd12 ct12),sl12⟩)(c12:PySem.W.codeIn K cd12 "steps" = true)(k12:PySem.W.keepIn K (.ref f12)=true)
  (a13:PySem.W.nsIn K mainGlobals "parting_of" = some (some (.ref f13)))(l13:K.lookup f13=some ⟨oc13,od13,.func (PySem.W.fnOf "parting_of" "parting_of" (JN sPOf) (Js sPOf) (Qt sPOf) .none kV13 dc13 pm13 an13 cd13 ct13),sl13⟩)(c13:PySem.W.codeIn K cd13 "parting_of" = true)(k13:PySem.W.keepIn K (.ref f13)=true)
  (a14:PySem.W.nsIn K mainGlobals "stand_of" = some (some (.ref f14)))(l14:K.lookup f14=some ⟨oc14,od14,.func (PySem.W.fnOf "stand_of" "stand_of" (JN sSOf) (Js sSOf) (Qt sSOf) .none kV14 dc14 pm14 an14 cd14 ct14),sl14⟩)(c14:PySem.W.codeIn K cd14 "stand_of" = true)(k14:PySem.W.keepIn K (.ref f14)=true)
  (a15:PySem.W.nsIn K mainGlobals "_law_cell_at" = some (some (.ref f15)))(l15:K.lookup f15=some ⟨oc15,od15,.func (PySem.W.fnOf "_law_cell_at" "_law_cell_at" (JN Qdw) (Js Qdw) (Qt Qdw) .none kV15 dc15 pm15 an15 cd15 ct15),sl15⟩)(c15:PySem.W.codeIn K cd15 "_law_cell_at" = true)(k15:PySem.W.keepIn K (.ref f15)=true)
  (a16:PySem.W.nsIn K mainGlobals "_law_pot" = some (some (.ref f16)))(l16:K.lookup f16=some ⟨oc16,od16,.func (PySem.W.fnOf "_law_pot" "_law_pot" (JN lPot) (Js lPot) (Qt lPot) .none kV16 dc16 pm16 an16 cd16 ct16),sl16⟩)(c16:PySem.W.codeIn K cd16 "_law_pot" = true)(k16:PySem.W.keepIn K (.ref f16)=true)
  (a17:PySem.W.nsIn K mainGlobals "_law_take" = some (some (.ref f17)))(l17:K.lookup f17=some ⟨oc17,od17,.func (PySem.W.fnOf "_law_take" "_law_take" (JN Qku) (Js Qku) (Qt Qku) .none kV17 dc17 pm17 an17 cd17 ct17),sl17⟩)(c17:PySem.W.codeIn K cd17 "_law_take" = true)(k17:PySem.W.keepIn K (.ref f17)=true)
  (a18:PySem.W.nsIn K mainGlobals "_law_odd" = some (some (.ref f18)))(l18:K.lookup f18=some ⟨oc18,od18,.func (PySem.W.fnOf "_law_odd" "_law_odd" (JN lOdd) (Js lOdd) (Qt lOdd) .none kV18 dc18 pm18 an18 cd18 ct18),sl18⟩)(c18:PySem.W.codeIn K cd18 "_law_odd" = true)(k18:PySem.W.keepIn K (.ref f18)=true)
  (a19:PySem.W.nsIn K mainGlobals "_law_parting" = some (some (.ref f19)))(l19:K.lookup f19=some ⟨oc19,od19,.func (PySem.W.fnOf "_law_parting" "_law_parting" (JN Qcl) (Js Qcl) (Qt Qcl) .none kV19 dc19 pm19 an19 cd19 ct19),sl19⟩)(c19:PySem.W.codeIn K cd19 "_law_parting" = true)(k19:PySem.W.keepIn K (.ref f19)=true)
  (a20:PySem.W.nsIn K mainGlobals "_law_whole" = some (some (.ref f20)))(l20:K.lookup f20=some ⟨oc20,od20,.func (PySem.W.fnOf "_law_whole" "_law_whole" (JN QdP) (Js QdP) (Qt QdP) .none kV20 dc20 pm20 an20 cd20 ct20),sl20⟩)(c20:PySem.W.codeIn K cd20 "_law_whole" = true)(k20:PySem.W.keepIn K (.ref f20)=true)
  (a21:PySem.W.nsIn K mainGlobals "_law_rises" = some (some (.ref f21)))(l21:K.lookup f21=some ⟨oc21,od21,.func (PySem.W.fnOf "_law_rises" "_law_rises" (JN QfF) (Js QfF) (Qt QfF) .none kV21 dc21 pm21 an21 cd21 ct21),sl21⟩)(c21:PySem.W.codeIn K cd21 "_law_rises" = true)(k21:PySem.W.keepIn K (.ref f21)=true)
  (a22:PySem.W.nsIn K mainGlobals "_law_is_parting" = some (some (.ref f22)))(l22:K.lookup f22=some ⟨oc22,od22,.func (PySem.W.fnOf "_law_is_parting" "_law_is_parting" (JN lIsP) (Js lIsP) (Qt lIsP) .none kV22 dc22 pm22 an22 cd22 ct22),sl22⟩)(c22:PySem.W.codeIn K cd22 "_law_is_parting" = true)(k22:PySem.W.keepIn K (.ref f22)=true)
  (a23:PySem.W.nsIn K mainGlobals "_law_bent_parting" = some (some (.ref f23)))(l23:K.lookup f23=some ⟨oc23,od23,.func (PySem.W.fnOf "_law_bent_parting" "_law_bent_parting" (JN QfH) (Js QfH) (Qt QfH) .none kV23 dc23 pm23 an23 cd23 ct23),sl23⟩)(c23:PySem.W.codeIn K cd23 "_law_bent_parting" = true)(k23:PySem.W.keepIn K (.ref f23)=true)
  (a24:PySem.W.nsIn K mainGlobals "_law_steps" = some (some (.ref f24)))(l24:K.lookup f24=some ⟨oc24,od24,.func (PySem.W.fnOf "_law_steps" "_law_steps" (JN QfD) (Js QfD) (Qt QfD) .none kV24 dc24 pm24 an24 cd24 ct24),sl24⟩)(c24:PySem.W.codeIn K cd24 "_law_steps" = true)(k24:PySem.W.keepIn K (.ref f24)=true)
  (a25:PySem.W.nsIn K mainGlobals "_law_is_place" = some (some (.ref f25)))(l25:K.lookup f25=some ⟨oc25,od25,.func (PySem.W.fnOf "_law_is_place" "_law_is_place" (JN QfG) (Js QfG) (Qt QfG) .none kV25 dc25 pm25 an25 cd25 ct25),sl25⟩)(c25:PySem.W.codeIn K cd25 "_law_is_place" = true)(k25:PySem.W.keepIn K (.ref f25)=true)
  (a26:PySem.W.nsIn K mainGlobals "_law_is_stand" = some (some (.ref f26)))(l26:K.lookup f26=some ⟨oc26,od26,.func (PySem.W.fnOf "_law_is_stand" "_law_is_stand" (JN lIsS) (Js lIsS) (Qt lIsS) .none kV26 dc26 pm26 an26 cd26 ct26),sl26⟩)(c26:PySem.W.codeIn K cd26 "_law_is_stand" = true)(k26:PySem.W.keepIn K (.ref f26)=true)
  (a27:PySem.W.nsIn K mainGlobals "_law_no_things" = some (some (.ref f27)))(l27:K.lookup f27=some ⟨oc27,od27,.func (PySem.W.fnOf "_law_no_things" "_law_no_things" (JN lNoT) (Js lNoT) (Qt lNoT) .none kV27 dc27 pm27 an27 cd27 ct27),sl27⟩)(c27:PySem.W.codeIn K cd27 "_law_no_things" = true)(k27:PySem.W.keepIn K (.ref f27)=true)
  (a28:PySem.W.nsIn K mainGlobals "_law_kind_of" = some (some (.ref f28)))(l28:K.lookup f28=some ⟨oc28,od28,.func (PySem.W.fnOf "_law_kind_of" "_law_kind_of" (JN Qkx) (Js Qkx) (Qt Qkx) .none kV28 dc28 pm28 an28 cd28 ct28),sl28⟩)(c28:PySem.W.codeIn K cd28 "_law_kind_of" = true)(k28:PySem.W.keepIn K (.ref f28)=true)
  (a29:PySem.W.nsIn K mainGlobals "_law_same" = some (some (.ref f29)))(l29:K.lookup f29=some ⟨oc29,od29,.func (PySem.W.fnOf "_law_same" "_law_same" (JN Qkv) (Js Qkv) (Qt Qkv) .none kV29 dc29 pm29 an29 cd29 ct29),sl29⟩)(c29:PySem.W.codeIn K cd29 "_law_same" = true)(k29:PySem.W.keepIn K (.ref f29)=true)
  (a30:PySem.W.nsIn K mainGlobals "_law_told" = some (some (.ref f30)))(l30:K.lookup f30=some ⟨oc30,od30,.func (PySem.W.fnOf "_law_told" "_law_told" (JN Qkt) (Js Qkt) (Qt Qkt) .none kV30 dc30 pm30 an30 cd30 ct30),sl30⟩)(c30:PySem.W.codeIn K cd30 "_law_told" = true)(k30:PySem.W.keepIn K (.ref f30)=true)
  (a31:PySem.W.nsIn K mainGlobals "_law_stand" = some (some (.ref f31)))(l31:K.lookup f31=some ⟨oc31,od31,.func (PySem.W.fnOf "_law_stand" "_law_stand" (JN QfE) (Js QfE) (Qt QfE) .none kV31 dc31 pm31 an31 cd31 ct31),sl31⟩)(c31:PySem.W.codeIn K cd31 "_law_stand" = true)(k31:PySem.W.keepIn K (.ref f31)=true)
  (a32:PySem.W.nsIn K mainGlobals "_law_lots" = some (some (.ref f32)))(l32:K.lookup f32=some ⟨oc32,od32,.func (PySem.W.fnOf "_law_lots" "_law_lots" (JN Qkw) (Js Qkw) (Qt Qkw) .none kV32 dc32 pm32 an32 cd32 ct32),sl32⟩)(c32:PySem.W.codeIn K cd32 "_law_lots" = true)(k32:PySem.W.keepIn K (.ref f32)=true)
  (a33:PySem.W.nsIn K mainGlobals "_law_bent" = some (some (.ref f33)))(l33:K.lookup f33=some ⟨oc33,od33,.func (PySem.W.fnOf "_law_bent" "_law_bent" (JN Qky) (Js Qky) (Qt Qky) .none kV33 dc33 pm33 an33 cd33 ct33),sl33⟩)(c33:PySem.W.codeIn K cd33 "_law_bent" = true)(k33:PySem.W.keepIn K (.ref f33)=true)
  (a34:PySem.W.nsIn K mainGlobals "law" = some (some (.ref f34)))(l34:K.lookup f34=some ⟨oc34,od34,.func (PySem.W.fnOf "law" "law" (JN sLaw) (Js sLaw) (Qt sLaw) .none kV34 dc34 pm34 an34 cd34 ct34),sl34⟩)(c34:PySem.W.codeIn K cd34 "law" = true)(k34:PySem.W.keepIn K (.ref f34)=true)
  (z1:PySem.W.nsIn K mainGlobals "isinstance" = some none)
  (z2:PySem.W.nsIn K mainGlobals "int" = some none)
  (z3:PySem.W.nsIn K mainGlobals "bool" = some none)
  (z4:PySem.W.nsIn K mainGlobals "str" = some none)
  (z5:PySem.W.nsIn K mainGlobals "tuple" = some none)
  (z6:PySem.W.nsIn K mainGlobals "list" = some none)
  (z7:PySem.W.nsIn K mainGlobals "all" = some none)
  (z8:PySem.W.nsIn K mainGlobals "len" = some none)
  (z9:PySem.W.nsIn K mainGlobals "zip" = some none)
  (z10:PySem.W.nsIn K mainGlobals "enumerate" = some none)
  (z11:PySem.W.nsIn K mainGlobals "range" = some none)
  (z12:PySem.W.nsIn K mainGlobals "max" = some none)
  (z13:PySem.W.nsIn K mainGlobals "min" = some none)
  (z14:PySem.W.nsIn K mainGlobals "sorted" = some none)
  (z15:PySem.W.nsIn K mainGlobals "sum" = some none)
  (z16:PySem.W.nsIn K mainGlobals "set" = some none)
  (z17:PySem.W.nsIn K mainGlobals "any" = some none)
  (z18:PySem.W.nsIn K mainGlobals "reversed" = some none)
  (z19:PySem.W.nsIn K mainGlobals "divmod" = some none)
  (z20:PySem.W.nsIn K mainGlobals "ValueError" = some none)
  {tA:_} (aA:PySem.W.nsIn K mainGlobals "MOST_LINES" = some (some (.int 6 tA)))
  {cc1:Addr} (e1:PySem.W.nsIn K mainGlobals "NoText" = some (some (.ref cc1)))
  {cc2:Addr} (e2:PySem.W.nsIn K mainGlobals "NoOrder" = some (some (.ref cc2)))
  {cc3:Addr} (e3:PySem.W.nsIn K mainGlobals "NoLines" = some (some (.ref cc3)))
  {cc4:Addr} (e4:PySem.W.nsIn K mainGlobals "TooFew" = some (some (.ref cc4)))
  {cc5:Addr} (e5:PySem.W.nsIn K mainGlobals "NoSize" = some (some (.ref cc5)))
  {cc6:Addr} (e6:PySem.W.nsIn K mainGlobals "TooMany" = some (some (.ref cc6)))
  {cc7:Addr} (e7:PySem.W.nsIn K mainGlobals "NoNumber" = some (some (.ref cc7)))
  {cc8:Addr} (e8:PySem.W.nsIn K mainGlobals "NoStand" = some (some (.ref cc8)))
  {cc9:Addr} (e9:PySem.W.nsIn K mainGlobals "NoCell" = some (some (.ref cc9)))
  {cc10:Addr} (e10:PySem.W.nsIn K mainGlobals "NotSquare" = some (some (.ref cc10)))
  {cc11:Addr} (e11:PySem.W.nsIn K mainGlobals "NoHits" = some (some (.ref cc11)))
  {cc12:Addr} (e12:PySem.W.nsIn K mainGlobals "NoCounts" = some (some (.ref cc12)))
  {cc13:Addr} (e13:PySem.W.nsIn K mainGlobals "NoStairs" = some (some (.ref cc13)))
  {cc14:Addr} (e14:PySem.W.nsIn K mainGlobals "NotAlike" = some (some (.ref cc14)))
  {cc15:Addr} (e15:PySem.W.nsIn K mainGlobals "NoParting" = some (some (.ref cc15)))
  {cc16:Addr} (e16:PySem.W.nsIn K mainGlobals "NoPlace" = some (some (.ref cc16)))
  {cc17:Addr} (e17:PySem.W.nsIn K mainGlobals "Double" = some (some (.ref cc17)))
  {cc18:Addr} (e18:PySem.W.nsIn K mainGlobals "NoDeed" = some (some (.ref cc18)))
  {cc19:Addr} (e19:PySem.W.nsIn K mainGlobals "NoRow" = some (some (.ref cc19)))
  {cR:Addr} (eR:PySem.W.nsIn K mainGlobals "RookError" = some (some (.ref cR)))
  (r1:PySem.W.typeIn K (.ref cR)=some (.type "type"))
  {dR:_} (r2:PySem.W.clsIn K cR=some dR)
  (r3:PySem.W.mroIn K cR (.type "BaseException")=some true)
  (u1:PySem.W.specialIn K (.builtin "object.__class__") "__get__" = some (some (.builtin "getset_descriptor.__get__")))
  (u2:PySem.W.takesIn K (.builtin "object.__class__")=some true)
  (q7x:PySem.W.excIn K cc7 Rx.mroV "ValueError.__new__" = true)
  (q7r:PySem.W.mroIn K cc7 (.ref cR)=some true)
  (q7g:PySem.W.findIn K (.ref cc7) "__getattribute__" = some (some (.builtin "BaseException.__getattribute__")))
  (q7h:PySem.W.findIn K (.ref cc7) "__getattr__" = some none)
  (q7b:PySem.W.mroIn K cc7 (.type "BaseException")=some true)
  {dq7:_} (q7c:PySem.W.clsIn K cc7=some dq7)
  (q7a:PySem.W.findIn K (.ref cc7) "__class__" = some (some (.builtin "object.__class__")))
  (q7o:PySem.W.mroIn K cc7 (.type "object")=some true)
  (q7v:PySem.W.kitOne K (.ref cc7) (.type "ValueError")=some true)
  (q7k1:PySem.W.kitOne K (.ref cc7) (.ref cc1)=some false)
  (q7k2:PySem.W.kitOne K (.ref cc7) (.ref cc2)=some false)
  (q7k3:PySem.W.kitOne K (.ref cc7) (.ref cc3)=some false)
  (q7k4:PySem.W.kitOne K (.ref cc7) (.ref cc4)=some false)
  (q7k5:PySem.W.kitOne K (.ref cc7) (.ref cc5)=some false)
  (q7k6:PySem.W.kitOne K (.ref cc7) (.ref cc6)=some false)
  (q7k7:PySem.W.kitOne K (.ref cc7) (.ref cc7)=some true)
  (q7k8:PySem.W.kitOne K (.ref cc7) (.ref cc8)=some false)
  (q7k9:PySem.W.kitOne K (.ref cc7) (.ref cc9)=some false)
  (q7k10:PySem.W.kitOne K (.ref cc7) (.ref cc10)=some false)
  (q7k11:PySem.W.kitOne K (.ref cc7) (.ref cc11)=some false)
  (q7k12:PySem.W.kitOne K (.ref cc7) (.ref cc12)=some false)
  (q7k13:PySem.W.kitOne K (.ref cc7) (.ref cc13)=some false)
  (q7k14:PySem.W.kitOne K (.ref cc7) (.ref cc14)=some false)
  (q7k15:PySem.W.kitOne K (.ref cc7) (.ref cc15)=some false)
  (q7k16:PySem.W.kitOne K (.ref cc7) (.ref cc16)=some false)
  (q7k17:PySem.W.kitOne K (.ref cc7) (.ref cc17)=some false)
  (q7k18:PySem.W.kitOne K (.ref cc7) (.ref cc18)=some false)
  (q7k19:PySem.W.kitOne K (.ref cc7) (.ref cc19)=some false)
  (q8x:PySem.W.excIn K cc8 Rx.mroV "ValueError.__new__" = true)
  (q8r:PySem.W.mroIn K cc8 (.ref cR)=some true)
  (q8g:PySem.W.findIn K (.ref cc8) "__getattribute__" = some (some (.builtin "BaseException.__getattribute__")))
  (q8h:PySem.W.findIn K (.ref cc8) "__getattr__" = some none)
  (q8b:PySem.W.mroIn K cc8 (.type "BaseException")=some true)
  {dq8:_} (q8c:PySem.W.clsIn K cc8=some dq8)
  (q8a:PySem.W.findIn K (.ref cc8) "__class__" = some (some (.builtin "object.__class__")))
  (q8o:PySem.W.mroIn K cc8 (.type "object")=some true)
  (q8v:PySem.W.kitOne K (.ref cc8) (.type "ValueError")=some true)
  (q8k1:PySem.W.kitOne K (.ref cc8) (.ref cc1)=some false)
  (q8k2:PySem.W.kitOne K (.ref cc8) (.ref cc2)=some false)
  (q8k3:PySem.W.kitOne K (.ref cc8) (.ref cc3)=some false)
  (q8k4:PySem.W.kitOne K (.ref cc8) (.ref cc4)=some false)
  (q8k5:PySem.W.kitOne K (.ref cc8) (.ref cc5)=some false)
  (q8k6:PySem.W.kitOne K (.ref cc8) (.ref cc6)=some false)
  (q8k7:PySem.W.kitOne K (.ref cc8) (.ref cc7)=some false)
  (q8k8:PySem.W.kitOne K (.ref cc8) (.ref cc8)=some true)
  (q8k9:PySem.W.kitOne K (.ref cc8) (.ref cc9)=some false)
  (q8k10:PySem.W.kitOne K (.ref cc8) (.ref cc10)=some false)
  (q8k11:PySem.W.kitOne K (.ref cc8) (.ref cc11)=some false)
  (q8k12:PySem.W.kitOne K (.ref cc8) (.ref cc12)=some false)
  (q8k13:PySem.W.kitOne K (.ref cc8) (.ref cc13)=some false)
  (q8k14:PySem.W.kitOne K (.ref cc8) (.ref cc14)=some false)
  (q8k15:PySem.W.kitOne K (.ref cc8) (.ref cc15)=some false)
  (q8k16:PySem.W.kitOne K (.ref cc8) (.ref cc16)=some false)
  (q8k17:PySem.W.kitOne K (.ref cc8) (.ref cc17)=some false)
  (q8k18:PySem.W.kitOne K (.ref cc8) (.ref cc18)=some false)
  (q8k19:PySem.W.kitOne K (.ref cc8) (.ref cc19)=some false)
  (q15x:PySem.W.excIn K cc15 Rx.mroV "ValueError.__new__" = true)
  (q15r:PySem.W.mroIn K cc15 (.ref cR)=some true)
  (q15g:PySem.W.findIn K (.ref cc15) "__getattribute__" = some (some (.builtin "BaseException.__getattribute__")))
  (q15h:PySem.W.findIn K (.ref cc15) "__getattr__" = some none)
  (q15b:PySem.W.mroIn K cc15 (.type "BaseException")=some true)
  {dq15:_} (q15c:PySem.W.clsIn K cc15=some dq15)
  (q15a:PySem.W.findIn K (.ref cc15) "__class__" = some (some (.builtin "object.__class__")))
  (q15o:PySem.W.mroIn K cc15 (.type "object")=some true)
  (q15v:PySem.W.kitOne K (.ref cc15) (.type "ValueError")=some true)
  (q15k1:PySem.W.kitOne K (.ref cc15) (.ref cc1)=some false)
  (q15k2:PySem.W.kitOne K (.ref cc15) (.ref cc2)=some false)
  (q15k3:PySem.W.kitOne K (.ref cc15) (.ref cc3)=some false)
  (q15k4:PySem.W.kitOne K (.ref cc15) (.ref cc4)=some false)
  (q15k5:PySem.W.kitOne K (.ref cc15) (.ref cc5)=some false)
  (q15k6:PySem.W.kitOne K (.ref cc15) (.ref cc6)=some false)
  (q15k7:PySem.W.kitOne K (.ref cc15) (.ref cc7)=some false)
  (q15k8:PySem.W.kitOne K (.ref cc15) (.ref cc8)=some false)
  (q15k9:PySem.W.kitOne K (.ref cc15) (.ref cc9)=some false)
  (q15k10:PySem.W.kitOne K (.ref cc15) (.ref cc10)=some false)
  (q15k11:PySem.W.kitOne K (.ref cc15) (.ref cc11)=some false)
  (q15k12:PySem.W.kitOne K (.ref cc15) (.ref cc12)=some false)
  (q15k13:PySem.W.kitOne K (.ref cc15) (.ref cc13)=some false)
  (q15k14:PySem.W.kitOne K (.ref cc15) (.ref cc14)=some false)
  (q15k15:PySem.W.kitOne K (.ref cc15) (.ref cc15)=some true)
  (q15k16:PySem.W.kitOne K (.ref cc15) (.ref cc16)=some false)
  (q15k17:PySem.W.kitOne K (.ref cc15) (.ref cc17)=some false)
  (q15k18:PySem.W.kitOne K (.ref cc15) (.ref cc18)=some false)
  (q15k19:PySem.W.kitOne K (.ref cc15) (.ref cc19)=some false)
  :
  ∃fd:QQ,(∀(s:Shared)(v:Value),QdW s fd ⟨[v],[]⟩ [("_law_script",v)])/\∀base:Za,K.In base->base.Ns mainGlobals mg->FnOk l.prog w K mg base CX0 8 fa fd ["_law_script"] (Dl.Qfp K):=by
 have e:=hfa.symm.trans (PySem.W.mg_of X G a34);cases e;have T:=(⟨(PySem.W.mg_none_of X G z1),(PySem.W.mg_none_of X G z2),(PySem.W.mg_none_of X G z3),(PySem.W.mg_none_of X G z4),(PySem.W.mg_none_of X G z5),(PySem.W.mg_none_of X G z6),(PySem.W.mg_none_of X G z7),(PySem.W.mg_none_of X G z8),(PySem.W.mg_none_of X G z9),(PySem.W.mg_none_of X G z10),(PySem.W.mg_none_of X G z11),(PySem.W.mg_none_of X G z12),(PySem.W.mg_none_of X G z13),(PySem.W.mg_none_of X G z14),(PySem.W.mg_none_of X G z15),(PySem.W.mg_none_of X G z16),(PySem.W.mg_none_of X G z17),(PySem.W.mg_none_of X G z18),(PySem.W.mg_none_of X G z19)⟩:GlbA mg);have F1:=ZD (st:=Qfr) l1 c1 k1;have b1:=F1.binds (ps:=["thing"]) λ_ _ _ _ _ _ us hl=>match us,hl with | [_],_=>rfl
 have m1:=PySem.W.mg_of X G a1;have F2:=ZD (st:=Qdj) l2 c2 k2;have b2:=F2.binds (ps:=["thing", "least", "most"]) λ_ _ _ _ _ _ us hl=>match us,hl with | [_,_,_],_=>rfl
 have m2:=PySem.W.mg_of X G a2;have F3:=ZD (st:=Qdk) l3 c3 k3;have b3:=F3.binds (ps:=["things"]) λ_ _ _ _ _ _ us hl=>match us,hl with | [_],_=>rfl
 have m3:=PySem.W.mg_of X G a3;have F4:=ZD (st:=Qfv) l4 c4 k4;have b4:=F4.binds (ps:=["high", "wide", "thing"]) λ_ _ _ _ _ _ us hl=>match us,hl with | [_,_,_],_=>rfl
 have m4:=PySem.W.mg_of X G a4;have F5:=ZD (st:=Qfu) l5 c5 k5;have b5:=F5.binds (ps:=["high", "wide", "thing"]) λ_ _ _ _ _ _ us hl=>match us,hl with | [_,_,_],_=>rfl
 have m5:=PySem.W.mg_of X G a5;have F6:=ZD (st:=Qkd) l6 c6 k6;have b6:=F6.binds (ps:=["many", "thing"]) λ_ _ _ _ _ _ us hl=>match us,hl with | [_,_],_=>rfl
 have m6:=PySem.W.mg_of X G a6;have F7:=ZD (st:=Qft) l7 c7 k7;have b7:=F7.binds (ps:=["board", "thing"]) λ_ _ _ _ _ _ us hl=>match us,hl with | [_,_],_=>rfl
 have m7:=PySem.W.mg_of X G a7;have F8:=ZD (st:=Qfw) l8 c8 k8;have b8:=F8.binds (ps:=["cells"]) λ_ _ _ _ _ _ us hl=>match us,hl with | [_],_=>rfl
 have m8:=PySem.W.mg_of X G a8;have F9:=ZD (st:=Qkc) l9 c9 k9;have b9:=F9.binds (ps:=["n", "thing"]) λ_ _ _ _ _ _ us hl=>match us,hl with | [_,_],_=>rfl
 have m9:=PySem.W.mg_of X G a9;have F10:=ZD (st:=sLot) l10 c10 k10;have b10:=F10.binds (ps:=["n", "thing"]) λ_ _ _ _ _ _ us hl=>match us,hl with | [_,_],_=>rfl
 have m10:=PySem.W.mg_of X G a10;have F11:=ZD (st:=Qkb) l11 c11 k11;have b11:=F11.binds (ps:=["n"]) λ_ _ _ _ _ _ us hl=>match us,hl with | [_],_=>rfl
 have m11:=PySem.W.mg_of X G a11;have F12:=ZD (st:=Qfs) l12 c12 k12;have b12:=F12.binds (ps:=["n"]) λ_ _ _ _ _ _ us hl=>match us,hl with | [_],_=>rfl
 have m12:=PySem.W.mg_of X G a12;have F13:=ZD (st:=sPOf) l13 c13 k13;have b13:=F13.binds (ps:=["n", "stand"]) λ_ _ _ _ _ _ us hl=>match us,hl with | [_,_],_=>rfl
 have m13:=PySem.W.mg_of X G a13;have F14:=ZD (st:=sSOf) l14 c14 k14;have b14:=F14.binds (ps:=["n", "parting"]) λ_ _ _ _ _ _ us hl=>match us,hl with | [_,_],_=>rfl
 have m14:=PySem.W.mg_of X G a14;have F15:=ZD (st:=Qdw) l15 c15 k15;have b15:=F15.binds (ps:=["_law_script", "_law_k"]) λ_ _ _ _ _ _ us hl=>match us,hl with | [_,_],_=>rfl
 have m15:=PySem.W.mg_of X G a15;have F16:=ZD (st:=lPot) l16 c16 k16;have b16:=F16.binds (ps:=["_law_cell"]) λ_ _ _ _ _ _ us hl=>match us,hl with | [_],_=>rfl
 have m16:=PySem.W.mg_of X G a16;have F17:=ZD (st:=Qku) l17 c17 k17;have b17:=F17.binds (ps:=["_law_pot_here", "_law_far"]) λ_ _ _ _ _ _ us hl=>match us,hl with | [_,_],_=>rfl
 have m17:=PySem.W.mg_of X G a17;have F18:=ZD (st:=lOdd) l18 c18 k18;have b18:=F18.binds (ps:=["_law_pot_here"]) λ_ _ _ _ _ _ us hl=>match us,hl with | [_],_=>rfl
 have m18:=PySem.W.mg_of X G a18;have F19:=ZD (st:=Qcl) l19 c19 k19;have b19:=F19.binds (ps:=["_law_pot_here", "_law_n"]) λ_ _ _ _ _ _ us hl=>match us,hl with | [_,_],_=>rfl
 have m19:=PySem.W.mg_of X G a19;have F20:=ZD (st:=QdP) l20 c20 k20;have b20:=F20.binds (ps:=["_law_thing"]) λ_ _ _ _ _ _ us hl=>match us,hl with | [_],_=>rfl
 have m20:=PySem.W.mg_of X G a20;have F21:=ZD (st:=QfF) l21 c21 k21;have b21:=F21.binds (ps:=["_law_things"]) λ_ _ _ _ _ _ us hl=>match us,hl with | [_],_=>rfl
 have m21:=PySem.W.mg_of X G a21;have F22:=ZD (st:=lIsP) l22 c22 k22;have b22:=F22.binds (ps:=["_law_n", "_law_thing"]) λ_ _ _ _ _ _ us hl=>match us,hl with | [_,_],_=>rfl
 have m22:=PySem.W.mg_of X G a22;have F23:=ZD (st:=QfH) l23 c23 k23;have b23:=F23.binds (ps:=["_law_pot_here", "_law_n", "_law_parting_here"]) λ_ _ _ _ _ _ us hl=>match us,hl with | [_,_,_],_=>rfl
 have m23:=PySem.W.mg_of X G a23;have F24:=ZD (st:=QfD) l24 c24 k24;have b24:=F24.binds (ps:=["_law_n"]) λ_ _ _ _ _ _ us hl=>match us,hl with | [_],_=>rfl
 have m24:=PySem.W.mg_of X G a24;have F25:=ZD (st:=QfG) l25 c25 k25;have b25:=F25.binds (ps:=["_law_thing", "_law_high", "_law_wide"]) λ_ _ _ _ _ _ us hl=>match us,hl with | [_,_,_],_=>rfl
 have m25:=PySem.W.mg_of X G a25;have F26:=ZD (st:=lIsS) l26 c26 k26;have b26:=F26.binds (ps:=["_law_board", "_law_thing"]) λ_ _ _ _ _ _ us hl=>match us,hl with | [_,_],_=>rfl
 have m26:=PySem.W.mg_of X G a26;have F27:=ZD (st:=lNoT) l27 c27 k27;have b27:=F27.binds (ps:=["_law_pot_here"]) λ_ _ _ _ _ _ us hl=>match us,hl with | [_],_=>rfl
 have m27:=PySem.W.mg_of X G a27;have F28:=ZD (st:=Qkx) l28 c28 k28;have b28:=F28.binds (ps:=["_law_e"]) λ_ _ _ _ _ _ us hl=>match us,hl with | [_],_=>rfl
 have m28:=PySem.W.mg_of X G a28;have F29:=ZD (st:=Qkv) l29 c29 k29;have b29:=F29.binds (ps:=["_law_found", "_law_due"]) λ_ _ _ _ _ _ us hl=>match us,hl with | [_,_],_=>rfl
 have m29:=PySem.W.mg_of X G a29;have F30:=ZD (st:=Qkt) l30 c30 k30;have b30:=F30.binds (ps:=["_law_way", "_law_n", "_law_thing"]) λ_ _ _ _ _ _ us hl=>match us,hl with | [_,_,_],_=>rfl
 have m30:=PySem.W.mg_of X G a30;have F31:=ZD (st:=QfE) l31 c31 k31;have b31:=F31.binds (ps:=["_law_parting_here"]) λ_ _ _ _ _ _ us hl=>match us,hl with | [_],_=>rfl
 have m31:=PySem.W.mg_of X G a31;have F32:=ZD (st:=Qkw) l32 c32 k32;have b32:=F32.binds (ps:=["_law_n", "_law_stand_here"]) λ_ _ _ _ _ _ us hl=>match us,hl with | [_,_],_=>rfl
 have m32:=PySem.W.mg_of X G a32;have F33:=ZD (st:=Qky) l33 c33 k33;have b33:=F33.binds (ps:=["_law_pot_here", "_law_n", "_law_stand_here"]) λ_ _ _ _ _ _ us hl=>match us,hl with | [_,_,_],_=>rfl
 have m33:=PySem.W.mg_of X G a33;have F34:=ZD (st:=sLaw) l34 c34 k34;refine⟨PySem.W.fnOf "law" "law" (JN sLaw) (Js sLaw) (Qt sLaw) .none kV34 dc34 pm34 an34 cd34 ct34,λs v=>.of_eq rfl,λbase _ _=>?_⟩;have G1:FnOk l.prog w K mg base CX0 1 f1 _ ["thing"] (Dl.Ze false Dl.Qev):=Qpb F1 T ;have G2:FnOk l.prog w K mg base CX0 2 f2 _ ["thing", "least", "most"] (Dl.Ze false Qeu):=Qmh F2 T m1 G1 b1 k1;have G3:FnOk l.prog w K mg base CX0 1 f3 _ ["things"] (Dl.Ze false Qf9):=Qmk F3 T ;have F35:=F3;have m35:=m3;have b35:=b3;have k35:=k3;have G35:FnOk l.prog w K mg base CX0 1 f3 _ ["things"] (Dl.Ze false Qga):=(G3).imp λ_ _ _ _ h=>Qri Qlw h
 have G5:FnOk l.prog w K mg base CX0 3 f5 _ ["high", "wide", "thing"] (Dl.Ze false QlT):=Qpe F5 T m2 G2 b2 k2;have G4:FnOk l.prog w K mg base CX0 4 f4 _ ["high", "wide", "thing"] (Dl.Ze false Qnq):=Qpg F4 T m5 G5 b5 k5 m3 G3 b3 k3;have G8:FnOk l.prog w K mg base CX0 1 f8 _ ["cells"] (Dl.Ze false QnF):=Qpi F8 T ;have G7:FnOk l.prog w K mg base CX0 5 f7 _ ["board", "thing"] (Dl.Ze false Qlg):=Qpd F7 T m4 G4 b4 k4 m8 G8 b8 k8;have G6:FnOk l.prog w K mg base CX0 3 f6 _ ["many", "thing"] (Dl.Ze false Qtq):=Qtg F6 T m2 G2 b2 k2 m35 G35 b35 k35;have G10:FnOk l.prog w K mg base CX0 4 f10 _ ["n", "thing"] (Dl.Ze false Qyi):=QvK F10 T m6 G6 b6 k6;have G11:FnOk l.prog w K mg base (Rx.CXE l.prog w) 3 f11 _ ["n"] (Dl.Ze false (Qos cc7)):=Qtd ⟨_,PySem.W.mg_of X G aA⟩ F11 T m2 G2 b2 k2 (PySem.W.mg_of X G e7) q7x;have G9:FnOk l.prog w K mg base (Rx.CXE l.prog w) 5 f9 _ ["n", "thing"] (Dl.Ze false (Qs5 cc7)):=Qte F9 T m11 G11 b11 k11 m10 G10 b10 k10 m35 G35 b35 k35;have G12:FnOk l.prog w K mg base (Rx.CXE l.prog w) 4 f12 _ ["n"] (Dl.Ze false (Qi9 cc7)):=Qpc F12 T m11 G11 b11 k11;have G13:FnOk l.prog w K mg base (Rx.CXE l.prog w) 6 f13 _ ["n", "stand"] (Dl.Ze false (Qw3 cc7 cc8)):=QvH F13 T m12 G12 b12 k12 m7 G7 b7 k7 (PySem.W.mg_of X G e8) q8x;have G14:FnOk l.prog w K mg base (Rx.CXE l.prog w) 6 f14 _ ["n", "parting"] (Dl.Ze false (Qw1 cc7 cc15)):=QvF F14 T m9 G9 b9 k9 (PySem.W.mg_of X G e15) q15x;have G15:FnOk l.prog w K mg base CX0 1 f15 _ ["_law_script", "_law_k"] (QcU K):=Qmp F15 T ;have G16:FnOk l.prog w K mg base CX0 1 f16 _ ["_law_cell"] (Dl.Ze true Dl.Qx3):=(QvG F16 T).imp λ_ _ _ _ h=>Dl.Qx2 h
 have G17:FnOk l.prog w K mg base CX0 1 f17 _ ["_law_pot_here", "_law_far"] (Dl.Ze true Dl.Qg4):=(Qtc F17 T).imp λ_ _ _ _ h=>Dl.QuE h
 have G18:FnOk l.prog w K mg base CX0 2 f18 _ ["_law_pot_here"] (Dl.Ze false Qw5):=QvI F18 T m17 G17 b17 k17;have G19:FnOk l.prog w K mg base CX0 2 f19 _ ["_law_pot_here", "_law_n"] (Dl.Ze false Qyc):=Qkl F19 T m17 G17 b17 k17;have G20:FnOk l.prog w K mg base CX0 1 f20 _ ["_law_thing"] (Dl.Ze false Dl.Qev):=Qml F20 T ;have G21:FnOk l.prog w K mg base CX0 1 f21 _ ["_law_things"] (Dl.Ze false Qgo):=Qmn F21 T ;have F36:=F21;have m36:=m21;have b36:=b21;have k36:=k21;have G36:FnOk l.prog w K mg base CX0 1 f21 _ ["_law_things"] (Dl.Ze false QiA):=(G21).imp λ_ _ _ _ h=>Qri QmG h
 have G22:FnOk l.prog w K mg base CX0 2 f22 _ ["_law_n", "_law_thing"] (Dl.Ze false Qty):=Qtj F22 T m20 G20 b20 k20 m36 G36 b36 k36;have G23:FnOk l.prog w K mg base CX0 3 f23 _ ["_law_pot_here", "_law_n", "_law_parting_here"] (Dl.Ze false Qt4):=Qtl F23 T m17 G17 b17 k17 m18 G18 b18 k18;have G24:FnOk l.prog w K mg base CX0 1 f24 _ ["_law_n"] (Dl.Ze false Qtu):=Qmm F24 T ;have G25:FnOk l.prog w K mg base CX0 2 f25 _ ["_law_thing", "_law_high", "_law_wide"] (Dl.Ze false QiB):=Qmo F25 T m20 G20 b20 k20;have G26:FnOk l.prog w K mg base CX0 3 f26 _ ["_law_board", "_law_thing"] (Dl.Ze false Qiz):=Qti F26 T m25 G25 b25 k25 m21 G21 b21 k21;have G27:FnOk l.prog w K mg base CX0 2 f27 _ ["_law_pot_here"] (Dl.Ze false Qyg):=QvJ F27 T m17 G17 b17 k17;have G28:Rx.FnM l.prog w K mg base 1 f28 _ ["_law_e"] (Qjb K [cc1,cc2,cc3,cc4,cc5,cc6,cc7,cc8,cc9,cc10,cc11,cc12,cc13,cc14,cc15,cc16,cc17,cc18,cc19]):=Qtk F28 T (PySem.W.mg_none_of X G z20) (PySem.W.mg_of X G e1) (PySem.W.mg_of X G e2) (PySem.W.mg_of X G e3) (PySem.W.mg_of X G e4) (PySem.W.mg_of X G e5) (PySem.W.mg_of X G e6) (PySem.W.mg_of X G e7) (PySem.W.mg_of X G e8) (PySem.W.mg_of X G e9) (PySem.W.mg_of X G e10) (PySem.W.mg_of X G e11) (PySem.W.mg_of X G e12) (PySem.W.mg_of X G e13) (PySem.W.mg_of X G e14) (PySem.W.mg_of X G e15) (PySem.W.mg_of X G e16) (PySem.W.mg_of X G e17) (PySem.W.mg_of X G e18) (PySem.W.mg_of X G e19);have G29:FnOk l.prog w K mg base CX0 5 f29 _ ["_law_found", "_law_due"] (Dl.Ze false (Dl.Qso 3)):=(Qmj F29 T m29 b29 k29 m20 (Qmi F20 T) b20 k20 4).imp λ_ _ _ _ h=>Dl.QuQ h
 have G30:FnOk l.prog w K mg base CX0 7 f30 _ ["_law_way", "_law_n", "_law_thing"] (Dl.Ze false Qsg):=Qtb F30 T m12 G12 b12 k12 m13 G13 b13 k13 m14 G14 b14 k14 m28 G28 b28 k28 (PySem.W.mg_of X G eR) (⟨⟨r1,(by rw[r2];rfl),r3,q7r⟩,[false,false,false,false,false,false,true,false,false,false,false,false,false,false,false,false,false,false,false],6,⟨q7g,q7h,q7b,(by rw[q7c];rfl),q7a,u1,u2,q7o⟩,(.cons q7k1 (.cons q7k2 (.cons q7k3 (.cons q7k4 (.cons q7k5 (.cons q7k6 (.cons q7k7 (.cons q7k8 (.cons q7k9 (.cons q7k10 (.cons q7k11 (.cons q7k12 (.cons q7k13 (.cons q7k14 (.cons q7k15 (.cons q7k16 (.cons q7k17 (.cons q7k18 (.cons q7k19 .nil))))))))))))))))))),q7v,rfl,rfl,(by decide),rfl⟩:KOk K [cc1,cc2,cc3,cc4,cc5,cc6,cc7,cc8,cc9,cc10,cc11,cc12,cc13,cc14,cc15,cc16,cc17,cc18,cc19] cR cc7 "number") (⟨⟨r1,(by rw[r2];rfl),r3,q8r⟩,[false,false,false,false,false,false,false,true,false,false,false,false,false,false,false,false,false,false,false],7,⟨q8g,q8h,q8b,(by rw[q8c];rfl),q8a,u1,u2,q8o⟩,(.cons q8k1 (.cons q8k2 (.cons q8k3 (.cons q8k4 (.cons q8k5 (.cons q8k6 (.cons q8k7 (.cons q8k8 (.cons q8k9 (.cons q8k10 (.cons q8k11 (.cons q8k12 (.cons q8k13 (.cons q8k14 (.cons q8k15 (.cons q8k16 (.cons q8k17 (.cons q8k18 (.cons q8k19 .nil))))))))))))))))))),q8v,rfl,rfl,(by decide),rfl⟩:KOk K [cc1,cc2,cc3,cc4,cc5,cc6,cc7,cc8,cc9,cc10,cc11,cc12,cc13,cc14,cc15,cc16,cc17,cc18,cc19] cR cc8 "stand") (⟨⟨r1,(by rw[r2];rfl),r3,q15r⟩,[false,false,false,false,false,false,false,false,false,false,false,false,false,false,true,false,false,false,false],14,⟨q15g,q15h,q15b,(by rw[q15c];rfl),q15a,u1,u2,q15o⟩,(.cons q15k1 (.cons q15k2 (.cons q15k3 (.cons q15k4 (.cons q15k5 (.cons q15k6 (.cons q15k7 (.cons q15k8 (.cons q15k9 (.cons q15k10 (.cons q15k11 (.cons q15k12 (.cons q15k13 (.cons q15k14 (.cons q15k15 (.cons q15k16 (.cons q15k17 (.cons q15k18 (.cons q15k19 .nil))))))))))))))))))),q15v,rfl,rfl,(by decide),rfl⟩:KOk K [cc1,cc2,cc3,cc4,cc5,cc6,cc7,cc8,cc9,cc10,cc11,cc12,cc13,cc14,cc15,cc16,cc17,cc18,cc19] cR cc15 "parting");have G31:FnOk l.prog w K mg base CX0 1 f31 _ ["_law_parting_here"] (Dl.Ze false Qtv):=Qth F31 T ;have G32:FnOk l.prog w K mg base CX0 1 f32 _ ["_law_n", "_law_stand_here"] (Dl.Ze false Qtx):=Qpf F32 T ;have G33:FnOk l.prog w K mg base CX0 3 f33 _ ["_law_pot_here", "_law_n", "_law_stand_here"] (Dl.Ze false Qgr):=Qph F33 T m17 G17 b17 k17 m18 G18 b18 k18;exact QvL F34 T m15 G15 b15 k15 m16 G16 b16 k16 m17 G17 b17 k17 m19 G19 b19 k19 m31 G31 b31 k31 m24 G24 b24 k24 m29 G29 b29 k29 m30 G30 b30 k30 m33 G33 b33 k33 m26 G26 b26 k26 m32 G32 b32 k32 m23 G23 b23 k23 m22 G22 b22 k22 m27 G27 b27 k27
theorem Qzq{l:PySem.W.OpenLaw}{q:QB}{loose:List Str}{XP:(Str->Option Value)->Za->Prop}{YP:Jl->Za->Prop}{d:DefRec}{K:Params->PySem.W.Frag}(hn:l.most=some 63)(hdf:d.params.defaults=[])
  (hY:∀(w:Jl)(h:Za),YP w h->(K w.params).In h)
  (F:∀(w:Jl)(mg:Str->Option Value)(fa:Addr)(h:Za),(K w.params).In h->h.Ns mainGlobals mg->mg d.name=some (.ref fa) ->
   ∃fd:QQ,(∀(s:Shared)(u:Value),QdW s fd ⟨[u],[]⟩ [("_law_script",u)])/\∀base:Za,(K w.params).In base->base.Ns mainGlobals mg->FnOk l.prog w (K w.params) mg base CX0 8 fa fd ["_law_script"] (Dl.Qfp (K w.params))) :
  PySem.W.WalkO q loose XP YP l.row.toRowW d [] (λf vs=>PySem.call f vs):=
 L2.Qsf (n:=63) (k:=8) (x := "_law_script") (CX:=λ_=>CX0) (sp:=λw=>(Dl.Qfp (K w.params))) hn (by decide) hdf ⟨rfl,by decide,by decide⟩ hY F (λ_ _ a ns hl _ hS=>⟨a,ns,rfl,hS,hl,λ_=>rfl⟩) λ_ _ _ _ _ z=>z
end Rk
open PySem.W
set_option maxRecDepth 100000 in
set_option maxHeartbeats 0 in
theorem PySem.Challenge.cw_rooklands_k82_steps_and_partings_holds : PySem.Challenge.rw_rooklands_k82_steps_and_partings.Holds := by
 w_on;o_law;k_head;(case hw=>w_witness2)
 k_fill
 refine Rk.Qzq (l:=PySem.Challenge.rw_rooklands_k82_steps_and_partings) rfl rfl (λw h Y=>PySem.W.kIn_of Y) ?F
 case F=>
  intro w mg fa h KX G hmg;refine' Rk.QwI KX G hmg ?a1 ?l1 ?c1 ?k1 ?a2 ?l2 ?c2 ?k2 ?a3 ?l3 ?c3 ?k3 ?a4 ?l4 ?c4 ?k4 ?a5 ?l5 ?c5 ?k5 ?a6 ?l6 ?c6 ?k6 ?a7 ?l7 ?c7 ?k7 ?a8 ?l8 ?c8 ?k8 ?a9 ?l9 ?c9 ?k9 ?a10 ?l10 ?c10 ?k10 ?a11 ?l11 ?c11 ?k11 ?a12 ?l12 ?c12 ?k12 ?a13 ?l13 ?c13 ?k13 ?a14 ?l14 ?c14 ?k14 ?a15 ?l15 ?c15 ?k15 ?a16 ?l16 ?c16 ?k16 ?a17 ?l17 ?c17 ?k17 ?a18 ?l18 ?c18 ?k18 ?a19 ?l19 ?c19 ?k19 ?a20 ?l20 ?c20 ?k20 ?a21 ?l21 ?c21 ?k21 ?a22 ?l22 ?c22 ?k22 ?a23 ?l23 ?c23 ?k23 ?a24 ?l24 ?c24 ?k24 ?a25 ?l25 ?c25 ?k25 ?a26 ?l26 ?c26 ?k26 ?a27 ?l27 ?c27 ?k27 ?a28 ?l28 ?c28 ?k28 ?a29 ?l29 ?c29 ?k29 ?a30 ?l30 ?c30 ?k30 ?a31 ?l31 ?c31 ?k31 ?a32 ?l32 ?c32 ?k32 ?a33 ?l33 ?c33 ?k33 ?a34 ?l34 ?c34 ?k34 ?z1 ?z2 ?z3 ?z4 ?z5 ?z6 ?z7 ?z8 ?z9 ?z10 ?z11 ?z12 ?z13 ?z14 ?z15 ?z16 ?z17 ?z18 ?z19 ?z20 ?aA ?e1 ?e2 ?e3 ?e4 ?e5 ?e6 ?e7 ?e8 ?e9 ?e10 ?e11 ?e12 ?e13 ?e14 ?e15 ?e16 ?e17 ?e18 ?e19 ?eR ?r1 ?r2 ?r3 ?u1 ?u2 ?q7x ?q7r ?q7g ?q7h ?q7b ?q7c ?q7a ?q7o ?q7v ?q7k1 ?q7k2 ?q7k3 ?q7k4 ?q7k5 ?q7k6 ?q7k7 ?q7k8 ?q7k9 ?q7k10 ?q7k11 ?q7k12 ?q7k13 ?q7k14 ?q7k15 ?q7k16 ?q7k17 ?q7k18 ?q7k19 ?q8x ?q8r ?q8g ?q8h ?q8b ?q8c ?q8a ?q8o ?q8v ?q8k1 ?q8k2 ?q8k3 ?q8k4 ?q8k5 ?q8k6 ?q8k7 ?q8k8 ?q8k9 ?q8k10 ?q8k11 ?q8k12 ?q8k13 ?q8k14 ?q8k15 ?q8k16 ?q8k17 ?q8k18 ?q8k19 ?q15x ?q15r ?q15g ?q15h ?q15b ?q15c ?q15a ?q15o ?q15v ?q15k1 ?q15k2 ?q15k3 ?q15k4 ?q15k5 ?q15k6 ?q15k7 ?q15k8 ?q15k9 ?q15k10 ?q15k11 ?q15k12 ?q15k13 ?q15k14 ?q15k15 ?q15k16 ?q15k17 ?q15k18 ?q15k19
  (case a1=>k_is)
  (case l1=>k_is)
  (case c1=>k_is)
  (case k1=>k_is)
  (case a2=>k_is)
  (case l2=>k_is)
  (case c2=>k_is)
  (case k2=>k_is)
  (case a3=>k_is)
  (case l3=>k_is)
  (case c3=>k_is)
  (case k3=>k_is)
  (case a4=>k_is)
  (case l4=>k_is)
  (case c4=>k_is)
  (case k4=>k_is)
  (case a5=>k_is)
  (case l5=>k_is)
  (case c5=>k_is)
  (case k5=>k_is)
  (case a6=>k_is)
  (case l6=>k_is)
  (case c6=>k_is)
  (case k6=>k_is)
  (case a7=>k_is)
  (case l7=>k_is)
  (case c7=>k_is)
  (case k7=>k_is)
  (case a8=>k_is)
  (case l8=>k_is)
  (case c8=>k_is)
  (case k8=>k_is)
  (case a9=>k_is)
  (case l9=>k_is)
  (case c9=>k_is)
  (case k9=>k_is)
  (case a10=>k_is)
  (case l10=>k_is)
  (case c10=>k_is)
  (case k10=>k_is)
  (case a11=>k_is)
  (case l11=>k_is)
  (case c11=>k_is)
  (case k11=>k_is)
  (case a12=>k_is)
  (case l12=>k_is)
  (case c12=>k_is)
  (case k12=>k_is)
  (case a13=>k_is)
  (case l13=>k_is)
  (case c13=>k_is)
  (case k13=>k_is)
  (case a14=>k_is)
  (case l14=>k_is)
  (case c14=>k_is)
  (case k14=>k_is)
  (case a15=>k_is)
  (case l15=>k_is)
  (case c15=>k_is)
  (case k15=>k_is)
  (case a16=>k_is)
  (case l16=>k_is)
  (case c16=>k_is)
  (case k16=>k_is)
  (case a17=>k_is)
  (case l17=>k_is)
  (case c17=>k_is)
  (case k17=>k_is)
  (case a18=>k_is)
  (case l18=>k_is)
  (case c18=>k_is)
  (case k18=>k_is)
  (case a19=>k_is)
  (case l19=>k_is)
  (case c19=>k_is)
  (case k19=>k_is)
  (case a20=>k_is)
  (case l20=>k_is)
  (case c20=>k_is)
  (case k20=>k_is)
  (case a21=>k_is)
  (case l21=>k_is)
  (case c21=>k_is)
  (case k21=>k_is)
  (case a22=>k_is)
  (case l22=>k_is)
  (case c22=>k_is)
  (case k22=>k_is)
  (case a23=>k_is)
  (case l23=>k_is)
  (case c23=>k_is)
  (case k23=>k_is)
  (case a24=>k_is)
  (case l24=>k_is)
  (case c24=>k_is)
  (case k24=>k_is)
  (case a25=>k_is)
  (case l25=>k_is)
  (case c25=>k_is)
  (case k25=>k_is)
  (case a26=>k_is)
  (case l26=>k_is)
  (case c26=>k_is)
  (case k26=>k_is)
  (case a27=>k_is)
  (case l27=>k_is)
  (case c27=>k_is)
  (case k27=>k_is)
  (case a28=>k_is)
  (case l28=>k_is)
  (case c28=>k_is)
  (case k28=>k_is)
  (case a29=>k_is)
  (case l29=>k_is)
  (case c29=>k_is)
  (case k29=>k_is)
  (case a30=>k_is)
  (case l30=>k_is)
  (case c30=>k_is)
  (case k30=>k_is)
  (case a31=>k_is)
  (case l31=>k_is)
  (case c31=>k_is)
  (case k31=>k_is)
  (case a32=>k_is)
  (case l32=>k_is)
  (case c32=>k_is)
  (case k32=>k_is)
  (case a33=>k_is)
  (case l33=>k_is)
  (case c33=>k_is)
  (case k33=>k_is)
  (case a34=>k_is)
  (case l34=>k_is)
  (case c34=>k_is)
  (case k34=>k_is)
  (case z1=>k_is)
  (case z2=>k_is)
  (case z3=>k_is)
  (case z4=>k_is)
  (case z5=>k_is)
  (case z6=>k_is)
  (case z7=>k_is)
  (case z8=>k_is)
  (case z9=>k_is)
  (case z10=>k_is)
  (case z11=>k_is)
  (case z12=>k_is)
  (case z13=>k_is)
  (case z14=>k_is)
  (case z15=>k_is)
  (case z16=>k_is)
  (case z17=>k_is)
  (case z18=>k_is)
  (case z19=>k_is)
  (case z20=>k_is)
  (case aA=>k_is)
  (case e1=>k_is)
  (case e2=>k_is)
  (case e3=>k_is)
  (case e4=>k_is)
  (case e5=>k_is)
  (case e6=>k_is)
  (case e7=>k_is)
  (case e8=>k_is)
  (case e9=>k_is)
  (case e10=>k_is)
  (case e11=>k_is)
  (case e12=>k_is)
  (case e13=>k_is)
  (case e14=>k_is)
  (case e15=>k_is)
  (case e16=>k_is)
  (case e17=>k_is)
  (case e18=>k_is)
  (case e19=>k_is)
  (case eR=>k_is)
  (case r1=>k_is)
  (case r2=>k_is)
  (case r3=>k_is)
  (case u1=>k_is)
  (case u2=>k_is)
  (case q7x=>k_exc)
  (case q7r=>k_is)
  (case q7g=>k_is)
  (case q7h=>k_is)
  (case q7b=>k_is)
  (case q7c=>k_is)
  (case q7a=>k_is)
  (case q7o=>k_is)
  (case q7v=>kit_is)
  (case q7k1=>kit_is)
  (case q7k2=>kit_is)
  (case q7k3=>kit_is)
  (case q7k4=>kit_is)
  (case q7k5=>kit_is)
  (case q7k6=>kit_is)
  (case q7k7=>kit_is)
  (case q7k8=>kit_is)
  (case q7k9=>kit_is)
  (case q7k10=>kit_is)
  (case q7k11=>kit_is)
  (case q7k12=>kit_is)
  (case q7k13=>kit_is)
  (case q7k14=>kit_is)
  (case q7k15=>kit_is)
  (case q7k16=>kit_is)
  (case q7k17=>kit_is)
  (case q7k18=>kit_is)
  (case q7k19=>kit_is)
  (case q8x=>k_exc)
  (case q8r=>k_is)
  (case q8g=>k_is)
  (case q8h=>k_is)
  (case q8b=>k_is)
  (case q8c=>k_is)
  (case q8a=>k_is)
  (case q8o=>k_is)
  (case q8v=>kit_is)
  (case q8k1=>kit_is)
  (case q8k2=>kit_is)
  (case q8k3=>kit_is)
  (case q8k4=>kit_is)
  (case q8k5=>kit_is)
  (case q8k6=>kit_is)
  (case q8k7=>kit_is)
  (case q8k8=>kit_is)
  (case q8k9=>kit_is)
  (case q8k10=>kit_is)
  (case q8k11=>kit_is)
  (case q8k12=>kit_is)
  (case q8k13=>kit_is)
  (case q8k14=>kit_is)
  (case q8k15=>kit_is)
  (case q8k16=>kit_is)
  (case q8k17=>kit_is)
  (case q8k18=>kit_is)
  (case q8k19=>kit_is)
  (case q15x=>k_exc)
  (case q15r=>k_is)
  (case q15g=>k_is)
  (case q15h=>k_is)
  (case q15b=>k_is)
  (case q15c=>k_is)
  (case q15a=>k_is)
  (case q15o=>k_is)
  (case q15v=>kit_is)
  (case q15k1=>kit_is)
  (case q15k2=>kit_is)
  (case q15k3=>kit_is)
  (case q15k4=>kit_is)
  (case q15k5=>kit_is)
  (case q15k6=>kit_is)
  (case q15k7=>kit_is)
  (case q15k8=>kit_is)
  (case q15k9=>kit_is)
  (case q15k10=>kit_is)
  (case q15k11=>kit_is)
  (case q15k12=>kit_is)
  (case q15k13=>kit_is)
  (case q15k14=>kit_is)
  (case q15k15=>kit_is)
  (case q15k16=>kit_is)
  (case q15k17=>kit_is)
  (case q15k18=>kit_is)
  (case q15k19=>kit_is)
